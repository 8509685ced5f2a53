import Derived.Test.YtadneapobijejaaGreatDoorC14
namespace Go.Proofs.YtadneapobijejaaGreatDoor
set_option maxHeartbeats 20000000
set_option maxRecDepth 100000
open Go.RowKit Tryz
section
variable {w:World} {B0 p b q G d:Nat} {vO vF:Value} {ps:List Nat} {s:St}
theorem pC(part:Nat->vD->St->List Ai×St)(h:QS w B0 p b q G s d vO vF ps)(hP:∀W typ s',ln s'<=ln s->NM W B0 p b q G d vO vF ps typ s' (part ps.length typ s')):
 Calls prog 170 #[.pointer (some ⟨p,0,none⟩)] w fun e w'=>Hc w w' B0 p b q G d vO vF ps (JC part ps.length s) e:=by
 obtain⟨u,hu⟩:∃u:Value,u=.pointer (some ⟨q,0,none⟩):=⟨_,rfl⟩;obtain⟨v,hv⟩:∃v:Value,v=.int .i64 d:=⟨_,rfl⟩;have HU:=Aa (uV hu hv);have l0:LQ w w p b G u v s:=by rw[hu,hv];exact h.lq1
 have HS:=Aa h;have HP:=Aa hP;have Q0:=Aa l0;have hlt:=h.rd.lt;have hpl:=l0.lt;have hB:=h.lt;have c:=l0.c0;have HQ:=Aa (JC.eq_1 part ps.length s);generalize JC part ps.length s=FF at*;have HTK:=Aa (fun W (hW:LQ w W p b G u v s)=>Lf W b G s Dl hW.ps);have HFN:=Aa (FP.eq_1 s);have hln1:ln (FP s).2<=ln s:=by
  rw[HFN.o];split
  ·exact tQ (AZ _) (BG _)
  ·exact tL _
 generalize FP s=fn at*;obtain⟨typ,s2⟩:=fn;simp only[]at HQ hln1;have HCN:=Aa (fun W (hW:LQ w W p b G u v s2)=>RS hW.one);have hln3:=LS 801 s2;generalize qConds 801 s2=fc at*;obtain⟨conds,s4⟩:=fc;simp only[]at HQ HCN hln3;clear h l0 hu hv hP;go_enter func170,ntmps170;go_wp2_with fail;refine(HTK.o _ (Q0.o.al _)).mono ?_;rintro _ w1 ⟨rfl,h1,k1⟩;have Q1:=Aa ((Q0.o.al _).call h1 k1);have HZ1:=Aa (k1.at (tS w _) (by omega));have hl1:=Ab HZ1.o;have c1:=Q1.o.c0;have hp1:=Q1.o.lt;have hb1:=h1.lt;have hw1:w.heap.size<=w1.heap.size:=Nat.le_of_lt hl1;clear h1 k1 HTK Q0
 go_upto_if 8 with fail
 go_cut [3] (fun v3 wc=>v3=.string typ/\LQ w wc p b G u v s2/\wc.heap[w.heap.size]?=some (.cells #[.int .i64 0,.string ⟨#[]⟩,.string ⟨#[]⟩,.slice none 0 0,.slice none 0 0,.pointer none] 177 (0,0)))
 case first=>
  cases e9:Bn s Dl
  ·rw[e9]at Q1 HFN
   obtain⟨e1,e2⟩:typ=⟨#[]⟩/\s2=s:=by have:=HFN.o;simpa using this
   subst e1 e2;go_wp2_with fail;go_meet;exact⟨rfl,Q1.o,HZ1.o⟩
  ·rw[e9]at Q1 HFN
   obtain⟨e1,e2⟩:typ=nm (tl s)/\s2=nmT (tl s):=by have:=HFN.o;simpa using this
   have Q1:=Aa (show LQ w w1 p b G u v (tl s)from Q1.o);have HN:=Aa (DX w1 b G (tl s) Q1.o.ps);rw[<-e1,<-e2]at HN;clear e1 e2 HFN;go_wp2_with fail;refine HN.o.mono ?_;rintro _ w3 ⟨rfl,h3,k3⟩;have HZ3:=Aa (k3.at HZ1.o (by omega));have Q3:=Aa (Q1.o.call h3 k3);clear h3 k3;go_wp2_with fail;go_meet;exact⟨rfl,Q3.o,HZ3.o⟩
 case rest=>
 obtain⟨rfl,q3,hZ⟩:=hcut;have Q3:=Aa q3;have HZ3:=Aa hZ;clear q3 hZ HFN HZ1 Q1 c1 hp1 hb1;go_wp2_with fail;refine(HCN.o _ Q3.o).mono ?_;rintro _ w6 ⟨vc,rfl,ho6,hcl,q6⟩;obtain⟨aC,cC,rfl⟩:=An ho6;have HZ6:=Aa (q6.kp.at HZ3.o (by omega));have HOC:=Aa (Fw ho6 Q3.o.kp.size);have Q6:=Aa (Q3.o.tr q6);clear q6 ho6 HCN Q3 HZ3;have HQ6:=Aa (show QS w6 B0 p b q G s4 d vO vF ps from HS.o.rdr (by have:=Q6.o;rw[HU.o.1,HU.o.2]at this;exact this));have HF6:=Aa (show FT B0 kQ w w6 from HS.o.ft Q6.o.kp hB);have wY:=Ab HZ6.o;have hw7:w.heap.size<=w6.heap.size:=Nat.le_of_lt wY;have HPC:=Aa (HP.o w6 typ s4 (by omega) HQ6.o);generalize part ps.length typ s4=pr at*;obtain⟨Ps,s5⟩:=pr;have HQ2:=Aa (show FF=(⟨2,⟨#[]⟩,⟨#[]⟩,[],conds,some ps.length⟩,Ps,s5)from HQ.o);clear HQ HP;simp only[]at HPC;go_wp2_with fail;refine HPC.o.mono ?_;rintro _ w8 ⟨new,k,rfl,hk,hnl,qs8,ft8,pp8⟩;have hZ8:=ft8.at HZ6.o (by decide);have HZ8:=Aa hZ8;have HF8:=Aa (HF6.o.trans ft8);have HOC8:=Aa (ft8.own HOC.o (by decide));have HQ8:=Aa qs8;have xK:=Aa pp8;have HPK:=Aa (show AM (ps++new) (some ps.length)=pV k from by show Value.pointer _=_;rw[hk];rfl);have hlt8:ps.length<(ps++new).length:=by
  rcases Nat.lt_or_ge ps.length (ps++new).length with a|a
  ·exact a
  ·rw[List.getElem?_eq_none a]at hk;cases hk
 have HNL:=Aa (uV hnl hlt8);have cZ:=Ac hZ8;have fZ:=Am hZ8;have hlZ:=Ab hZ8;unfold pV at HPK;clear qs8 ft8 pp8 HPC HZ6 HOC HQ6 HF6 hk hnl hlt8 hZ8;unfold pV;have FIN:=Aa (fun Y (kz:Ag w.heap.size w8 Y)=>(show Hc w Y B0 p b q G d vO vF ps (⟨2,⟨#[]⟩,⟨#[]⟩,[],conds,some ps.length⟩,Ps,s5) (.returned (.agg #[.int .i64 2,.string ⟨#[]⟩,.string ⟨#[]⟩,.slice none 0 0,.slice aC conds.length cC,.pointer (some ⟨k,0,none⟩)]))from
  ⟨new,.slice none 0 0,.slice aC conds.length cC,by show _=Ending.returned (.agg #[.int .i64 2,.string ⟨#[]⟩,.string ⟨#[]⟩,.slice none 0 0,.slice aC conds.length cC,AM (ps++new) (some ps.length)]);rw[HPK.o],HNL.o.1,⟨uA _ _ _ _,(AA.keep (B:=0) (K:=[186]) kz HZ8.o (by decide)).own HOC8.o (by decide) (tU _),by simp,hcl,fun i e=>by cases e;exact HNL.o.2⟩,HQ8.o.typ (AA.keep kz HZ8.o (by decide)),HF8.o.kn kz (tL _) hB,(xK.o.typ' (AA.keepB kz wY)).low hw7⟩))
 go_wp2_with fail;rw[HQ2.o];refine bodyPost_ret (v:=.agg #[.int .i64 2,.string ⟨#[]⟩,.string ⟨#[]⟩,.slice none 0 0,.slice aC conds.length cC,.pointer (some ⟨k,0,none⟩)]) (by simp[results,results170,go_sem, *]) rfl ?_;refine FIN.o _ ?_;repeat' with_reducible first|exact Ag.refl _ _|refine Ag.setCell ?_ _ _
theorem pG(part:Nat->vD->St->List Ai×St)(h:QS w B0 p b q G s d vO vF ps)(hP:∀W typ s',ln s'<ln s->NM W B0 p b q G d vO vF ps typ s' (part ps.length typ s')):
 Calls prog 115 #[.pointer (some ⟨p,0,none⟩)] w fun e w'=>Hc w w' B0 p b q G d vO vF ps (Et part ps.length s) e:=by
 obtain⟨u,hu⟩:∃u:Value,u=.pointer (some ⟨q,0,none⟩):=⟨_,rfl⟩;obtain⟨v,hv⟩:∃v:Value,v=.int .i64 d:=⟨_,rfl⟩;have HU:=Aa (uV hu hv);have l0:LQ w w p b G u v s:=by rw[hu,hv];exact h.lq1
 have HS:=Aa h;have HP:=Aa hP;have Q0:=Aa l0;have hlt:=h.rd.lt;have hpl:=l0.lt;have hB:=h.lt;have c:=l0.c0;have HQ:=Aa (Et.eq_1 part ps.length s);generalize Et part ps.length s=FF at*;have HTK:=Aa (fun W (hW:LQ w W p b G u v s)=>Ev W b G s 4 hW.ps);clear h l0 hu hv hP;have hz:(w.alloc (.cells #[.int .i64 0,.string ⟨#[]⟩,.string ⟨#[]⟩,.slice none 0 0,.slice none 0 0,.pointer none] 177)).heap[w.heap.size]?=some (.cells #[.int .i64 0,.string ⟨#[]⟩,.string ⟨#[]⟩,.slice none 0 0,.slice none 0 0,.pointer none] 177 (0,0)):=tS w _;have HZ0:=Aa hz;clear hz;have HSUB:=Aa (fun(X w8:World) (v8:Value) (r:Aq×List Ai×St) (hf:FT B0 kQ w X) (hz:X.heap[w.heap.size]?=some (.cells #[.int .i64 0,.string ⟨#[]⟩,.string ⟨#[]⟩,.slice none 0 0,.slice none 0 0,.pointer none] 177 (0,0))) (h8:Hc X w8 B0 p b q G d vO vF ps r (.returned v8))=>(show(∃(k:Nat) (b c:vD) (a1:Option Addr) (n1 c1:Nat) (a2:Option Addr) (n2 c2:Nat) (f:Option Addr),v8=.agg #[.int .i64 k,.string b,.string c,.slice a1 n1 c1,.slice a2 n2 c2,.pointer f])/\w8.heap[w.heap.size]?=some (.cells #[.int .i64 0,.string ⟨#[]⟩,.string ⟨#[]⟩,.slice none 0 0,.slice none 0 0,.pointer none] 177 (0,0))/\∀Y,Ag w.heap.size w8 Y->Hc w Y B0 p b q G d vO vF ps r (.returned v8)from by
  obtain⟨new,va,vc,he,hnl,hok,qs8,ft8,pp8⟩:=h8;have hz8:=ft8.at hz (by decide);obtain⟨a1,c1,e1⟩:=An hok.a;obtain⟨a2,c2,e2⟩:=An hok.c;obtain⟨f,e3⟩:∃f,AM (ps++new) r.1.part=.pointer f:=by
   cases r.1.part with
   |none=>exact⟨_,rfl⟩
   |some i=>exact⟨_,rfl⟩
  simp only[]at e1 e2;rw[e3]at he;subst e1 e2;refine⟨⟨_,_,_,_,_,_,_,_,_,_,(Ending.returned.inj he)⟩,hz8,fun Y kz=>⟨new,_,_,by rw[e3];exact he,hnl,?_,qs8.typ (AA.keep kz hz8 (by decide)),(hf.trans ft8).kn kz (tL _) hB,(pp8.typ' (AA.keepB kz (Ab hz))).low (Nat.le_of_lt (Ab hz))⟩⟩;exact(hok.typ (AA.keepB kz (Ab hz)) (tL _)).low (Nat.le_of_lt (Ab hz))))
 cases e4:Ad s 4
 ·rw[e4]at HQ HTK
  have HQ2:=Aa (show FF=Iv part ps.length s from HQ.o);have HFC:=Aa (fun W (hW:QS W B0 p b q G s d vO vF ps)=>pA part hW (fun W' typ s' hl hk=>HP.o W' typ s' (by
   have:=EG s' 14 (by decide) hk;rcases hs:Ad s 1 with _|_
   ·have:nmT s=none:=by unfold nmT;rw[hs];rfl
    rw[this]at hl;have h0:ln (none:St)=0:=rfl;omega
   ·have:=KQ s hs;omega)))
  clear HQ e4;generalize Iv part ps.length s=R at*;go_enter func115,ntmps115;go_wp2_with fail;refine(HTK.o _ (Q0.o.al _)).mono ?_;rintro _ w1 ⟨rfl,h1,k1⟩;have Q1:=Aa (show LQ w w1 p b G u v s from(Q0.o.al _).call h1 k1);have HZ1:=Aa (k1.at HZ0.o (by omega));have HQ1:=Aa (show QS w1 B0 p b q G s d vO vF ps from HS.o.rdr (by have:=Q1.o;rw[HU.o.1,HU.o.2]at this;exact this));have HF1:=Aa (show FT B0 kQ w w1 from HS.o.ft Q1.o.kp hB);clear h1 k1;go_wp2_with fail;refine(HFC.o _ HQ1.o).mono ?_;intro e8 w8 h8;obtain⟨v8,rfl⟩:∃v8,e8=.returned v8:=by obtain⟨_,_,_,he,_⟩:=h8;exact⟨_,he⟩
  obtain⟨⟨x0,x1,x2,x3,x4,x5,x6,x7,x8,x9,rfl⟩,hz8,fin⟩:=HSUB.o w1 w8 v8 R HF1.o HZ1.o h8;have FIN:=Aa fin;have cZ:=Ac hz8;have fZ:=Am hz8;have hlZ:=Ab hz8;clear h8 fin hz8;go_wp2_with fail;rw[HQ2.o];refine bodyPost_ret (v:=.agg #[.int .i64 x0,.string x1,.string x2,.slice x3 x4 x5,.slice x6 x7 x8,.pointer x9]) (by simp[results,results115,go_sem, *]) rfl ?_;refine FIN.o _ ?_;repeat' with_reducible first|exact Ag.refl _ _|refine Ag.setCell ?_ _ _
 ·rw[e4]at HQ
  have HTK:=Aa (fun W (hW:LQ w W p b G u v s)=>(show Calls prog 117 _ W (fun e w'=>e=.returned (.bool true)/\PS w' b G (tl s)/\Ag b W w')from by have:=HTK.o W hW;rw[e4]at this;exact this));have hl4:=EG s 4 (by decide) e4;have HQ:=Aa (show FF=(if (Ad (tl s) 1&&!Bn (tl s) Dl)=true then(⟨1,⟨#[]⟩,nm (tl s),[],(qConds 801 (nmT (tl s))).1,none⟩,[],(qConds 801 (nmT (tl s))).2)else JC part ps.length (tl s))from HQ.o);generalize tl s=s1 at*;have HSE:=Aa (fun W (hW:LQ w W p b G u v s1)=>GS W b G s1 1 hW.ps);have HSW:=Aa (fun W (hW:LQ w W p b G u v s1)=>Sc W b G s1 Dl hW.ps);have HFC:=Aa (fun W (hW:QS W B0 p b q G s1 d vO vF ps)=>pC part hW (fun W' typ s' hl=>HP.o W' typ s' (by omega)));clear HP;generalize JC part ps.length s1=R at*;have FINI:=Aa (fun(X:World) (q1:LQ w X p b G u v s1) (hz:X.heap[w.heap.size]?=some (.cells #[.int .i64 0,.string ⟨#[]⟩,.string ⟨#[]⟩,.slice none 0 0,.slice none 0 0,.pointer none] 177 (0,0)))=>(show QS X B0 p b q G s1 d vO vF ps/\FT B0 kQ w X from⟨HS.o.rdr (by rw[HU.o.1,HU.o.2]at q1;exact q1),HS.o.ft q1.kp hB⟩));cases e1:Ad s1 1
  ·rw[e1]at HSE HQ
   have HQ2:=Aa (show FF=R from HQ.o);clear HQ e1;go_enter func115,ntmps115;go_wp2_with fail;refine(HTK.o _ (Q0.o.al _)).mono ?_;rintro _ w1 ⟨rfl,h1,k1⟩;have Q1:=Aa (show LQ w w1 p b G u v s1 from(Q0.o.al _).call h1 k1);have HZ1:=Aa (k1.at HZ0.o (by omega));have c1:=Q1.o.c0;have hp1:=Q1.o.lt;clear h1 k1;go_wp2_with fail;refine(HSE.o _ Q1.o).mono ?_;rintro _ w2 ⟨rfl,b2⟩;have Q2:=Aa (Q1.o.be b2);have HZ2:=Aa ((b2.block _ (Ab HZ1.o)).trans HZ1.o);clear b2;have hI:=FINI.o w2 Q2.o HZ2.o;have HQ1:=Aa hI.1;have HF1:=Aa hI.2;clear hI;go_wp2_with fail;refine(HFC.o _ HQ1.o).mono ?_;intro e8 w8 h8;obtain⟨v8,rfl⟩:∃v8,e8=.returned v8:=by obtain⟨_,_,_,he,_⟩:=h8;exact⟨_,he⟩
   obtain⟨⟨x0,x1,x2,x3,x4,x5,x6,x7,x8,x9,rfl⟩,hz8,fin⟩:=HSUB.o w2 w8 v8 R HF1.o HZ2.o h8;have FIN:=Aa fin;have cZ:=Ac hz8;have fZ:=Am hz8;have hlZ:=Ab hz8;clear h8 fin hz8;go_wp2_with fail;rw[HQ2.o];refine bodyPost_ret (v:=.agg #[.int .i64 x0,.string x1,.string x2,.slice x3 x4 x5,.slice x6 x7 x8,.pointer x9]) (by simp[results,results115,go_sem, *]) rfl ?_;refine FIN.o _ ?_;repeat' with_reducible first|exact Ag.refl _ _|refine Ag.setCell ?_ _ _
  ·rw[e1]at HSE HQ
   cases eo:Bn s1 Dl
   rotate_left
   ·rw[eo]at HSW HQ
    have HQ2:=Aa (show FF=R from HQ.o);clear HQ e1 eo;go_enter func115,ntmps115;go_wp2_with fail;refine(HTK.o _ (Q0.o.al _)).mono ?_;rintro _ w1 ⟨rfl,h1,k1⟩;have Q1:=Aa (show LQ w w1 p b G u v s1 from(Q0.o.al _).call h1 k1);have HZ1:=Aa (k1.at HZ0.o (by omega));have c1:=Q1.o.c0;have hp1:=Q1.o.lt;clear h1 k1;go_wp2_with fail;refine(HSE.o _ Q1.o).mono ?_;rintro _ w2 ⟨rfl,b2⟩;have Q2:=Aa (Q1.o.be b2);have HZ2:=Aa ((b2.block _ (Ab HZ1.o)).trans HZ1.o);have c2:=Q2.o.c0;have hp2:=Q2.o.lt;clear b2;go_wp2_with fail;refine(HSW.o _ Q2.o).mono ?_;rintro _ w3 ⟨rfl,b3⟩;have Q3:=Aa (Q2.o.be b3);have HZ3:=Aa ((b3.block _ (Ab HZ2.o)).trans HZ2.o);clear b3;have hI:=FINI.o w3 Q3.o HZ3.o;have HQ1:=Aa hI.1;have HF1:=Aa hI.2;clear hI;go_wp2_with fail;refine(HFC.o _ HQ1.o).mono ?_;intro e8 w8 h8;obtain⟨v8,rfl⟩:∃v8,e8=.returned v8:=by obtain⟨_,_,_,he,_⟩:=h8;exact⟨_,he⟩
    obtain⟨⟨x0,x1,x2,x3,x4,x5,x6,x7,x8,x9,rfl⟩,hz8,fin⟩:=HSUB.o w3 w8 v8 R HF1.o HZ3.o h8;have FIN:=Aa fin;have cZ:=Ac hz8;have fZ:=Am hz8;have hlZ:=Ab hz8;clear h8 fin hz8;go_wp2_with fail;rw[HQ2.o];refine bodyPost_ret (v:=.agg #[.int .i64 x0,.string x1,.string x2,.slice x3 x4 x5,.slice x6 x7 x8,.pointer x9]) (by simp[results,results115,go_sem, *]) rfl ?_;refine FIN.o _ ?_;repeat' with_reducible first|exact Ag.refl _ _|refine Ag.setCell ?_ _ _
   ·rw[eo]at HSW HQ
    have HN:=Aa (fun W (hW:LQ w W p b G u v s1)=>DX W b G s1 hW.ps);have HCN:=Aa (fun W (hW:LQ w W p b G u v (nmT s1))=>RS hW.one);have HQ2:=Aa (show FF=(⟨1,⟨#[]⟩,nm s1,[],(qConds 801 (nmT s1)).1,none⟩,[],(qConds 801 (nmT s1)).2)from HQ.o);clear HQ e1 eo HFC;generalize qConds 801 (nmT s1)=fc at*;obtain⟨conds,s4⟩:=fc;generalize nmT s1=s2 at*;generalize nm s1=n1 at*;simp only[]at HCN HQ2;go_enter func115,ntmps115;go_wp2_with fail;refine(HTK.o _ (Q0.o.al _)).mono ?_;rintro _ w1 ⟨rfl,h1,k1⟩;have Q1:=Aa (show LQ w w1 p b G u v s1 from(Q0.o.al _).call h1 k1);have HZ1:=Aa (k1.at HZ0.o (by omega));have c1:=Q1.o.c0;have hp1:=Q1.o.lt;clear h1 k1;go_wp2_with fail;refine(HSE.o _ Q1.o).mono ?_;rintro _ w2 ⟨rfl,b2⟩;have Q2:=Aa (Q1.o.be b2);have HZ2:=Aa ((b2.block _ (Ab HZ1.o)).trans HZ1.o);have c2:=Q2.o.c0;have hp2:=Q2.o.lt;clear b2;go_wp2_with fail;refine(HSW.o _ Q2.o).mono ?_;rintro _ w3 ⟨rfl,b3⟩;have Q3:=Aa (Q2.o.be b3);have HZ3:=Aa ((b3.block _ (Ab HZ2.o)).trans HZ2.o);have c3:=Q3.o.c0;have hp3:=Q3.o.lt;have hb3:=Q3.o.ps.lt;clear b3;go_wp2_with fail;refine(HN.o _ Q3.o).mono ?_;rintro _ w4 ⟨rfl,h4,k4⟩;have Q4:=Aa (Q3.o.call h4 k4);have HZ4:=Aa (k4.at HZ3.o (by omega));clear h4 k4;go_wp2_with fail;refine(HCN.o _ Q4.o).mono ?_;rintro _ w6 ⟨vc,rfl,ho6,hcl,q6⟩;obtain⟨aC,cC,rfl⟩:=An ho6;have hz6:=q6.kp.at HZ4.o (by omega);have HZ6:=Aa hz6;have HOC:=Aa (Fw ho6 Q4.o.kp.size);have Q6:=Aa (Q4.o.tr q6);have HQ6:=Aa (show QS w6 B0 p b q G s4 d vO vF ps from HS.o.rdr (by have:=Q6.o;rw[HU.o.1,HU.o.2]at this;exact this));have HF6:=Aa (show FT B0 kQ w w6 from HS.o.ft Q6.o.kp hB);have FIN:=Aa (fun Y (kz:Ag w.heap.size w6 Y)=>(show Hc w Y B0 p b q G d vO vF ps (⟨1,⟨#[]⟩,n1,[],conds,none⟩,[],s4) (.returned (.agg #[.int .i64 1,.string ⟨#[]⟩,.string n1,.slice none 0 0,.slice aC conds.length cC,.pointer none]))from
     ⟨[],.slice none 0 0,.slice aC conds.length cC,rfl,rfl,⟨uA _ _ _ _,(AA.keep (B:=0) (K:=[186]) kz HZ6.o (by decide)).own HOC.o (by decide) (tU _),by simp,hcl,fun i e=>by cases e⟩,by rw[List.append_nil];exact HQ6.o.typ (AA.keep kz HZ6.o (by decide)),HF6.o.kn kz (tL _) hB,Bh.nil⟩))
    have cZ:=Ac hz6;have fZ:=Am hz6;have hlZ:=Ab hz6;clear q6 ho6 hz6;go_wp2_with fail;rw[HQ2.o];refine bodyPost_ret (v:=.agg #[.int .i64 1,.string ⟨#[]⟩,.string n1,.slice none 0 0,.slice aC conds.length cC,.pointer none]) (by simp[results,results115,go_sem, *]) rfl ?_;refine FIN.o _ ?_;repeat' with_reducible first|exact Ag.refl _ _|refine Ag.setCell ?_ _ _
end
def GA(X:World)(B0:Nat)(pp:List Nat)(i:Nat)(P:Ai)(Q:Nat->Prop):Prop:=
 ∃k vS,∃L:List SX,pp[i]?=some k/\X.heap[k]?=some (.cells #[.string P.typ,.int .i64 i,vS] 171 (0,0))/\B0<=k/\L.map Prod.fst=P.sels/\X.ownsRow B0 177 6 vS L.length (L.flatMap (sL pp))/\L.length<=1000/\(∀x∈L,Dr X B0 pp.length x)/\∀g,vS.ownBlock=some g->Q g
def DJ(Q:Nat->Prop)(X Y:World):Prop:=∀(k:Nat) (cs:Array Value) (t:TypeId) (fr:Nat×Nat),X.heap[k]?=some (.cells cs t fr)->t∈[171,184,186]\/(t=177/\Q k)->Y.heap[k]?=some (.cells cs t fr)
section
variable {w X Y Z:World} {B0 B1 n m i:Nat} {pp new:List Nat} {x:SX} {P:Ai} {Q Q':Nat->Prop}
theorem Ir{X Y:World}{B size n:Nat}{e:TypeId}{v:Value}{xs:List Value}(h:X.ownsRow B e size v n xs)(hY:∀k cur,v.ownBlock=some k->X.heap[k]?=some (.cells cur e (0,0))->Y.heap[k]?=some (.cells cur e (0,0))):Y.ownsRow B e size v n xs:=by
 refine⟨h.1,?_⟩;rcases h.2 with q|⟨g,cap,cur,hv,hg,hh,r⟩
 ·exact Or.inl q
 ·exact Or.inr ⟨g,cap,cur,hv,hg,hY g cur (by rw[hv];rfl) hh,r⟩
theorem Dr.stq(h:Dr X B0 n x)(hY:DJ Q X Y)(hn:n<=m):Dr Y B0 m x:=
 ⟨Ir h.a (fun k cur _ hk=>hY k cur _ _ hk (.inl (by decide))),Ir h.c (fun k cur _ hk=>hY k cur _ _ hk (.inl (by decide))),h.al,h.cl,fun i e=>tV (h.p i e) hn⟩
theorem GA.move(h:GA X B0 pp i P Q)(hY:DJ Q X Y)(hQ:∀g,g<X.heap.size->Q g->Q' g):GA Y B0 (pp++new) i P Q':=by
 obtain⟨k,vS,L,h1,h2,h3,h4,h5,h6,h7,h8⟩:=h;have hl:i<pp.length:=by
  rcases Nat.lt_or_ge i pp.length with a|a
  ·exact a
  ·rw[List.getElem?_eq_none a]at h1;cases h1
 exact⟨k,vS,L,by rw[uI hl];exact h1,hY _ _ _ _ h2 (.inl (by decide)),h3,h4,by rw[QH h7];exact Ir h5 (fun g cur e hg=>hY g cur _ _ hg (.inr ⟨rfl,h8 g e⟩)),h6,fun x hx=>(h7 x hx).stq hY (by simp),fun g e=>hQ g (by obtain⟨c,hc⟩:=Fx h5 g e;exact Ab hc) (h8 g e)⟩
theorem CH.q(h:CH X B0 pp i P):GA X B0 pp i P (fun g=>B0<=g/\g<X.heap.size):=by
 obtain⟨k,vS,L,h1,h2,h3,h4,h5,h6,h7⟩:=h.ex;exact⟨k,vS,L,h1,h2,h3,h4,h5,h6,h7,fun g e=>h5.lt g e⟩
theorem GA.at(h:GA X B0 pp i P Q):CH X B0 pp i P:=by
 obtain⟨k,vS,L,h1,h2,h3,h4,h5,h6,h7,_⟩:=h;exact⟨k,vS,L,h1,h2,h3,h4,h5,h6,h7⟩
theorem GA.low(h:GA X B0 pp i P Q)(hb:B1<=B0):GA X B1 pp i P Q:=by
 obtain⟨k,vS,L,h1,h2,h3,h4,h5,h6,h7,h8⟩:=h;exact⟨k,vS,L,h1,h2,tQ hb h3,h4,Fw h5 hb,h6,fun x hx=>(h7 x hx).low hb,h8⟩
theorem DJ.refl:DJ Q X X:=fun _ _ _ _ h _=>h
theorem DJ.trans(h:DJ Q X Y)(k:DJ Q Y Z):DJ Q X Z:=fun i cs t fr hi ht=>k i cs t fr (h i cs t fr hi ht) ht
theorem DJ.ft{K:List TypeId}(h:FT B0 K X Y)(hK:∀t∈[171,184,186,177],t∉K):DJ Q X Y:=fun k cs t fr hk ht=>h.at hk (by
 rcases ht with ht|⟨rfl,_⟩
 ·exact hK t (by simp at ht⊢;rcases ht with e|e|e<;>simp[e])
 ·exact hK _ (by decide))
theorem DJ.below(h:vE X Y):DJ Q X Y:=fun k _ _ _ hk _=>(h.block k (Ab hk)).trans hk
theorem DJ.grown{v:Value}{n size:Nat}{xs:List Value}(hg:X.grownBy Y v.ownBlock)(ho:X.ownsRow B0 177 size v n xs)(hQ:∀g,Q g->v.ownBlock≠some g):DJ Q X Y:=fun k cs t fr hk ht=>
 (hg.block k (Ab hk) (fun e=>by
  rcases ht with ht|⟨_,hq⟩
  ·obtain⟨c,hc⟩:=Fx ho k e.symm
   rw[hc]at hk;cases hk;exact absurd ht (by decide)
  ·exact hQ k hq e.symm)).trans hk
end
theorem Jp{X Y:World}{o:Obj}{B size n k:Nat}{e T:TypeId}{v:Value}{xs:List Value}{cs:Array Value}{fr:Nat×Nat}(ho:X.ownsRow B e size v n xs)(hg:(X.alloc o).grownBy Y v.ownBlock)(h:X.heap[k]?=some (.cells cs T fr))(hT:T≠e):Y.heap[k]?=some (.cells cs T fr):=
 (hg.block k (by have:=Ab h;simp;omega) (fun q=>Bv ho h hT q.symm)).trans ((AK _ _ _ (Ab h)).trans h)
structure DR(w X:World)(B0 p b q G d:Nat)(vO vF:Value)(typ:vD)(ps1:List Nat)(n k0:Nat)(L:List SX)(Ps:List Ai)(new:List Nat)(v:Value)(s:St):Prop where
 qs:QS X B0 p b q G s d vO vF (ps1++new)
 ft:FT B0 kQ w X
 blk:X.heap[k0]?=some (.cells #[.string typ,.int .i64 n,v] 171 (0,0))
 own:X.ownsRow w.heap.size 177 6 v L.length (L.flatMap (sL (ps1++new)))
 ok:∀x∈L,Dr X w.heap.size (ps1++new).length x
 nl:new.length=Ps.length
 pt:∀j P,Ps[j]?=some P->GA X (w.heap.size+1) (ps1++new) (ps1.length+j) P (fun g=>v.ownBlock≠some g)
 hk:k0=w.heap.size
section
variable {w X Y:World} {B0 p b q G d n k0:Nat} {vO vF v:Value} {typ:vD} {ps1 new:List Nat} {L:List SX} {Ps:List Ai} {s s':St}
theorem DR.move(h:DR w X B0 p b q G d vO vF typ ps1 n k0 L Ps new v s)(hq:QS Y B0 p b q G s' d vO vF (ps1++new))(hf:FT B0 kQ X Y):DR w Y B0 p b q G d vO vF typ ps1 n k0 L Ps new v s':=
 ⟨hq,h.ft.trans hf,hf.at h.blk (by decide),hf.own h.own (by decide),fun x hx=>(h.ok x hx).stq (Q:=fun _=>True) (DJ.ft hf (by decide)) (tL _),h.nl,fun j P hj=>by
  have:=(h.pt j P hj).move (new:=[]) (Y:=Y) (Q':=fun g=>v.ownBlock≠some g) (DJ.ft hf (by decide)) (fun g _ e=>e)
  rwa [List.append_nil]at this,h.hk⟩
theorem DR.call(h:DR w X B0 p b q G d vO vF typ ps1 n k0 L Ps new v s)(hp:PS Y b G s')(k:Ag b X Y):DR w Y B0 p b q G d vO vF typ ps1 n k0 L Ps new v s':=h.move (h.qs.call hp k) (h.qs.ft k h.qs.lt)
theorem DR.be(h:DR w X B0 p b q G d vO vF typ ps1 n k0 L Ps new v s)(k:vE X Y):DR w Y B0 p b q G d vO vF typ ps1 n k0 L Ps new v s:=h.move (h.qs.be k) (FT.of_below k h.qs.lt)
theorem Hc.shape{W w6:World}{ps:List Nat}{r:Aq×List Ai×St}{e:Ending}(h:Hc W w6 B0 p b q G d vO vF ps r e):∃new a1 c1 a2 c2 f,e=.returned (.agg #[.int .i64 r.1.kind,.string r.1.key,.string r.1.name,.slice a1 r.1.args.length c1,.slice a2 r.1.conds.length c2,.pointer f])/\AM (ps++new) r.1.part=.pointer f/\new.length=r.2.1.length/\Dr w6 W.heap.size (ps++new).length (r.1,.slice a1 r.1.args.length c1,.slice a2 r.1.conds.length c2)/\QS w6 B0 p b q G r.2.2 d vO vF (ps++new)/\FT B0 kQ W w6/\Bh w6 W.heap.size (ps++new) ps.length r.2.1:=by
 obtain⟨new,va,vc,he,hnl,hok,qs8,ft8,pp8⟩:=h;obtain⟨a1,c1,e1⟩:=An hok.a;obtain⟨a2,c2,e2⟩:=An hok.c;obtain⟨f,e3⟩:∃f,AM (ps++new) r.1.part=.pointer f:=by
  cases r.1.part with
  |none=>exact⟨_,rfl⟩
  |some i=>exact⟨_,rfl⟩
 simp only[]at e1 e2;rw[e3]at he;subst e1 e2;exact⟨new,a1,c1,a2,c2,f,he,e3,hnl,hok,qs8,ft8,pp8⟩
theorem DR.own6{w6:World}(h:DR w X B0 p b q G d vO vF typ ps1 n k0 L Ps new v s)(ft6:FT B0 kQ X w6):w6.ownsRow w.heap.size 177 6 v L.length (L.flatMap (sL (ps1++new))):=ft6.own h.own (by decide)
theorem DR.step{w6 w7:World}{o:Obj}{new':List Nat}{r:Aq×List Ai×St}{va vc:Value}{g cap:Nat}(h:DR w X B0 p b q G d vO vF typ ps1 n k0 L Ps new v s)
 (hnl:new'.length=r.2.1.length) (hok:Dr w6 X.heap.size (ps1++new++new').length (r.1,va,vc)) (qs6:QS w6 B0 p b q G r.2.2 d vO vF (ps1++new++new')) (ft6:FT B0 kQ X w6) (pp6:Bh w6 X.heap.size (ps1++new++new') (ps1++new).length r.2.1)
 (vJ:w7.ownsRow w.heap.size 177 6 (.slice (some ⟨g,0,none⟩) (L.length+1) cap) (L.length+1) (L.flatMap (sL (ps1++new))++sL (ps1++new++new') (r.1,va,vc))) (hg:(w6.alloc o).grownBy w7 v.ownBlock) (hat:v.ownBlock=some g\/g=w6.heap.size+1) (hne:w7.heap[k0]?=some (.cells #[.string typ,.int .i64 n,v] 171 (0,0))):
 DR w (w7.setCell ⟨k0,2,none⟩ (.slice (some ⟨g,0,none⟩) (L.length+1) cap)) B0 p b q G d vO vF typ ps1 n k0 (L++[(r.1,va,vc)]) (Ps++r.2.1) (new++new') (.slice (some ⟨g,0,none⟩) (L.length+1) cap) r.2.2:=by
 have ho6:=h.own6 ft6;have ho6a:(w6.alloc o).ownsRow w.heap.size 177 6 v L.length (L.flatMap (sL (ps1++new))):=ho6.alloc o;have hwX:=h.ft.size;have hX6:=ft6.size
 have hB:B0<=w.heap.size:=by have:=h.hk;have h1:=Ab h.blk;have:=h.qs.lt;rcases Nat.lt_or_ge w.heap.size B0 with a|a
                             ·exact absurd (h.ft.low w.heap.size a) (by rw[<-h.hk,h.blk,h.hk];simp)
                             ·exact a
 have V1:DJ (fun g'=>v.ownBlock≠some g') w6 w7:=(DJ.below ((tM _ _).alloc (tL _) _)).trans (DJ.grown hg ho6a (fun _ e=>e));have nk:∀g',(v.ownBlock≠some g')->g'<w6.heap.size->(Value.slice (some ⟨g,0,none⟩) (L.length+1) cap).ownBlock≠some g':=fun g' h1 h2 e=>by
  have e1:g=g':=tY e;subst e1;rcases hat with a|a
  ·exact h1 a
  ·omega
 have hk0:=h.hk;have setQ:∀(P:Ai) i pp Q,GA w7 (w.heap.size+1) pp i P Q->GA (w7.setCell ⟨k0,2,none⟩ (.slice (some ⟨g,0,none⟩) (L.length+1) cap)) (w.heap.size+1) pp i P Q:=fun P i pp Q hp=>by
  obtain⟨k,vS,L',h1,h2,h3,h4,h5,h6,h7,h8⟩:=hp;refine⟨k,vS,L',h1,DT h2 (by omega) _,h3,h4,Di h5 (Bv h5 hne (by decide)) _ _,h6,fun x hx=>?_,h8⟩;have hx:=h7 x hx;exact⟨Di hx.a (Bv hx.a hne (by decide)) _ _,Di hx.c (Bv hx.c hne (by decide)) _ _,hx.al,hx.cl,hx.p⟩
 have setO:∀x m,Dr w7 w.heap.size m x->Dr (w7.setCell ⟨k0,2,none⟩ (.slice (some ⟨g,0,none⟩) (L.length+1) cap)) w.heap.size m x:=fun x m hx=>
  ⟨Di hx.a (Bv hx.a hne (by decide)) _ _,Di hx.c (Bv hx.c hne (by decide)) _ _,hx.al,hx.cl,hx.p⟩
 refine⟨?_,?_,AI hne 2 _,?_,?_,?_,?_,hk0⟩
 ·rw[<-List.append_assoc]
  exact(qs6.typ ((AA.alloc o).trans (AA.grown hg ho6a (by decide)))).st hne (by decide) 2 _
 ·exact((((h.ft.trans ft6).al hB o).gr hg (fun k hk=>.inr ((ho6a.lt k hk).1)) hB)).sn hB _ (by show w.heap.size<=k0;omega) _
 ·have e:(L++[(r.1,va,vc)]).flatMap (sL (ps1++(new++new')))=L.flatMap (sL (ps1++new))++sL (ps1++new++new') (r.1,va,vc):=by
   rw[List.flatMap_append,<-List.append_assoc,QH h.ok];simp
  rw[e,uE];exact Di vJ (Bv vJ hne (by decide)) _ _
 ·intro x hx
  refine setO x _ ?_;rcases uZ.1 hx with hx|hx
  ·exact((h.ok x hx).stq (Q:=fun g'=>v.ownBlock≠some g') ((DJ.ft ft6 (by decide)).trans V1) (by simp))
  ·rw[List.mem_singleton]at hx;subst hx
   exact(hok.low hwX).stq V1 (by rw[List.append_assoc];exact tL _)
 ·rw[uE,uE,hnl,h.nl]
 ·intro j P hj
  refine setQ P _ _ _ ?_;rcases Nat.lt_or_ge j Ps.length with a|a
  ·rw[uI a]at hj
   have:=(h.pt j P hj).move (new:=new') (Y:=w7) (Q':=fun g'=>(Value.slice (some ⟨g,0,none⟩) (L.length+1) cap).ownBlock≠some g') ((DJ.ft ft6 (by decide)).trans V1) (fun g' hl e=>nk g' e (by omega))
   rwa [List.append_assoc]at this
  ·rw[uJ a]at hj
   have h1:=(pp6 _ P hj).q.low (B1:=w.heap.size+1) (by have:=Ab h.blk;omega);have h2:GA w6 (w.heap.size+1) (ps1++new++new') ((ps1++new).length+(j-Ps.length)) P (fun g'=>v.ownBlock≠some g'/\g'<w6.heap.size):=by
    have:=h1.move (new:=[]) (Y:=w6) (Q':=fun g'=>v.ownBlock≠some g'/\g'<w6.heap.size) DJ.refl (fun g' _ e=>⟨fun e1=>by have:=(h.own.lt g' e1).2;omega,e.2⟩)
    rwa [List.append_nil]at this
   have h3:=h2.move (new:=[]) (Y:=w7) (Q':=fun g'=>(Value.slice (some ⟨g,0,none⟩) (L.length+1) cap).ownBlock≠some g') (fun k cs t fr hk ht=>V1 k cs t fr hk (ht.imp (fun e=>e) (fun e=>⟨e.1,e.2.1⟩))) (fun g' _ e=>nk g' e.1 e.2);rw[List.append_nil,List.append_assoc]at h3
   rwa [show(ps1++new).length+(j-Ps.length)=ps1.length+j by rw[uE,h.nl];omega]at h3
theorem QS.setd{X:World}{ps:List Nat}(h:QS X B0 p b q G s d vO vF ps)(d':Nat):QS (X.setCell ⟨p,2,none⟩ (.int .i64 d')) B0 p b q G s d' vO vF ps:=by
 obtain⟨vP,h1,h2⟩:=h.qy;have V:AA 0 [155,103,80,89] X (X.setCell ⟨p,2,none⟩ (.int .i64 d')):=AA.set h.pa (by decide) _ _;exact⟨h.rd.typ V (by decide) (by decide),AI h.pa 2 _,⟨vP,V.2 _ _ _ _ (tU _) h1 (by decide),V.own h2 (by decide) (tU _)⟩,h.lb,h.lp,h.lq⟩
theorem DR.fin{ps:List Nat}(h:DR w X B0 p b q G d vO vF typ (ps++[w.heap.size]) ps.length w.heap.size L Ps new v s)(hL:L.length<=1000)(d':Nat):
 QS (X.setCell ⟨p,2,none⟩ (.int .i64 d')) B0 p b q G s d' vO vF (ps++(w.heap.size::new))/\FT B0 kQ w (X.setCell ⟨p,2,none⟩ (.int .i64 d'))/\Bh (X.setCell ⟨p,2,none⟩ (.int .i64 d')) w.heap.size (ps++(w.heap.size::new)) ps.length (⟨typ,L.map Prod.fst⟩::Ps):=by
 have hpa:=h.qs.pa;have e:ps++[w.heap.size]++new=ps++(w.heap.size::new):=by simp
 have hS:AA w.heap.size kP X (X.setCell ⟨p,2,none⟩ (.int .i64 d')):=AA.set hpa (by decide) _ _;refine⟨by rw[<-e];exact h.qs.setd d',h.ft.st hpa (by decide) h.qs.lp 2 _,?_⟩;rw[<-e];refine Bh.cons ?_ ?_
 ·refine CH.typ' ⟨w.heap.size,v,L,by simp,h.blk,tL _,rfl,h.own,hL,h.ok⟩ hS
 ·intro j P hj
  have:=((h.pt j P hj).at.low (Nat.le_succ _)).typ' hS
  rwa [uE,List.length_singleton]at this
end
end Go.Proofs.YtadneapobijejaaGreatDoor
