import Derived.Test.YtgbloieahmkcjaaGreatC15
import Derived.Deep.RegionLaw
import Derived.Deep.AppendLies
import Derived.Deep.DrawnRows
import Derived.Deep.DeepCutAuto
namespace Go.Proofs.YtgbloieahmkcjaaGreat
set_option maxHeartbeats 20000000
set_option maxRecDepth 100000
open Go.RowKit Tryz
attribute [local go_sem ↓] Go.wp_at_zero Go.wp_at_succ
theorem Ic(x:Ls)(w:World):Calls prog 129 #[.string x] w fun e w'=>e=.returned (.bool (kg x))/\w'=w:=by
 have HQ:=aa (Av x);cases t1:(x.toList==[114,111,108,101])
 ·cases t2:(x.toList==[116,121,112,101])
  ·cases t3:(x.toList==[105,110,116,101,114,102,97,99,101])
   ·cases t4:(x.toList==[117,110,105,111,110])
    ·go_enter func129,ntmps129
     go_wp2
     go_ret;exact⟨am (by rw[HQ.o,t1,t2,t3,t4];rfl),rfl⟩
    ·go_enter func129,ntmps129
     go_wp2
     go_ret;exact⟨am (by rw[HQ.o,t1,t2,t3,t4];rfl),rfl⟩
   ·go_enter func129,ntmps129
    go_wp2
    go_ret;exact⟨am (by rw[HQ.o,t1,t2,t3];rfl),rfl⟩
  ·go_enter func129,ntmps129
   go_wp2
   go_ret;exact⟨am (by rw[HQ.o,t1,t2];rfl),rfl⟩
 ·go_enter func129,ntmps129
  go_wp2
  go_ret;exact⟨am (by rw[HQ.o,t1];rfl),rfl⟩
def eH:Nat->St->List Ls×St
 |0,s=>([],s)
 |f+1,s=>if ia s=true then(nm s::(eH f (ab s)).1,(eH f (ab s)).2)else([],s)
theorem uq(f:Nat)(s:St)(h:ia s=false):eH f s=([],s):=by
 cases f with
 |zero=>rfl
 |succ f=>rw[eH,K8 (by rw[h];simp)]
def mq(r:List Ls×St):St:=if r.1.length=0 then none else r.2
def fB(s:St):aj×St:=
 if af (ab s) 9=true then(⟨nm s,(eH 801 (tl (ab s))).1⟩,mq (eH 801 (tl (ab s))))else(⟨nm s,[]⟩,ab s)
theorem info9':(prog.info? 9).map (fun i=>(i.zero,i.size,i.bytes))=some (some (.string ⟨#[]⟩),1,16):=by kernel_rfl
theorem xn{w:World}{B size n k:Nat}{e:TypeId}{v:Value}{xs:List Value}(h:w.ownsRow B e size v n xs)(hk:k<B):Option.some k≠v.ownBlock:=fun x=>by
 rcases h.2 with⟨y,_⟩|⟨g,cap,cur,hv,hg,_⟩
 ·rw[y]at x;cases x
 ·rw[hv]at x;have:=KY (show some k=some g from x);omega
section
variable {w X Y:World} {p b S G N B0 size n:Nat} {s:St} {e:TypeId} {v:Value} {xs:List Value} {o o':Obj}
theorem PQ.app(q:PQ w X p b S G s)(ho:X.ownsRow B0 e size v n xs)(hg:(X.alloc o).grownBy Y v.ownBlock)(hN:w.heap.size<=N)(hB:w.heap.size<=B0)(i:Nat)(u:Value):PQ w (Y.setCell ⟨N,i,none⟩ u) p b S G s:=
 ((q.al _).gr hg (fun k hk=>KP hB (ho.lt k hk).1)).st _ hN _
theorem oP{k:Nat}(ho:X.ownsRow B0 e size v n xs)(hg:(X.alloc o).grownBy Y v.ownBlock)(hk:k<B0)(h:X.heap[k]?=some o'):Y.heap[k]?=some o':=
 (hg.block k (by have:=ag h;simp;omega) (xn ho hk)).trans ((bp _ _ _ (ag h)).trans h)
theorem qM{k:Nat}(ho:X.ownsRow B0 e size v n xs)(hg:(X.alloc o).grownBy Y v.ownBlock)(hk:k<B0)(h:X.heap[k]?=some o')(hne:k≠N)(i:Nat)(u:Value):(Y.setCell ⟨N,i,none⟩ u).heap[k]?=some o':=
 (KX _ _ _ _ hne).trans (oP ho hg hk h)
theorem lq(h:X.ownsRow B0 e size v n xs)(hN:N<B0)(i:Nat)(u:Value):(X.setCell ⟨N,i,none⟩ u).ownsRow B0 e size v n xs:=by
 refine⟨h.1,?_⟩;rcases h.2 with h|⟨g,cap,cur,h1,h2,h3,h4⟩
 ·exact Or.inl h
 ·exact Or.inr ⟨g,cap,cur,h1,h2,(KX _ _ _ _ (show g≠N by omega)).trans h3,h4⟩
theorem PQ.own(q:PQ w X p b S G s)(k:ai b X Y)(ho:X.ownsRow B0 e size v n xs)(hB:w.heap.size<=B0):Y.ownsRow B0 e size v n xs:=by
 refine⟨ho.1,?_⟩;rcases ho.2 with h|⟨g,cap,cur,h1,h2,h3,h4⟩
 ·exact Or.inl h
 ·exact Or.inr ⟨g,cap,cur,h1,h2,(k.block g (ag h3) (by have:=q.hb;omega)).trans h3,h4⟩
end
theorem JB(w:World)(p b S G:Nat)(s:St)(hP:PP w p b S)(h:PS w b G s):
 Calls prog 94 #[.pointer (some ⟨p,0,none⟩)] w fun e w'=>∃u,e=.returned (.agg #[.string (fB s).1.name,u])/\w'.ownsRow w.heap.size 9 1 u (fB s).1.LA.length (bt (fB s).1.LA)/\(fB s).1.LA.length<=802/\PQ w w' p b S G (fB s).2:=by
 obtain⟨i0,hi,hz0,hz1,hz2⟩:=info_parts info9';have Q0:=aa (hP.pq h);have hlt:=h.lt;have hpl:=hP.lt;have c:=hP.c0;have HQ:=aa (fB.eq_1 s);have HC:=aa (fun W (hW:PQ w W p b S G s)=>rF W p b S G s hW.pp hW.ps);have HT:=aa (fun W (hW:PQ w W p b S G (ab s))=>mM W b G (ab s) 9 hW.ps);have hl0:ln (tl (ab s))<=801:=KP (cK _) (KP (bH s) h.len);clear h hP;generalize fB s=FF at*;generalize nm s=n at*;generalize ab s=s1 at*;go_enter func94,ntmps94;go_wp2_with fail;refine(HC.o _ (Q0.o.al _)).mono ?_;rintro _ w1 ⟨rfl,h1,k1⟩;have Q1:=aa ((Q0.o.al _).call h1 k1);have HZ:=aa (k1.at (KS w _) (by omega));have hl1:=ag HZ.o;have c1:=Q1.o.pp.c0;have hp1:=Q1.o.pp.lt;have hb1:=h1.lt;clear h1 k1 HC;go_wp2_with fail;refine(HT.o _ (Q1.o.al _)).mono ?_;rintro _ w2 ⟨rfl,h2,k2⟩;have q2:=(Q1.o.al _).call h2 k2;have Q2:=aa q2;have hN2:=k2.at (KS w1 (.cells #[.string n,.slice none 0 0] 154)) (by omega);have hR2:=k2.at ((bp w1 _ _ hl1).trans HZ.o) (by omega);have HN2:=aa hN2;have HR2:=aa hR2;have hlN:=ag hN2;have c2:=q2.pp.c0;have hp2:=q2.pp.lt;clear h2 k2 q2 HT HZ Q1 c1;cases e9:af s1 9
 ·rw[e9]at HQ Q2
  rw[K8 (by decide)]at HQ;have Q2:=aa (show PQ w w2 p b S G s1 from Q2.o);have cN:=ae hN2;have cR:=ae hR2;have fR:=ar hR2;have hlR:=ag hR2;clear hN2 hR2;go_wp2_with fail;rw[HQ.o];refine bodyPost_ret (v:=.agg #[.string n,.slice none 0 0]) (by simp[results,results94,go_sem, *]) rfl ⟨.slice none 0 0,rfl,K7 _ _ _ _,by simp,?_⟩;repeat' with_reducible first|exact Q2.o|refine PQ.st ?_ _ (KK _) _
 ·rw[e9]at HQ Q2
  rw[K9 rfl]at HQ;have Q2:=aa (show PQ w w2 p b S G (tl s1)from Q2.o);generalize tl s1=s0 at*;have hw1:w.heap.size<=w1.heap.size:=Nat.le_of_lt hl1;clear hN2 hR2 e9
  go_upto_block 0 with fail
  go_cut [] (fun wc=>∃(LA:List Ls) (vI:Value) (s':St),PQ w wc p b S G s'/\wc.heap[w1.heap.size]?=some (.cells #[.string n,vI] 154 (0,0))/\wc.heap[w.heap.size]?=some (.cells #[.string ⟨#[]⟩,.slice none 0 0] 154 (0,0))/\wc.ownsRow (w1.heap.size+1) 9 1 vI LA.length (bt LA)/\LA.length<=802/\eH 801 s0=(LA,s'))
  case first=>
   go_wp2_with fail;go_loopg [] (ln s0) (fun k wr=>∃(LA:List Ls) (vI:Value) (s':St) (f:Nat),ln s'<=k/\ln s'<=f/\PQ w wr p b S G s'/\wr.heap[w1.heap.size]?=some (.cells #[.string n,vI] 154 (0,0))/\wr.heap[w.heap.size]?=some (.cells #[.string ⟨#[]⟩,.slice none 0 0] 154 (0,0))/\wr.ownsRow (w1.heap.size+1) 9 1 vI LA.length (bt LA)/\LA.length+ln s'<=802/\eH 801 s0=(LA++(eH f s').1,(eH f s').2))
   case atStart=>exact⟨[],_,s0,801,KK _,hl0,Q2.o,HN2.o,HR2.o,K7 _ _ _ _,by simp;omega,by simp⟩
   case round=>
    obtain⟨LA,vI,s',f,hlk,hlf,q,hN,hR,LJ,Me,hm⟩:=hrel;obtain⟨aI,cI,rfl⟩:=bc LJ;have QR:=aa q;have HN:=aa hN;have HR:=aa hR;have HO:=aa LJ;have HM:=aa hm;have c3:=q.pp.c0;have hp3:=q.pp.lt;have hSE:=aa (qw wr b G s' 1 q.ps);have Nt:=ag hN;have hlR3:=ag hR;clear q hN hR LJ hm Q2 HN2 HR2 c2;have HOK:=aa (show ia s'=(af s' 1&&!kg (hd s').s)from rfl);cases e1:af s' 1
    ·rw[e1]at hSE HOK
     have HE:=aa (show eH 801 s0=(LA,s')from by rw[HM.o,uq f s' HOK.o];simp);clear e1 HM HOK;go_wp2_with fail;refine hSE.o.mono ?_;rintro _ w4 ⟨rfl,b4⟩;go_wp2_with fail;go_meet;exact⟨LA,_,s',QR.o.be b4,(b4.block _ Nt).trans HN.o,(b4.block _ hlR3).trans HR.o,bZ HO.o b4,by omega,HE.o⟩
    ·rw[e1]at hSE HOK
     have HPK:=aa (fun W (hW:PQ w W p b S G s')=>uv W b G s' hW.ps);have hST:=Ic (hd s').s;have Oe:=pI s' e1;have HNN:=aa (fun W (hW:PQ w W p b S G s')=>mr W b G s' hW.ps);have HMM:=aa (show∀f',f=f'+1->ia s'=true->eH 801 s0=(LA++(nm s'::(eH f' (ab s')).1),(eH f' (ab s')).2)from fun f' e h=>by subst e;rw[HM.o,eH,K9 h]);have HST2:=aa (show ia s'=false->eH 801 s0=(LA,s')from fun h=>by rw[HM.o,uq f s' h];simp);clear e1 HM;generalize (hd s').k=hk at*;generalize (hd s').s=hy at*;generalize (hd s').n=hn at*;generalize nm s'=m at*;have rf:=vW hk hn hy;generalize ab s'=s2 at*;cases ek:kg hy
     rotate_left
     ·rw[ek]at hST HOK
      go_wp2_with fail;refine hSE.o.mono ?_;rintro _ w4 ⟨rfl,b4⟩;have Q4:=aa (QR.o.be b4);have c4:=Q4.o.pp.c0;have hp4:=Q4.o.pp.lt;go_wp2_with fail;refine(HPK.o _ Q4.o).mono ?_;rintro _ w5 ⟨rfl,b5⟩;go_wp2_with fail;refine(hST _).mono ?_;rintro _ w' ⟨rfl,hw'⟩;have hw':=hw'.symm;subst hw';go_wp2_with fail;go_meet;have hb:=b4.trans (b5.mono b4.size);exact⟨LA,_,s',QR.o.be hb,(hb.block _ Nt).trans HN.o,(hb.block _ hlR3).trans HR.o,bZ HO.o hb,by omega,HST2.o HOK.o⟩
     ·rw[ek]at hST HOK
      obtain⟨f',rfl⟩:∃f',f=f'+1:=⟨f-1,by omega⟩;have HE:=aa (HMM.o f' rfl HOK.o);go_wp2_with fail;refine hSE.o.mono ?_;rintro _ w4 ⟨rfl,b4⟩;have Q4:=aa (QR.o.be b4);have c4:=Q4.o.pp.c0;have hp4:=Q4.o.pp.lt;go_wp2_with fail;refine(HPK.o _ Q4.o).mono ?_;rintro _ w5 ⟨rfl,b5⟩;have B5:=aa (b4.trans (b5.mono b4.size));clear b4 b5 Q4 c4;go_wp2_with fail;refine(hST _).mono ?_;rintro _ w' ⟨rfl,hw'⟩;have hw':=hw'.symm;subst hw';have Q5:=aa (QR.o.be B5.o);have hN5:=(B5.o.block _ Nt).trans HN.o;have HN5:=aa hN5;have HR5:=aa ((B5.o.block _ hlR3).trans HR.o);have HO5:=aa (bZ HO.o B5.o);have c5:=Q5.o.pp.c0;have hp5:=Q5.o.pp.lt;have cN:=ae hN5;have hlN5:=ag hN5;have hb5:=Q5.o.ps.lt;have hbw:=Q5.o.hb;have hpw:=Q5.o.hp;have hil:LA.length<=802:=by omega
      clear hN5 hST HPK hSE HMM HST2 QR HN HR HO;go_wp2_with fail;go_region_law (first
       |(refine step_append_lies _ (by rfl) _ _ _ (by rfl) (w1.heap.size+1) 9 i0 _ 1 16 underlying50 hi hz0 hz1 hz2 rfl (by decide) _ _ _ (by rfl) (hO6.alloc _) ⟨w6.heap.size,0,none⟩ 1 1 [.string m] (by rfl) (by rfl) (cell_one_new _ _ _) (fun u hu=>by simp at hu;subst hu;rfl) (by decide) (by unfold maxLen;omega) (by omega) (by simp;omega) (w6.heap.size+1) (by simp) ?_;intro g cap w7 hown7 hgrow hat hg7;have g7:=oP hO6 hgrow (Nat.lt_succ_self _) hN6;have e7:=ae g7;have f7:=ar g7;have l7:=ag g7)
       |(go_simp;go_at_call 93;refine(HNN.o _ ?_).mono ?_;(first|exact Q5.o.dr|exact Q5.o);rintro _ w6 ⟨rfl,h6,k6⟩;have q6:PQ w w6 p b S G s2:=(by first|exact Q5.o.dr.call h6 k6|exact Q5.o.call h6 k6);have hN6:=k6.at HN5.o (by omega);have c6:=ae hN6;have hO6:=(by first|exact Q5.o.dr.own k6 HO5.o (by omega)|exact Q5.o.own k6 HO5.o (by omega));have l6:=ag hN6;have z6:=q6.pp.lt))
      all_goals(
       have hR6:=k6.at HR5.o (by omega);have HX:=aa (And.intro (q6.app hO6 hgrow hw1 (Nat.le_succ_of_le hw1) 1 (.slice (some ⟨g,0,none⟩) (LA.length+1) cap)) (And.intro (aJ g7 1 (.slice (some ⟨g,0,none⟩) (LA.length+1) cap)) (And.intro (qM hO6 hgrow (show w.heap.size<w1.heap.size+1 by omega) hR6 (show w.heap.size≠w1.heap.size by omega) 1 (.slice (some ⟨g,0,none⟩) (LA.length+1) cap)) (lq hown7 (Nat.lt_succ_self _) 1 (.slice (some ⟨g,0,none⟩) (LA.length+1) cap)))));clear hgrow hown7 h6 k6 hO6 hN6 hR6 q6 g7;go_wp2_with fail;go_roundg (ln s2)
       case measure=>omega
       case rel=>exact⟨LA++[m],_,s2,f',KK _,by omega,HX.o.1,HX.o.2.1,HX.o.2.2.1,by rw[rS,Lb];exact HX.o.2.2.2,by simp;omega,by rw[HE.o];simp⟩)
  case rest=>
   obtain⟨LA,vI,s',q,hN,hR,LJ,hil,hm⟩:=hcut;obtain⟨aI,cI,rfl⟩:=bc LJ;have Q3:=aa q;have HN:=aa hN;have HR:=aa hR;have HO:=aa LJ;have cN:=ae hN;have Nt:=ag hN;have c3:=q.pp.c0;have hp3:=q.pp.lt;have HE:=aa (show FF=(⟨n,LA⟩,mq (LA,s'))from by rw[HQ.o,hm]);clear q hm HQ Q2 HN2 HR2 c2;by_cases e0:LA.length=0
   ·have e0':((LA.length:Int)==0)=true:=by rw[beq_iff_eq];omega
    have HF:=aa (mt wc b G s' Q3.o.ps);rw[show mq (LA,s')=none from K9 e0]at HE;clear hN hR LJ;go_wp2_with fail;refine HF.o.mono ?_;rintro _ w4 ⟨rfl,h4,k4⟩;have Q4:=aa (Q3.o.call h4 k4);have hN4:=k4.at HN.o (by omega);have hR4:=k4.at HR.o (by omega);have HO4:=aa (Q3.o.own k4 HO.o (by omega));have cN4:=ae hN4;have cR:=ae hR4;have fR:=ar hR4;have NW:=ag hN4;have hlR:=ag hR4;clear h4 k4 hN4 hR4 cN;go_wp2_with fail;rw[HE.o];refine bodyPost_ret (v:=.agg #[.string n,.slice aI LA.length cI]) (by simp[results,results94,go_sem, *]) rfl ⟨.slice aI LA.length cI,rfl,?_,hil,?_⟩
    ·refine nh (B:=w1.heap.size+1) ?_ (by omega)
     repeat' with_reducible first|exact HO4.o|refine lq ?_ (show w.heap.size<w1.heap.size+1 by omega) _ _
    ·repeat' with_reducible first|exact Q4.o|refine PQ.st ?_ _ (KK _) _
   ·have e0':((LA.length:Int)==0)=false:=by rw[beq_eq_false_iff_ne];omega
    rw[show mq (LA,s')=s' from K8 e0]at HE;have cR:=ae hR;have fR:=ar hR;have hlR:=ag hR;clear hN hR LJ;go_wp2_with fail;rw[HE.o];refine bodyPost_ret (v:=.agg #[.string n,.slice aI LA.length cI]) (by simp[results,results94,go_sem, *]) rfl ⟨.slice aI LA.length cI,rfl,?_,hil,?_⟩
    ·refine nh (B:=w1.heap.size+1) ?_ (by omega)
     repeat' with_reducible first|exact HO.o|refine lq ?_ (show w.heap.size<w1.heap.size+1 by omega) _ _
    ·repeat' with_reducible first|exact Q3.o|refine PQ.st ?_ _ (KK _) _
attribute [local go_sem ↓] Go.wp_at_zero Go.wp_at_succ
inductive aK where
 |all
 |is (n:Ls)
 |eq (n:Ls) (v:Option (Nat×Int×Ls))
 |not (r:aK)
 |chain (or:Bool) (l:List aK)
def cW(v:Nat×Int×Ls):Nat×Int×Ls:=if v.1=3 then(if v.2.1=1 then(3,0,⟨#[]⟩)else(4,0,⟨#[]⟩))else if v.1=4 then(6,v.2.1,v.2.2)else if v.1=5 then(7,v.2.1,v.2.2)else if v.1=6 then(8,v.2.1,v.2.2)else v
def iK:Option (Nat×Int×Ls)->Nat×Int×Ls
 |none=>(5,0,⟨#[]⟩)
 |some y=>cW y
inductive dt(w:World)(Q:Nat->Prop):Value->aK->Prop
 |all (k:Nat) (n z:Ls) (x y:Int):Q k->w.heap[k]?=some (.cells #[.string n,.int .i64 3,.slice none 0 0,.int .i64 x,.int .i64 y,.string z] 216 (0,0))->dt w Q (.pointer (some ⟨k,0,none⟩)) .all
 |is (k:Nat) (n z:Ls) (x y:Int):Q k->w.heap[k]?=some (.cells #[.string n,.int .i64 4,.slice none 0 0,.int .i64 x,.int .i64 y,.string z] 216 (0,0))->dt w Q (.pointer (some ⟨k,0,none⟩)) (.is n)
 |eq (k:Nat) (n:Ls) (o:Option (Nat×Int×Ls)):Q k->w.heap[k]?=some (.cells #[.string n,.int .i64 5,.slice none 0 0,.int .i64 (iK o).1,.int .i64 (iK o).2.1,.string (iK o).2.2] 216 (0,0))->dt w Q (.pointer (some ⟨k,0,none⟩)) (.eq n o)
 |not (k:Nat) (n z:Ls) (x y:Int) (v u:Value) (t:aK):Q k->w.heap[k]?=some (.cells #[.string n,.int .i64 2,v,.int .i64 x,.int .i64 y,.string z] 216 (0,0))->w.ownsRow 0 161 1 v 1 [u]->(∀g,v.ownBlock=some g->Q g)->dt w Q u t->dt w Q (.pointer (some ⟨k,0,none⟩)) (.not t)
 |chain (k:Nat) (o:Bool) (n z:Ls) (x y:Int) (v:Value) (vs:List Value) (ts:List aK):Q k->w.heap[k]?=some (.cells #[.string n,.int .i64 (if o=true then 0 else 1:Nat),v,.int .i64 x,.int .i64 y,.string z] 216 (0,0))->w.ownsRow 0 161 1 v vs.length vs->(∀g,v.ownBlock=some g->Q g)->vs.length<=802->vs.length=ts.length->(∀(j:Nat) (u:Value) (t:aK),vs[j]?=some u->ts[j]?=some t->dt w Q u t)->dt w Q (.pointer (some ⟨k,0,none⟩)) (.chain o ts)
section
variable {w w':World} {Q R:Nat->Prop} {v:Value} {t:aK} {B:Nat}
theorem dt.ptr(h:dt w Q v t):∃k,v=.pointer (some ⟨k,0,none⟩):=by cases h<;>exact⟨_,rfl⟩
theorem dt.move(hm:∀(k:Nat) (cs:Array Value) (T:TypeId) (fr:Nat×Nat),Q k->(T=216\/T=161)->w.heap[k]?=some (.cells cs T fr)->w'.heap[k]?=some (.cells cs T fr)/\R k)(h:dt w Q v t):dt w' R v t:=by
 have row:∀{v:Value} {n:Nat} {us:List Value},w.ownsRow 0 161 1 v n us->(∀g,v.ownBlock=some g->Q g)->w'.ownsRow 0 161 1 v n us/\∀g,v.ownBlock=some g->R g:=fun{v n us} h4 h5=>by
  rcases h4.2 with q|⟨g,cap,cur,hv,hg,hh,r⟩
  ·exact⟨⟨h4.1,Or.inl q⟩,fun g hg=>by rw[q.1]at hg;cases hg⟩
  ·have:=hm g _ _ _ (h5 g (by rw[hv];rfl)) (Or.inr rfl) hh
   exact⟨⟨h4.1,Or.inr ⟨g,cap,cur,hv,hg,this.1,r⟩⟩,fun g' hg'=>by rw[hv]at hg';have e:=KY (show some g=some g' from hg');rw[<-e];exact this.2⟩
 induction h with
 |all k n z x y h1 h2=>have:=hm k _ _ _ h1 (Or.inl rfl) h2;exact .all k n z x y this.2 this.1
 |is k n z x y h1 h2=>have:=hm k _ _ _ h1 (Or.inl rfl) h2;exact .is k n z x y this.2 this.1
 |eq k n o h1 h2=>have:=hm k _ _ _ h1 (Or.inl rfl) h2;exact .eq k n o this.2 this.1
 |not k n z x y v u t h1 h2 h3 h4 _ ih=>have:=hm k _ _ _ h1 (Or.inl rfl) h2;exact .not k n z x y v u t this.2 this.1 (row h3 h4).1 (row h3 h4).2 ih
 |chain k o n z x y v vs ts h1 h2 h3 h4 h5 h6 _ ih=>have:=hm k _ _ _ h1 (Or.inl rfl) h2;exact .chain k o n z x y v vs ts this.2 this.1 (row h3 h4).1 (row h3 h4).2 h5 h6 ih
theorem dt.imp(hq:∀k,Q k->k<w.heap.size->R k)(h:dt w Q v t):dt w R v t:=h.move (fun k _ _ _ hk _ hb=>⟨hb,hq k hk (ag hb)⟩)
theorem dt.stays(h1:au 216 B w w')(h2:au 161 B w w')(h:dt w (fun k=>B<=k) v t):dt w' (fun k=>B<=k) v t:=
 h.move (fun k cs T fr hk hT hb=>⟨by
  rcases hT with e|e
  ·subst e;exact h1 k cs fr hk hb
  ·subst e;exact h2 k cs fr hk hb,hk⟩)
theorem dt.keep{b G:Nat}{s:St}(hs:PS w b G s)(hk:ai b w w')(hq:∀k,Q k->k<w.heap.size->R k)(h:dt w Q v t):dt w' R v t:=
 h.move (fun k cs T fr hQ hT hb=>by
  obtain⟨c,hc⟩:=hs.ty;refine⟨hk.at hb (fun e=>?_),hq k hQ (ag hb)⟩;subst e;rw[hc]at hb;cases hb;rcases hT with e|e<;>cases e)
end
def i6(word:Ls)(part:St->aK×St):Nat->List aK->St->List aK×St
 |0,acc,s=>(acc,s)
 |f+1,acc,s=>if aq s word=true then i6 word part f (acc++[(part (tl s)).1]) (part (tl s)).2 else(acc,s)
def dQ(o:Bool)(word:Ls)(part:St->aK×St)(s:St):aK×St:=(.chain o (i6 word part 801 [(part s).1] (part s).2).1,(i6 word part 801 [(part s).1] (part s).2).2)
theorem vx(word:Ls)(part:St->aK×St)(f:Nat)(acc:List aK)(s:St)(h:aq s word=false):i6 word part f acc s=(acc,s):=by
 cases f with
 |zero=>rfl
 |succ f=>rw[i6,K8 (by rw[h];simp)]
theorem lJ(s:St)(x:Ls)(h:aq s x=true):ln (tl s)<ln s:=by
 refine eY s 1 (by decide) ?_;unfold aq at h;unfold af;exact(Li _ _▸h).1
theorem yA(word:Ls)(part:St->aK×St)(hp:∀s,ln (part s).2<=ln s):∀(f:Nat) (acc:List aK) (s:St),ln (i6 word part f acc s).2<=ln s
 |0,_,_=>KK _
 |f+1,acc,s=>by
  rw[i6];split
  ·exact KP (yA word part hp f _ _) (KP (hp _) (cK s))
  ·exact KK _
theorem sY(o:Bool)(word:Ls)(part:St->aK×St)(hp:∀s,ln (part s).2<=ln s)(s:St):ln (dQ o word part s).2<=ln s:=
 KP (yA word part hp _ _ _) (hp s)
theorem info161:(prog.info? 161).map (fun i=>(i.zero,i.size,i.bytes))=some (some (.pointer none),1,8):=by kernel_rfl
def pV(PF:Nat)(p b S G n:Nat)(part:St->aK×St):Prop:=∀(W:World) (s:St),ln s<=n->PP W p b S->PS W b G s->Calls prog PF #[.pointer (some ⟨p,0,none⟩)] W fun e w'=>∃u,e=.returned u/\dt w' (fun k=>W.heap.size<=k) u (part s).1/\PQ W w' p b S G (part s).2
def jy:Ls:=⟨#[97,110,100]⟩
def j0:Ls:=⟨#[111,114]⟩
theorem Cr(PF c:Nat)(word:Ls)(o:Bool)(hPF:PF=195\/PF=168)(hc:c=if o=true then 0 else 1)(w:World)(p b S G n:Nat)(part:St->aK×St)(s:St)(Nj:pV PF p b S G n part)(Od:∀s,ln (part s).2<=ln s)(hl:ln s<=n)(hn:n<=801)(hP:PP w p b S)(h:PS w b G s):
 Calls prog 167 #[.pointer (some ⟨p,0,none⟩),.int .i64 c,.string word,.func (Fn.func PF) #[.pointer (some ⟨p,0,none⟩)] #[]] w fun e w'=>∃u,e=.returned u/\dt w' (fun k=>w.heap.size<=k) u (dQ o word part s).1/\PQ w w' p b S G (dQ o word part s).2:=by
 obtain⟨i0,hi,hz0,hz1,hz2⟩:=info_parts info161;have HC1:=aa hc;clear hc;have Q0:=aa (hP.pq h);have hlt:=h.lt;have hgl:=h.glt;have hpl:=hP.lt;have cp:=hP.c0;have HPT:=aa (fun W s' (hW:PQ w W p b S G s') (hs:ln s'<=ln s)=>Nj W s' (KP hs hl) hW.pp hW.ps);have HT:=aa (fun W s' (hW:PQ w W p b S G s')=>ur W b G s' word hW.ps);have HP1:=aa (HPT.o · s · (KK _));have HQ:=aa (dQ.eq_1 o word part s);have HL:=aa Od;have hl1:=Od s;have hlw:ln s<=801:=KP hl hn;clear h hP Nj Od;generalize dQ o word part s=FF at*;generalize part s=f0 at*;obtain⟨t0,s1⟩:=f0;simp only[]at HP1 HQ hl1;rcases hPF with rfl|rfl;all_goals(
  go_enter func167,ntmps167;go_wp2_with fail;refine(HP1.o _ Q0.o).mono ?_;rintro _ w1 ⟨u,rfl,hu,q1⟩;obtain⟨ku,rfl⟩:=hu.ptr;have Q1:=aa q1;have HU:=aa hu;have hs1:=q1.kp.size;clear hu q1 HP1;go_wp2_with fail;go_loopg [] (ln s1) (fun k wr=>∃(vs:List Value) (ts:List aK) (vL:Value) (s':St) (f:Nat),ln s'<=k/\ln s'<=f/\ln s'<=ln s/\PQ w wr p b S G s'/\wr.heap[w1.heap.size+1]?=some (.cells #[.string ⟨#[]⟩,.int .i64 c,vL,.int .i64 0,.int .i64 0,.string ⟨#[]⟩] 216 (0,0))/\wr.ownsRow w.heap.size 161 1 vL vs.length vs/\vL.ownBlock≠some (w1.heap.size+1)/\vs.length=ts.length/\vs.length+ln s'<=802/\(∀(j:Nat) (u:Value) (t:aK),vs[j]?=some u->ts[j]?=some t->dt wr (fun k=>w.heap.size<=k/\k<wr.heap.size/\k≠w1.heap.size+1/\vL.ownBlock≠some k) u t)/\i6 word part 801 [t0] s1=i6 word part f ts s')
  case atStart=>
   have hN:∀A O,((w1.alloc A).alloc O).heap[w1.heap.size+1]?=some O:=fun A O=>by have:=KS (w1.alloc A) O;simpa using this
   have hB:∀A O,Lt w1 ((w1.alloc A).alloc O):=fun A O=>((KL _ _).alloc (KK _) _).alloc (by simp) _;refine⟨[.pointer (some ⟨ku,0,none⟩)],[t0],_,s1,801,KK _,by omega,hl1,(Q1.o.al _).al _,hN _ _,?_,?_,rfl,by simp;omega,?_,rfl⟩
   ·exact⟨rfl,Or.inr ⟨w1.heap.size,1,_,rfl,hs1,(bp _ _ _ (by simp)).trans (KS w1 _),KK _,by decide,rfl,rfl⟩⟩
   ·intro e;have:=KY (show some w1.heap.size=some (w1.heap.size+1)from e);omega
   ·intro j u t hj ht
    have hj0:j=0:=by have:=(KO.1 hj).1;simp at this;omega
    subst hj0;cases hj;cases ht;refine HU.o.move (fun k cs T fr hk _ hb=>⟨((hB _ _).block k (ag hb)).trans hb,hk,by have:=ag hb;simp;omega,by have:=ag hb;omega,fun e=>?_⟩);have:=KY (show some w1.heap.size=some k from e);have:=ag hb;omega
  case round=>
   obtain⟨vs,ts,vL,s',f,hlk,hlf,hls,q,hN,LJ,hne,hvt,Me,Mo,hm⟩:=hrel;obtain⟨aI,cI,rfl⟩:=bc LJ;have QR:=aa q;have HN:=aa hN;have HO:=aa LJ;have HS:=aa Mo;have HM:=aa hm;have HVT:=aa hvt;have c3:=q.pp.c0;have hp3:=q.pp.lt;have hTK:=aa (HT.o wr s' q);have hlN:=ag hN;clear q hN LJ Mo hm hvt Q1 HU;cases ew:aq s' word
   ·rw[ew]at hTK
    have HE:=aa (show FF=(.chain o ts,s')from by rw[HQ.o,HM.o,vx _ _ _ _ _ ew]);clear ew HM HQ HPT HT;go_wp2_with fail;refine hTK.o.mono ?_;rintro _ w4 ⟨rfl,h4,k4⟩;have HQ4:=aa (show PQ w w4 p b S G s' from QR.o.call h4 k4);have HR4:=aa (show dt w4 (fun k=>w.heap.size<=k) (.pointer (some ⟨w1.heap.size+1,0,none⟩)) (.chain o ts)from
     .chain _ o ⟨#[]⟩ ⟨#[]⟩ 0 0 (.slice aI vs.length cI) vs ts (by omega) (by rw[<-HC1.o];exact k4.at HN.o (by have:=QR.o.hb;omega)) (nh (QR.o.own k4 HO.o (KK _)) (KU _)) (fun g hg=>(HO.o.lt g hg).1) (by omega) HVT.o (fun j u t hu ht=>(HS.o j u t hu ht).keep QR.o.ps k4 (fun k hk _=>hk.1)))
    clear h4 k4;go_wp2_with fail;go_ret;rw[HE.o];exact⟨_,rfl,HR4.o,HQ4.o⟩
   ·rw[ew]at hTK
    have Oe:=lJ s' word ew;have hlp:=HL.o (tl s');obtain⟨f',rfl⟩:∃f',f=f'+1:=⟨f-1,by omega⟩;have HE:=aa (show i6 word part 801 [t0] s1=i6 word part f' (ts++[(part (tl s')).1]) (part (tl s')).2 from by rw[HM.o,i6,K9 ew]);have HP2:=aa (fun W (hW:PQ w W p b S G (tl s'))=>HPT.o W (tl s') hW (by omega));clear ew HM HPT;generalize part (tl s')=f1 at*;obtain⟨t2,s2⟩:=f1;simp only[]at HE HP2 hlp;go_wp2_with fail;refine hTK.o.mono ?_;rintro _ w4 ⟨rfl,h4,k4⟩;have q4:=show PQ w w4 p b S G (tl s')from QR.o.call h4 k4;have Q4:=aa q4;have hbw:=q4.hb;have hpw:=q4.hp;have hN4:=k4.at HN.o (by omega);have HN4:=aa hN4;have HO4:=aa (QR.o.own k4 HO.o (KK _));have HS4:=aa (fun j u t hu ht=>(HS.o j u t hu ht).keep (R:=fun k=>w.heap.size<=k/\k<w4.heap.size/\k≠w1.heap.size+1/\(Value.slice aI vs.length cI).ownBlock≠some k) QR.o.ps k4 (fun k hk _=>⟨hk.1,KV hk.2.1 k4.size,hk.2.2⟩));have cN:=ae hN4;have NW:=ag hN4;have c4:=q4.pp.c0;have hp4:=q4.pp.lt;clear h4 k4 q4 hN4 HN HO HS QR hTK c3;go_wp2_with fail;go_region_law (first
     |(refine step_append_lies _ (by rfl) _ _ _ (by rfl) w.heap.size 161 i0 _ 1 8 underlying214 hi hz0 hz1 hz2 rfl (by decide) _ _ _ (by rfl) (hO6.alloc _) ⟨w6.heap.size,0,none⟩ 1 1 [.pointer (some ⟨kv,0,none⟩)] (by rfl) (by rfl) (cell_one_new _ _ _) (fun u hu=>by simp at hu;subst hu;rfl) (by decide) (by unfold maxLen;omega) (by omega) (by simp;omega) (w6.heap.size+1) (by simp) ?_;intro g cap w7 hown7 hgrow hat hg7;have g7:=(hgrow.block (w1.heap.size+1) (by simp;omega) (fun e=>hne e.symm)).trans ((bp w6 _ _ l6).trans hN6);have e7:=ae g7;have f7:=ar g7;have l7:=ag g7)
     |(go_simp;refine(HP2.o _ ?_).mono ?_;(first|exact Q4.o.dr|exact Q4.o);rintro _ w6 ⟨u6,rfl,hu6,q6⟩;obtain⟨kv,hkv⟩:=hu6.ptr;subst hkv;have hN6:=q6.kp.at HN4.o (by omega);have c6:=ae hN6;have hO6:=(by first|exact Q4.o.own q6.kp HO4.o (KK _)|exact Q4.o.dr.own q6.kp HO4.o (KK _));have l6:=ag hN6;have z6:=q6.pp.lt))
    all_goals(
     have k6:ai b w4 w6:=(by first|exact q6.kp|exact(ai.refl _ _).drew.trans q6.kp);have qq:PQ w w6 p b S G s2:=(by first|exact Q4.o.tr q6|exact Q4.o.dr.tr q6);have hgN:g≠w1.heap.size+1:=fun e=>by
      rcases hat with x|x
      ·exact hne (by rw[x,e])
      ·omega
     have HX:=aa (And.intro (qq.app hO6 hgrow (show w.heap.size<=w1.heap.size+1 by omega) (KK _) 2 (.slice (some ⟨g,0,none⟩) (vs.length+1) cap)) (And.intro (aJ g7 2 (.slice (some ⟨g,0,none⟩) (vs.length+1) cap)) (qH hown7 (N:=w1.heap.size+1) (fun e=>hgN (KY e)) 2 (.slice (some ⟨g,0,none⟩) (vs.length+1) cap))));have hz7:=hgrow.size;simp at hz7;have key:∀u t,dt w6 (fun k=>w.heap.size<=k/\k<w6.heap.size/\k≠w1.heap.size+1/\(Value.slice aI vs.length cI).ownBlock≠some k) u t->dt (w7.setCell ⟨w1.heap.size+1,2,none⟩ (.slice (some ⟨g,0,none⟩) (vs.length+1) cap)) (fun k=>w.heap.size<=k/\k<(w7.setCell ⟨w1.heap.size+1,2,none⟩ (.slice (some ⟨g,0,none⟩) (vs.length+1) cap)).heap.size/\k≠w1.heap.size+1/\(Value.slice (some ⟨g,0,none⟩) (vs.length+1) cap).ownBlock≠some k) u t:=fun u t hu=>hu.move (fun k cs T fr hk _ hb=>⟨(KX _ _ _ _ hk.2.2.1).trans ((hgrow.block k (by simp;omega) (fun e=>hk.2.2.2 e.symm)).trans ((bp _ _ _ hk.2.1).trans hb)),hk.1,by simp[World.setCell];omega,hk.2.2.1,fun e=>by
      have e':g=k:=KY e;rcases hat with x|x
      ·exact hk.2.2.2 (by rw[x,e'])
      ·omega⟩)
     have HSX:=aa (show∀(j:Nat) (u:Value) (t:aK),(vs++[Value.pointer (some ⟨kv,0,none⟩)])[j]?=some u->(ts++[t2])[j]?=some t->dt (w7.setCell ⟨w1.heap.size+1,2,none⟩ (.slice (some ⟨g,0,none⟩) (vs.length+1) cap)) (fun k=>w.heap.size<=k/\k<(w7.setCell ⟨w1.heap.size+1,2,none⟩ (.slice (some ⟨g,0,none⟩) (vs.length+1) cap)).heap.size/\k≠w1.heap.size+1/\(Value.slice (some ⟨g,0,none⟩) (vs.length+1) cap).ownBlock≠some k) u t from fun j u t hu ht=>by
      rcases Nat.lt_or_ge j vs.length with hj|hj
      ·rw[Lf hj]at hu
       rw[Lf (by rw[<-HVT.o];exact hj)]at ht;exact key u t ((HS4.o j u t hu ht).keep Q4.o.ps k6 (fun k hk _=>⟨hk.1,KV hk.2.1 k6.size,hk.2.2⟩))
      ·have hj2:j=vs.length:=by have:=(KO.1 hu).1;simp at this;omega
       subst hj2;have e1:u=.pointer (some ⟨kv,0,none⟩):=by simpa using hu.symm
       have e2:t=t2:=by rw[HVT.o]at ht;simpa using ht.symm
       subst e1 e2;exact key _ _ (hu6.imp (fun k hk hk2=>by
        have hk':w4.heap.size<=k:=hk;exact⟨by omega,hk2,by omega,fun e=>by have:=(HO4.o.lt k e).2;omega⟩)))
     have HV2:=aa (show(vs++[Value.pointer (some ⟨kv,0,none⟩)]).length=(ts++[t2]).length from by simp[HVT.o]);clear hgrow hown7 hO6 hN6 qq q6 g7 hu6 key hat;go_wp2_with fail;go_roundg (ln s2)
     case measure=>omega
     case rel=>exact⟨_,_,_,s2,f',KK _,by omega,by omega,HX.o.1,HX.o.2.1,by rw[Lb];exact HX.o.2.2,fun e=>hgN (KY e),HV2.o,by simp;omega,HSX.o,HE.o⟩))
theorem yu(p b S G n:Nat)(part:St->aK×St)(Nj:pV 195 p b S G n part)(Od:∀s,ln (part s).2<=ln s)(hn:n<=801):pV 168 p b S G n (dQ false jy part):=by
 intro w s hl hP h;have hc:=aa (Cr 195 1 jy false (Or.inl rfl) rfl w p b S G n part s Nj Od hl hn hP h);generalize dQ false jy part s=FF at*;unfold jy at hc;go_enter func168,ntmps168;go_wp2_with fail;refine hc.o.mono ?_;rintro _ w1 ⟨u,rfl,t1,q1⟩;go_wp2_with fail;go_ret;exact⟨_,rfl,t1,q1⟩
theorem y7(p b S G n:Nat)(part:St->aK×St)(Nj:pV 168 p b S G n part)(Od:∀s,ln (part s).2<=ln s)(hn:n<=801):pV 134 p b S G n (dQ true j0 part):=by
 intro w s hl hP h;have hc:=aa (Cr 168 0 j0 true (Or.inr rfl) rfl w p b S G n part s Nj Od hl hn hP h);generalize dQ true j0 part s=FF at*;unfold j0 at hc;go_enter func134,ntmps134;go_wp2_with fail;refine hc.o.mono ?_;rintro _ w1 ⟨u,rfl,t1,q1⟩;go_wp2_with fail;go_ret;exact⟨_,rfl,t1,q1⟩
def tn(s:St):Nat×Int×Ls:=if (hd s).k=2 then(1,(hd s).n,⟨#[]⟩)else if (hd s).k=3 then(2,0,(hd s).s)else if (hd s).k=1/\(hd s).s=jr then(3,1,⟨#[]⟩)else if (hd s).k=1/\(hd s).s=jw then(3,0,⟨#[]⟩)else(0,0,⟨#[]⟩)
def nV(s:St):Option (Nat×Int×Ls):=if aq s eV=true then none else some (tn s)
theorem Gc(s:St):iK (nV s)=pN s:=by
 unfold nV pN;split
 ·rfl
 ·unfold iK tn jk qP
  by_cases h2:(hd s).k=2
  ·simp[h2,cW]
  by_cases h3:(hd s).k=3
  ·simp[h3,cW]
  by_cases h1:(hd s).k=1
  ·by_cases e1:(hd s).s=jr
   ·simp[h1,e1,cW]
   ·by_cases e2:(hd s).s=jw
    ·rw[e2]at e1;simp[h1,e1,e2,cW]
    ·simp[h1,e1,e2,cW]
  ·simp[h1,h2,h3,cW]
def eN:Nat->St->aK×St
 |0=>fun s=>(.all,s)
 |f+1=>fun s=>
  if af s 7=true then((dQ true j0 (dQ false jy (eN f)) (tl s)).1,ak (dQ true j0 (dQ false jy (eN f)) (tl s)).2 (af (dQ true j0 (dQ false jy (eN f)) (tl s)).2 8))
  else if nm s=dc then(.not (eN f (ab s)).1,(eN f (ab s)).2)
  else if nm s=dX then(.all,ab s)
  else if nm s=cm then(.is (nm (ab s)),ab (ab s))
  else(.eq (nm s) (nV (ak (ab s) (af (ab s) 10))),iZ (ak (ab s) (af (ab s) 10)))
theorem tf(f:Nat)(s:St):eN (f+1) s=(if af s 7=true then((dQ true j0 (dQ false jy (eN f)) (tl s)).1,ak (dQ true j0 (dQ false jy (eN f)) (tl s)).2 (af (dQ true j0 (dQ false jy (eN f)) (tl s)).2 8))
 else if nm s=dc then(.not (eN f (ab s)).1,(eN f (ab s)).2)
 else if nm s=dX then(.all,ab s)
 else if nm s=cm then(.is (nm (ab s)),ab (ab s))
 else(.eq (nm s) (nV (ak (ab s) (af (ab s) 10))),iZ (ak (ab s) (af (ab s) 10)))):=rfl
def oq(f:Nat):St->aK×St:=dQ true j0 (dQ false jy (eN f))
theorem AO(s:St):ln (iZ s)<=ln s:=by
 unfold iZ;split
 ·exact cK s
 ·unfold iH
  split
  ·exact cK s
  ·split
   ·exact cK s
   ·split
    ·unfold lm
     split
     ·exact cK s
     ·split
      ·exact cK s
      ·split
       ·exact cK s
       ·simp[ln]
    ·simp[ln]
theorem qQ:∀(f:Nat) (s:St),ln (eN f s).2<=ln s
 |0,s=>KK _
 |f+1,s=>by
  rw[tf];split
  ·exact KP (cg _ _) (KP (sY _ _ _ (sY _ _ _ (qQ f)) _) (cK s))
  ·split
   ·exact KP (qQ f _) (bH s)
   ·split
    ·exact bH s
    ·split
     ·exact KP (bH _) (bH s)
     ·exact KP (AO _) (KP (cg _ _) (bH s))
theorem ya(s:St)(x:Ls)(h:nm s=x)(hx:0<x.size):af s 1=true:=by
 unfold nm at h;split at h
 ·assumption
 ·subst h;exact absurd hx (by decide)
theorem F8(p b S G:Nat):∀(f:Nat),f<=801->pV 195 p b S G f (eN (f+1)):=by
 intro f
 induction f using Nat.strongRecOn with
 |_ f ih=>
 intro hf8 w s hl hP h;have Q0:=aa (hP.pq h);have hlt:=h.lt;have hpl:=hP.lt;have cp:=hP.c0;have HT:=aa (fun W (hW:PQ w W p b S G s)=>mM W b G s 7 hW.ps);have HQ:=aa (tf f s);clear h hP;cases hx:af s 7
 rotate_left
 ·rw[hx]at HT HQ
  rw[K9 rfl]at HQ;have Oe:=eY s 7 (by decide) hx;obtain⟨f',rfl⟩:∃f',f=f'+1:=⟨f-1,by omega⟩;have HR:=aa (fun W (hW:PQ w W p b S G (tl s))=>y7 p b S G f' _ (yu p b S G f' _ (ih f' (by omega) (by omega)) (qQ _) (by omega)) (sY _ _ _ (qQ _)) (by omega) W (tl s) (by omega) hW.pp hW.ps);generalize dQ true j0 (dQ false jy (eN (f'+1))) (tl s)=rr at*;obtain⟨t,s2⟩:=rr;simp only[]at HQ HR;generalize eN (f'+1+1) s=FF at*;have HN:=aa (fun W (hW:PQ w W p b S G s2)=>iG W b G s2 8 hW.ps);generalize (ce s2 8).k=nk at*;generalize (ce s2 8).n=nn at*;generalize (ce s2 8).s=ny at*;clear hx ih;go_enter func195,ntmps195;go_wp2_with fail;refine(HT.o _ Q0.o).mono ?_;rintro _ w1 ⟨rfl,h1,k1⟩;have Q1:=aa (show PQ w w1 p b S G (tl s)from Q0.o.call h1 k1);clear h1 k1;go_wp2_with fail;refine(HR.o _ Q1.o).mono ?_;rintro _ w2 ⟨u,rfl,hu,q2⟩;have Q2:=aa (Q1.o.tr q2);have HU:=aa (hu.imp (R:=fun k=>w.heap.size<=k) (fun k hk _=>KP Q1.o.kp.size hk));obtain⟨ku,rfl⟩:=hu.ptr;have c2:=q2.pp.c0;have hp2:=q2.pp.lt;clear hu q2;go_wp2_with fail;refine(HN.o _ Q2.o).mono ?_;rintro _ w3 ⟨rfl,h3,k3⟩;go_wp2_with fail;go_ret;rw[HQ.o];exact⟨_,rfl,HU.o.keep Q2.o.ps k3 (fun k hk _=>hk),Q2.o.call h3 k3⟩
 rw[hx]at HT HQ;rw[K8 (by decide)]at HQ;have L1:=bV (nm s) [110,111,116];have L2:=bV (nm s) [97,108,108];have L3:=bV (nm s) [105,115];have HNN:=aa (fun W (hW:PQ w W p b S G s)=>mr W b G s hW.ps);by_cases e1:nm s=dc
 ·rw[K9 e1]at HQ
  have hk1:=ya s _ e1 (by decide);have Oe:=pI s hk1;obtain⟨f',rfl⟩:∃f',f=f'+1:=⟨f-1,by omega⟩;have HI:=aa (fun W (hW:PQ w W p b S G (ab s))=>ih f' (by omega) (by omega) W (ab s) (by omega) hW.pp hW.ps);rw[Le (show nm s=aE [110,111,116]from e1)]at L1;generalize eN (f'+1+1) s=FF at*;generalize eN (f'+1) (ab s)=rr at*;obtain⟨t,s2⟩:=rr;simp only[]at HQ HI;generalize nm s=n at*;clear hx ih e1 hk1 L2 L3;go_enter func195,ntmps195;go_wp2_with fail;refine(HT.o _ Q0.o).mono ?_;rintro _ w1 ⟨rfl,h1,k1⟩;have Q1:=aa (show PQ w w1 p b S G s from Q0.o.call h1 k1);have c1:=Q1.o.pp.c0;have hp1:=Q1.o.pp.lt;clear h1 k1;go_wp2_with fail;refine(HNN.o _ Q1.o).mono ?_;rintro _ w2 ⟨rfl,h2,k2⟩;have Q2:=aa (Q1.o.call h2 k2);clear h2 k2;go_wp2_with fail;refine(HI.o _ Q2.o).mono ?_;rintro _ w3 ⟨u,rfl,hu,q3⟩;have Q3:=aa (Q2.o.tr q3);have HU:=aa (hu.imp (R:=fun k=>w.heap.size<=k) (fun k hk _=>KP Q2.o.kp.size hk));obtain⟨ku,rfl⟩:=hu.ptr;have hs3:=Q3.o.kp.size;clear hu q3;go_wp2_with fail;go_ret;rw[HQ.o];refine⟨_,rfl,.not (w3.heap.size+1) ⟨#[]⟩ ⟨#[]⟩ 0 0 (.slice (some ⟨w3.heap.size,0,none⟩) 1 1) (.pointer (some ⟨ku,0,none⟩)) t (Nat.le_succ_of_le hs3) ?_ ⟨rfl,Or.inr ⟨w3.heap.size,1,_,rfl,KU _,(bp _ _ _ (by simp)).trans (KS w3 _),KK _,by decide,rfl,rfl⟩⟩ (fun g hg=>by have:=KY (show some w3.heap.size=some g from hg);omega) (HU.o.move (fun k cs T fr hk _ hb=>⟨(bp _ _ _ (by have:=ag hb;simp;omega)).trans ((bp _ _ _ (ag hb)).trans hb),hk⟩)),(Q3.o.al _).al _⟩;have:=KS (w3.alloc (.cells #[.pointer (some ⟨ku,0,none⟩)] 161)) (.cells #[.string ⟨#[]⟩,.int .i64 2,.slice (some ⟨w3.heap.size,0,none⟩) 1 1,.int .i64 0,.int .i64 0,.string ⟨#[]⟩] 216);simpa using this
 rw[K8 e1]at HQ;rw[KT (show¬nm s=aE [110,111,116]from e1)]at L1;clear ih;by_cases e2:nm s=dX
 ·rw[K9 e2]at HQ
  rw[Le (show nm s=aE [97,108,108]from e2)]at L2;generalize eN (f+1) s=FF at*;generalize nm s=n at*;clear hx e1 e2 L3;go_enter func195,ntmps195;go_wp2_with fail;refine(HT.o _ Q0.o).mono ?_;rintro _ w1 ⟨rfl,h1,k1⟩;have Q1:=aa (show PQ w w1 p b S G s from Q0.o.call h1 k1);have c1:=Q1.o.pp.c0;have hp1:=Q1.o.pp.lt;clear h1 k1;go_wp2_with fail;refine(HNN.o _ Q1.o).mono ?_;rintro _ w2 ⟨rfl,h2,k2⟩;have Q2:=aa (Q1.o.call h2 k2);clear h2 k2;go_wp2_with fail;go_ret;rw[HQ.o];exact⟨_,rfl,.all w2.heap.size ⟨#[]⟩ ⟨#[]⟩ 0 0 Q2.o.kp.size (KS w2 _),Q2.o.al _⟩
 rw[K8 e2]at HQ;rw[KT (show¬nm s=aE [97,108,108]from e2)]at L2;by_cases e3:nm s=cm
 ·rw[K9 e3]at HQ
  rw[Le (show nm s=aE [105,115]from e3)]at L3;have HN2:=aa (fun W (hW:PQ w W p b S G (ab s))=>rF W p b S G (ab s) hW.pp hW.ps);generalize eN (f+1) s=FF at*;generalize nm (ab s)=n2 at*;generalize nm s=n at*;clear hx e1 e2 e3;go_enter func195,ntmps195;go_wp2_with fail;refine(HT.o _ Q0.o).mono ?_;rintro _ w1 ⟨rfl,h1,k1⟩;have Q1:=aa (show PQ w w1 p b S G s from Q0.o.call h1 k1);have c1:=Q1.o.pp.c0;have hp1:=Q1.o.pp.lt;clear h1 k1;go_wp2_with fail;refine(HNN.o _ Q1.o).mono ?_;rintro _ w2 ⟨rfl,h2,k2⟩;have Q2:=aa (Q1.o.call h2 k2);clear h2 k2;go_wp2_with fail;refine(HN2.o _ Q2.o).mono ?_;rintro _ w3 ⟨rfl,h3,k3⟩;have Q3:=aa (Q2.o.call h3 k3);clear h3 k3;go_wp2_with fail;go_ret;rw[HQ.o];exact⟨_,rfl,.is w3.heap.size n2 ⟨#[]⟩ 0 0 Q3.o.kp.size (KS w3 _),Q3.o.al _⟩
 rw[K8 e3]at HQ;rw[KT (show¬nm s=aE [105,115]from e3)]at L3;have HN:=aa (fun W (hW:PQ w W p b S G (ab s))=>iG W b G (ab s) 10 hW.ps);have HV:=aa (fun W (hW:PQ w W p b S G (ak (ab s) (af (ab s) 10)))=>Ea W p b S G _ hW.pp hW.ps);have HEV:=aa (Gc (ak (ab s) (af (ab s) 10)));generalize eN (f+1) s=FF at*;generalize (ce (ab s) 10).k=nk at*;generalize (ce (ab s) 10).n=nn at*;generalize (ce (ab s) 10).s=ny at*;generalize nV (ak (ab s) (af (ab s) 10))=vt at*;rw[<-HEV.o]at HV;clear HEV;generalize ak (ab s) (af (ab s) 10)=s3 at*;have HY:=aa (show∀k W,W.heap[k]?=some (.cells #[.string (nm s),.int .i64 5,.slice none 0 0,.int .i64 (iK vt).1,.int .i64 (iK vt).2.1,.string (iK vt).2.2] 216 (0,0))->w.heap.size<=k->dt W (fun k=>w.heap.size<=k) (.pointer (some ⟨k,0,none⟩)) (.eq (nm s) vt)from fun k W h1 h2=>.eq k _ vt h2 h1);generalize iK vt=ev at*;generalize nm s=n at*;clear hx e1 e2 e3;go_enter func195,ntmps195;go_wp2_with fail;refine(HT.o _ Q0.o).mono ?_;rintro _ w1 ⟨rfl,h1,k1⟩;have Q1:=aa (show PQ w w1 p b S G s from Q0.o.call h1 k1);have c1:=Q1.o.pp.c0;have hp1:=Q1.o.pp.lt;clear h1 k1;go_wp2_with fail;refine(HNN.o _ Q1.o).mono ?_;rintro _ w2 ⟨rfl,h2,k2⟩;have Q2:=aa (Q1.o.call h2 k2);have c2:=Q2.o.pp.c0;have hp2:=Q2.o.pp.lt;clear h2 k2;go_wp2_with fail;refine(HN.o _ Q2.o).mono ?_;rintro _ w3 ⟨rfl,h3,k3⟩;have Q3:=aa (Q2.o.call h3 k3);clear h3 k3;go_wp2_with fail;refine(HV.o _ Q3.o).mono ?_;rintro _ w4 ⟨rfl,q4⟩;have Q4:=aa (Q3.o.tr q4);clear q4;go_wp2_with fail;go_ret;rw[HQ.o];exact⟨_,rfl,HY.o _ _ (KS w4 _) Q4.o.kp.size,Q4.o.al _⟩
theorem Gh(w:World)(p b S G:Nat)(s:St)(hP:PP w p b S)(h:PS w b G s):
 Calls prog 134 #[.pointer (some ⟨p,0,none⟩)] w fun e w'=>∃u,e=.returned u/\dt w' (fun k=>w.heap.size<=k) u (oq 802 s).1/\PQ w w' p b S G (oq 802 s).2:=
 y7 p b S G 801 _ (yu p b S G 801 _ (F8 p b S G 801 (KK _)) (qQ _) (KK _)) (sY _ _ _ (qQ _)) (KK _) w s h.len hP h
section
structure lH where
 has:Ls->Bool
 cell:Ls->Nat×Int×Ls
 id:Ls
mutual
def cZ(E:lH):aK->Bool
 | .all=>true
 | .is n=>E.has n
 | .eq n v=>decide (E.cell n=v.getD (2,0,E.id))
 | .not r=>!cZ E r
 | .chain true l=>mK E l
 | .chain false l=>mo E l
def mK(E:lH):List aK->Bool
 |[]=>false
 |t::l=>cZ E t||mK E l
def mo(E:lH):List aK->Bool
 |[]=>true
 |t::l=>cZ E t&&mo E l
end
def dU(x:Tk)(y:Ls):Prop:=x.k=1/\x.s=y
def od(x:Tk):Nat×Int×Ls:=((br (some [x])).sh,(br (some [x])).n,(br (some [x])).s)
inductive dn:Nat->List Tk->List aK->Prop
 |not (x:Tk) (e:List Tk) (t:aK):dU x dc->dn 0 e [t]->dn 0 (x::e) [.not t]
 |all (x:Tk):dU x dX->dn 0 [x] [.all]
 |is (x y:Tk):dU x cm->y.k=1->dn 0 [x,y] [.is y.s]
 |par (x z:Tk) (e:List Tk) (l:List aK):x.k=7->z.k=8->dn 2 e l->dn 0 (x::(e++[z])) [.chain true l]
 |eqv (x z u:Tk):x.k=1->x.s≠dc->x.s≠dX->x.s≠cm->z.k=10->dU u eV->dn 0 [x,z,u] [.eq x.s none]
 |eql (x z u:Tk):x.k=1->x.s≠dc->x.s≠dX->x.s≠cm->z.k=10->¬dU u eV->dN (some [u])=true->dn 0 [x,z,u] [.eq x.s (some (od u))]
 |and1 (e:List Tk) (t:aK):dn 0 e [t]->dn 1 e [t]
 |and (x:Tk) (e e':List Tk) (t:aK) (l:List aK):dU x dy->dn 0 e [t]->dn 1 e' l->dn 1 (e++x::e') (t::l)
 |or1 (e:List Tk) (l:List aK):dn 1 e l->dn 2 e [.chain false l]
 |or (x:Tk) (e e':List Tk) (l l':List aK):dU x dW->dn 1 e l->dn 2 e' l'->dn 2 (e++x::e') (.chain false l::l')
inductive iP(word:Ls)(C:List Tk->aK->Prop):List Tk->List aK->Prop
 |one (e:List Tk) (t:aK):C e t->iP word C e [t]
 |cons (x:Tk) (e e':List Tk) (t:aK) (l:List aK):dU x word->C e t->iP word C e' l->iP word C (e++x::e') (t::l)
theorem dn.parts{U C:List Tk->aK->Prop}(hnot:∀x e t,dU x dc->U e t->U (x::e) (.not t))(LZ:∀x,dU x dX->U [x] .all)(his:∀x y,dU x cm->y.k=1->U [x,y] (.is y.s))
 (hpar:∀x z e l,x.k=7->z.k=8->iP dW C e l->U (x::(e++[z])) (.chain true l))
 (heqv:∀x z u,x.k=1->x.s≠dc->x.s≠dX->x.s≠cm->z.k=10->dU u eV->U [x,z,u] (.eq x.s none))
 (heql:∀x z u,x.k=1->x.s≠dc->x.s≠dX->x.s≠cm->z.k=10->¬dU u eV->dN (some [u])=true->U [x,z,u] (.eq x.s (some (od u))))
 (hcl:∀e l,iP dy U e l->C e (.chain false l)) {k:Nat} {e:List Tk} {l:List aK} (h:dn k e l):
 (k=0->∀t,l=[t]->U e t)/\(k=1->iP dy U e l)/\(k=2->iP dW C e l):=by
 induction h with
 |not x e t hx _ ih=>exact⟨fun _ t' q=>(by cases q;exact hnot x e t hx (ih.1 rfl t rfl)),fun q=>(by cases q),fun q=>(by cases q)⟩
 |all x hx=>exact⟨fun _ t' q=>(by cases q;exact LZ x hx),fun q=>(by cases q),fun q=>(by cases q)⟩
 |is x y hx hy=>exact⟨fun _ t' q=>(by cases q;exact his x y hx hy),fun q=>(by cases q),fun q=>(by cases q)⟩
 |par x z e l hx hz _ ih=>exact⟨fun _ t' q=>(by cases q;exact hpar x z e l hx hz (ih.2.2 rfl)),fun q=>(by cases q),fun q=>(by cases q)⟩
 |eqv x z u h1 h2 h3 h4 h5 h6=>exact⟨fun _ t' q=>(by cases q;exact heqv x z u h1 h2 h3 h4 h5 h6),fun q=>(by cases q),fun q=>(by cases q)⟩
 |eql x z u h1 h2 h3 h4 h5 h6 h7=>exact⟨fun _ t' q=>(by cases q;exact heql x z u h1 h2 h3 h4 h5 h6 h7),fun q=>(by cases q),fun q=>(by cases q)⟩
 |and1 e t _ ih=>exact⟨fun q=>(by cases q),fun _=>.one e t (ih.1 rfl t rfl),fun q=>(by cases q)⟩
 |and x e e' t l hx _ _ ih ih'=>exact⟨fun q=>(by cases q),fun _=>.cons x e e' t l hx (ih.1 rfl t rfl) (ih'.2.1 rfl),fun q=>(by cases q)⟩
 |or1 e l _ ih=>exact⟨fun q=>(by cases q),fun q=>(by cases q),fun _=>.one e _ (hcl e l (ih.2.1 rfl))⟩
 |or x e e' l l' hx _ _ ih ih'=>exact⟨fun q=>(by cases q),fun q=>(by cases q),fun _=>.cons x e e' _ l' hx (hcl e l (ih.2.1 rfl)) (ih'.2.2 rfl)⟩
section
variable {w w':World} {b:Nat} {L:Value} {ts:List Tk} {R:List Value} {T:TypeId} {s s0:St}
theorem kd(x:Ls)(hx:aq s x=false)(h:RG w b L ts R T s):Calls prog 67 #[.pointer (some ⟨b,0,none⟩),.int .i64 1,.string x] w fun e w'=>e=.returned (.bool false)/\RG w' b L ts R T s/\ai b w w':=by
 have:=rY 1 x h (by decide);rw[rR,hx]at this;exact this
theorem pU(x:Ls)(hx:aq s x=true)(h:RG w b L ts R T s):Calls prog 67 #[.pointer (some ⟨b,0,none⟩),.int .i64 1,.string x] w fun e w'=>e=.returned (.bool true)/\RG w' b L ts R T (tl s)/\ai b w w':=by
 have:=rY 1 x h (by decide);rw[rR,hx]at this;exact this
theorem xd(K:Nat)(x:Ls)(hx:x=oi K)(h3:5<=K)(h4:K<=17)(h:RG w b L ts R T s):Calls prog 67 #[.pointer (some ⟨b,0,none⟩),.int .i64 4,.string x] w fun e w'=>e=.returned (.bool (af s K))/\RG w' b L ts R T (ec s (af s K))/\ai b w w':=by
 have:=rY 4 x h (by decide);rw[hx,sm s K h3 h4 h.hdok]at this;rw[hx];exact this
theorem wI(K:Nat)(x:Ls)(hx:x=oi K)(h3:5<=K)(h4:K<=17)(h:RG w b L ts R T s):Calls prog 70 #[.pointer (some ⟨b,0,none⟩),.int .i64 4,.string x] w fun e w'=>e=.returned (.tuple #[])/\RG w' b L ts R T (ak s (af s K))/\ai b w w':=by
 have:=CI 4 x h (by decide);rw[hx,sm s K h3 h4 h.hdok]at this;rw[hx];exact this
end
end
attribute [local go_sem ↓] Go.wp_at_zero Go.wp_at_succ
theorem jP{w:World}{base size n F:Nat}{e T:TypeId}{v:Value}{xs:List Value}{cs:Array Value}{fr:Nat×Nat}(ho:w.ownsRow base e size v n xs)(hF:w.heap[F]?=some (.cells cs T fr))(hT:T≠e):Option.some F≠v.ownBlock:=fun x=>by
 rcases ho.2 with⟨y,_⟩|⟨g,cap,cur,hv,hg,hh,r⟩
 ·rw[y]at x;cases x
 ·rw[hv]at x
  have e3:=KY (show some F=some g from x);rw[<-e3,hF]at hh;cases hh;exact hT rfl
theorem PS.grown'{w w':World}{b G:Nat}{s:St}{row:Option Nat}(h:PS w b G s)(hg:w.grownBy w' row)(hb:some b≠row)(hG:some G≠row):PS w' b G s:=
 h.move (hg.block b h.lt hb) (hg.block G h.glt hG) hg.size
theorem PP.grown'{w w':World}{p b S:Nat}{row:Option Nat}(h:PP w p b S)(hg:w.grownBy w' row)(hp:some p≠row):PP w' p b S:=by
 unfold PP at*;rw[hg.block p (ag h) hp];exact h
theorem PS.drew{w:World}{b G:Nat}{s:St}(h:PS w b G s):PS w.drew b G s:=h.move rfl rfl (KK _)
theorem PP.drew{w:World}{p b S:Nat}(h:PP w p b S):PP w.drew p b S:=h
structure bP(b S:Nat)(w w':World):Prop where
 size:w.heap.size<=w'.heap.size
 block:∀(k:Nat) (cs:Array Value) (T:TypeId) (fr:Nat×Nat),w.heap[k]?=some (.cells cs T fr)->T≠193->T≠133->T≠152->w'.heap[k]?=some (.cells cs T fr)
 os:w'.os=w.os
 tape:w'.tape=w.tape
 output:w'.output=w.output
 low:∀k,k<S->k<w.heap.size->k≠b->w'.heap[k]?=w.heap[k]?
theorem bP.of_keep{b S:Nat}{w w':World}{cs:Array Value}{fr:Nat×Nat}(h:ai b w w')(hb:w.heap[b]?=some (.cells cs 193 fr)):bP b S w w':=
 ⟨h.size,fun k c T f hk h1 _ _=>by rw[h.block k (ag hk) (fun e=>by subst e;rw[hb]at hk;cases hk;exact h1 rfl)];exact hk,h.os,h.tape,h.output,fun k _ hk hb=>h.block k hk hb⟩
theorem bP.refl(b S:Nat)(w:World):bP b S w w:=⟨KK _,fun _ _ _ _ h _ _ _=>h,rfl,rfl,rfl,fun _ _ _ _=>rfl⟩
theorem bP.trans{b S:Nat}{x y z:World}(h:bP b S x y)(k:bP b S y z):bP b S x z:=⟨KP h.size k.size,fun i cs T fr a b c d=>k.block i cs T fr (h.block i cs T fr a b c d) b c d,k.os.trans h.os,k.tape.trans h.tape,k.output.trans h.output,fun i hS hi hb=>(k.low i hS (KV hi h.size) hb).trans (h.low i hS hi hb)⟩
theorem bP.of_below{b S:Nat}{w w':World}(h:Lt w w'):bP b S w w':=⟨h.size,fun k _ _ _ hk _ _ _=>by rw[h.block k (ag hk)];exact hk,h.os,h.tape,h.output,fun k _ hk _=>h.block k hk⟩
theorem bP.stay{b S:Nat}{T:TypeId}{B:Nat}{w w':World}(h:bP b S w w')(h1:T≠193)(h2:T≠133)(h3:T≠152):au T B w w':=fun k cs fr _ a=>h.block k cs T fr a h1 h2 h3
theorem bP.alloc{b S:Nat}{x y:World}(h:bP b S x y)(o:Obj):bP b S x (y.alloc o):=h.trans (bP.of_below ((KL _ _).alloc (KK _) _))
theorem bP.set{b S:Nat}{x y:World}{F:Nat}{cs:Array Value}{T:TypeId}{fr:Nat×Nat}(h:bP b S x y)(hF:y.heap[F]?=some (.cells cs T fr))(hT:T=193\/T=133\/T=152)(hFS:S<=F)(i:Nat)(v:Value):bP b S x (y.setCell ⟨F,i,none⟩ v):=
 h.trans ⟨by simp[World.setCell],fun k c T' f hk h1 h2 h3=>by
  rw[KX _ _ _ _ (fun e=>by subst e;rw[hF]at hk;cases hk;rcases hT with e|e|e<;>simp_all)];exact hk,rfl,rfl,rfl,fun k hS _ _=>KX _ _ _ _ (fun e=>by have e2:k=F:=e;omega)⟩
theorem bP.grown{b S:Nat}{x y z:World}{row:Option Nat}{base size n:Nat}{v:Value}{xs:List Value}(h:bP b S x y)(hg:y.grownBy z row)(ho:y.ownsRow base 152 size v n xs)(hr:row=v.ownBlock)(Nl:S<=base):bP b S x z:=
 h.trans ⟨hg.size,fun k c T' f hk h1 h2 h3=>by
  rw[hg.block k (ag hk) (by rw[hr];exact jP ho hk h3)];exact hk,hg.os,hg.tape,hg.output,fun k hS hk _=>hg.block k hk (fun e=>by rw[hr]at e;have:=(ho.lt k e.symm).1;omega)⟩
theorem bP.drew{b S:Nat}{x y:World}(h:bP b S x y):bP b S x y.drew:=⟨h.size,h.block,h.os,h.tape,h.output,h.low⟩
def SC(w:World)(S:Nat)(a b c d e:Value):Prop:=w.heap[S]?=some (.cells #[a,b,c,d,e] 133 (0,0))
theorem SC.keep{w w':World}{S F:Nat}{a b c d e:Value}(h:SC w S a b c d e)(hk:ai F w w')(hF:S≠F):SC w' S a b c d e:=hk.at h hF
theorem info152:(prog.info? 152).map (fun i=>(i.zero,i.size,i.bytes))=some (some (.agg #[.string ⟨#[]⟩]),1,16):=by kernel_rfl
theorem Kq(w:World)(p b S G:Nat)(s:St)(vR vO vI vU vN:Value)(names:List Ls)(hP:PP w p b S)(h:PS w b G s)(hS:SC w S vR vO vI vU vN)(hN:w.ownsRow S 152 1 vN names.length (bt names))(hbS:b<S)(hGS:G<S)(hnl:names.length<=100000):
 Calls prog 131 #[.pointer (some ⟨p,0,none⟩)] w fun e w'=>∃vN',e=.returned (.agg #[.string (nm s)])/\PS w' b G (ab s)/\PP w' p b S/\SC w' S vR vO vI vU vN'/\w'.ownsRow S 152 1 vN' (names.length+1) (bt (names++[nm s]))/\bP b S w w':=by
 obtain⟨i0,hi,hz0,hz1,hz2⟩:=info_parts info152;have hSl:=ag hS;have HKY:=aa (fun(w':World) (hk:ai b w w')=>(bP.of_keep hk h.ty.choose_spec:bP b S w w'));have HSTAY:=aa (fun(w':World) (hk:ai b w w')=>h.stay (T:=152) (B:=S) hk);obtain⟨aN,cN,rfl⟩:=bc hN;have HS0:=aa hS;have HO0:=aa hN;have hrw:∀k,(Value.slice aN names.length cN).ownBlock=some k->S<=k/\k<w.heap.size:=fun k hk=>hN.lt k hk;have hpS:p≠S:=hP.ne hS (by decide);clear hS hN;have hlt:=h.lt;have hgl:=h.glt;have hpl:=hP.lt;have H0:=aa h;have HP0:=aa hP;have HK0:=aa (ai.refl b w);have c0:=hP.c0;clear h hP;have H1:=aa (H0.o.alloc (.cells #[.string ⟨#[]⟩] 152));have HP1:=aa (HP0.o.alloc (.cells #[.string ⟨#[]⟩] 152));have HK1:=aa (HK0.o.alloc (.cells #[.string ⟨#[]⟩] 152));have HN1R:=aa (show(w.alloc (.cells #[.string ⟨#[]⟩] 152)).heap[w.heap.size]?=some (.cells #[.string ⟨#[]⟩] 152 (0,0))from KS _ _);clear H0 HP0 HK0;have c1:=HP1.o.c0;have hc:=rF (w.alloc (.cells #[.string ⟨#[]⟩] 152)) p b S G s HP1.o H1.o;generalize nm s=n at*;generalize ab s=s1 at*;go_enter func131,ntmps131;go_wp2_with fail;refine hc.mono ?_;clear hc;rintro e w2 ⟨rfl,h2,k2⟩;have HP2:=aa (HP1.o.keep H1.o k2);have HK2:=aa (HK1.o.trans k2);have NK:=aa (k2.at HN1R.o (by omega));have z2R:=ag NK.o;have H2:=aa (show PS w2 b G s1 from h2);have c2:=HP2.o.c0;have zw2:=HK2.o.size;have zp2:=HP2.o.lt;have zb2:=H2.o.lt;clear H1 HP1 HK1 HN1R h2;have HS1:=aa (HK2.o.at HS0.o (by omega));have HO1:=aa (dO HO0.o (HSTAY.o _ HK2.o));have HY1:=aa (HKY.o _ HK2.o);clear HS0 HO0 HKY HSTAY k2;have cp1:=HP2.o.c1;have dS:w2.cell? ⟨S,4,none⟩=some (.slice aN names.length cN):=ae HS1.o 4;have fS:=ar HS1.o 4;have zS:=ag HS1.o;have hloS:Option.some S≠(Value.slice aN names.length cN).ownBlock:=jP HO1.o HS1.o (by decide);have Nz:Option.some p≠(Value.slice aN names.length cN).ownBlock:=jP HO1.o HP2.o (by decide);have NF:Option.some b≠(Value.slice aN names.length cN).ownBlock:=jP HO1.o H2.o.ty.choose_spec (by decide);have hO1:=HO1.o;go_wp2_with fail;have zwW:w.heap.size<w2.heap.size:=by omega
 have nSn0:¬S=w2.heap.size:=by omega
 have npS0:¬S=p:=by omega
 go_region_law (first|(refine step_append_lies _ (by rfl) _ _ _ (by rfl) S 152 i0 _ 1 16 underlying131 hi hz0 hz1 hz2 rfl (by decide) _ _ _ (by rfl) (((hO1.alloc _).alloc _).drew) ⟨w2.heap.size+1,0,none⟩ 1 1 [.string n] (by rfl) (by rfl) (de _ _ _ _ (by simp)) (fun u hu=>by simp at hu;subst hu;rfl) (by decide) (by unfold maxLen;omega) (by omega) (by simp;omega) (w2.heap.size+2) (by simp) ?_;intro g cap w5 LV hgrow hat hg5;have e5:w5.cell? ⟨S,4,none⟩=some (.slice aN names.length cN):=(hgrow.cell_far ⟨S,4,none⟩ (by simp;omega) hloS).trans ((di w2 _ _).drew.cell (show S<w2.heap.size from zS)|>.trans dS);have p5:w5.cell? ⟨p,1,none⟩=some (.pointer (some ⟨S,0,none⟩)):=(hgrow.cell_far ⟨p,1,none⟩ (by simp;omega) Nz).trans ((di w2 _ _).drew.cell (show p<w2.heap.size by omega)|>.trans cp1);have f5:w5.frozen? ⟨S,4,none⟩=false:=(hgrow.frozen_far ⟨S,4,none⟩ (by simp;omega) hloS).trans ((di w2 _ _).drew.frozen (show S<w2.heap.size from zS)|>.trans fS);have n5:w5.cell? ⟨w2.heap.size,0,none⟩=some (.string n):=(hgrow.cell_far ⟨w2.heap.size,0,none⟩ (by simp;omega) (fun e=>by have:=(hrw w2.heap.size e.symm).2;omega)).trans (ae (w:=(((w2.alloc (.cells #[.string n] 152)).alloc (.cells #[.string n] 152)).drew)) (ig _ _ _) 0)));all_goals(
  have V5:=(di w2 (.cells #[.string n] 152 (0,0)) (.cells #[.string n] 152 (0,0))).drew;have g5S:w5.heap[S]?=some (.cells #[vR,vO,vI,vU,.slice aN names.length cN] 133 (0,0)):=(hgrow.block S (by simp;omega) hloS).trans ((V5.block S zS).trans HS1.o);have g5n:w5.heap[w2.heap.size]?=some (.cells #[.string n] 152 (0,0)):=(hgrow.block _ (by simp;omega) (fun e=>by have:=(hrw _ e.symm).2;omega)).trans (ig _ _ _);have g5R:w5.heap[w.heap.size]?=some (.cells #[.string ⟨#[]⟩] 152 (0,0)):=(hgrow.block _ (by simp;omega) (fun e=>by have:=(hrw _ e.symm).2;omega)).trans ((V5.block _ zwW).trans NK.o);have c5n:w5.cell? ⟨w2.heap.size,0,none⟩=some (.string n):=ae g5n 0;have c5R:w5.cell? ⟨w.heap.size,0,none⟩=some (.string ⟨#[]⟩):=ae g5R 0;have f5R:=ar g5R 0;have z5R:=ag g5R;have z5n:=ag g5n;have nSR:S≠w.heap.size:=by omega
  have nSn:S≠w2.heap.size:=by omega
  have gS:=((((H2.o.below V5).grown' hgrow NF (fun e=>by have:=(hrw G e.symm).1;omega)).set (F:=S) (by omega) (by omega) 4 (.slice (some ⟨g,0,none⟩) (names.length+1) cap)).set (F:=w.heap.size) (by omega) (by omega) 0 (.string n));have gP:=((((HP2.o.below V5).grown' hgrow Nz).set g5S (by decide) 4 (.slice (some ⟨g,0,none⟩) (names.length+1) cap)).set (dG g5R (show w.heap.size≠S by omega) 4 (.slice (some ⟨g,0,none⟩) (names.length+1) cap)) (by decide) 0 (.string n));have gC:SC ((w5.setCell ⟨S,4,none⟩ (.slice (some ⟨g,0,none⟩) (names.length+1) cap)).setCell ⟨w.heap.size,0,none⟩ (.string n)) S vR vO vI vU (.slice (some ⟨g,0,none⟩) (names.length+1) cap):=dG (aJ g5S 4 (.slice (some ⟨g,0,none⟩) (names.length+1) cap)) nSR 0 (.string n);have gY:=((((HY1.o.alloc _).alloc _).drew.grown hgrow (((HO1.o.alloc _).alloc _).drew) rfl (KK _)).set g5S (by decide) (KK _) 4 (.slice (some ⟨g,0,none⟩) (names.length+1) cap)).set (dG g5R (show w.heap.size≠S by omega) 4 (.slice (some ⟨g,0,none⟩) (names.length+1) cap)) (by decide) (by omega) 0 (.string n);have hgR:g≠w.heap.size:=by
   rcases hat with e|e
   ·have:=(hrw g e).2;omega
   ·omega
  have hgS:g≠S:=fun e=>by
   rcases LV.2 with⟨y,_⟩|⟨g',LM,cur',hv',_,hh',_⟩
   ·exact absurd y (by simp)
   ·cases hv';rw[e,g5S]at hh';cases hh'
  have gO:=sU (sU LV (w':=w5.setCell ⟨S,4,none⟩ (.slice (some ⟨g,0,none⟩) (names.length+1) cap)) (fun k hk _=>KX _ _ _ _ (by cases hk;exact hgS))) (w':=(w5.setCell ⟨S,4,none⟩ (.slice (some ⟨g,0,none⟩) (names.length+1) cap)).setCell ⟨w.heap.size,0,none⟩ (.string n)) (fun k hk _=>KX _ _ _ _ (by cases hk;exact hgR));have HX:=aa (And.intro gS (And.intro gP (And.intro gC (And.intro gO gY))));clear gS gP gC gO gY LV hgrow V5 HY1 hO1 HO1 g5S g5n g5R;go_wp2_with fail;exact bodyPost_ret (v:=.agg #[.string n]) (by simp[results,results131,go_sem, *]) rfl ⟨_,rfl,HX.o.1,HX.o.2.1,HX.o.2.2.1,by rw[rS];exact HX.o.2.2.2.1,HX.o.2.2.2.2⟩)
abbrev cw:=Bool×Ls
inductive oH(w:World)(Q:Nat->Prop):Value->List cw->Prop
 |is (k:Nat) (n:Ls) (a c d e:Value):Q k->w.heap[k]?=some (.cells #[.string n,.int .i64 4,a,c,d,e] 216 (0,0))->oH w Q (.pointer (some ⟨k,0,none⟩)) [(true,n)]
 |eq (k:Nat) (n:Ls) (a c d e:Value):Q k->w.heap[k]?=some (.cells #[.string n,.int .i64 5,a,c,d,e] 216 (0,0))->oH w Q (.pointer (some ⟨k,0,none⟩)) [(false,n)]
 |node (k:Nat) (c:Nat) (n:Ls) (v x y z:Value) (vs:List Value) (ls:List (List cw)):Q k->c<4->w.heap[k]?=some (.cells #[.string n,.int .i64 c,v,x,y,z] 216 (0,0))->w.ownsRow 0 161 1 v vs.length vs->(∀g,v.ownBlock=some g->Q g)->vs.length<=802->vs.length=ls.length->(∀(j:Nat) (u:Value) (l:List cw),vs[j]?=some u->ls[j]?=some l->oH w Q u l)->oH w Q (.pointer (some ⟨k,0,none⟩)) ls.flatten
def jT(word:Ls)(part:St->List cw×St):Nat->List (List cw)->St->List (List cw)×St
 |0,acc,s=>(acc,s)
 |f+1,acc,s=>if aq s word=true then jT word part f (acc++[(part (tl s)).1]) (part (tl s)).2 else(acc,s)
def chain(word:Ls)(part:St->List cw×St)(s:St):List cw×St:=
 ((jT word part 801 [(part s).1] (part s).2).1.flatten,(jT word part 801 [(part s).1] (part s).2).2)
theorem BE(word:Ls)(part:St->List cw×St)(hp:∀s,ln (part s).2<=ln s):∀(f:Nat) (acc:List (List cw)) (s:St),ln (jT word part f acc s).2<=ln s
 |0,_,_=>KK _
 |f+1,acc,s=>by
  rw[jT];split
  ·exact KP (BE word part hp f _ _) (KP (hp _) (cK s))
  ·exact KK _
theorem ut(word:Ls)(part:St->List cw×St)(hp:∀s,ln (part s).2<=ln s)(s:St):ln (chain word part s).2<=ln s:=
 KP (BE word part hp _ _ _) (hp s)
def cd:Nat->St->List cw×St
 |0=>fun s=>([],s)
 |f+1=>fun s=>
  if af s 7=true then((chain ⟨#[111,114]⟩ (chain ⟨#[97,110,100]⟩ (cd f)) (tl s)).1,ak (chain ⟨#[111,114]⟩ (chain ⟨#[97,110,100]⟩ (cd f)) (tl s)).2 (af (chain ⟨#[111,114]⟩ (chain ⟨#[97,110,100]⟩ (cd f)) (tl s)).2 8))
  else if nm s=dc then cd f (ab s)
  else if nm s=dX then([],ab s)
  else if nm s=cm then([(true,nm (ab s))],ab (ab s))
  else([(false,nm s)],iZ (ak (ab s) (af (ab s) 10)))
theorem pn(f:Nat)(s:St):cd (f+1) s=(if af s 7=true then((chain ⟨#[111,114]⟩ (chain ⟨#[97,110,100]⟩ (cd f)) (tl s)).1,ak (chain ⟨#[111,114]⟩ (chain ⟨#[97,110,100]⟩ (cd f)) (tl s)).2 (af (chain ⟨#[111,114]⟩ (chain ⟨#[97,110,100]⟩ (cd f)) (tl s)).2 8))
 else if nm s=dc then cd f (ab s)
 else if nm s=dX then([],ab s)
 else if nm s=cm then([(true,nm (ab s))],ab (ab s))
 else([(false,nm s)],iZ (ak (ab s) (af (ab s) 10)))):=rfl
def j4(f:Nat):St->List cw×St:=chain ⟨#[111,114]⟩ (chain ⟨#[97,110,100]⟩ (cd f))
theorem pj:∀(f:Nat) (s:St),ln (cd f s).2<=ln s
 |0,s=>KK _
 |f+1,s=>by
  rw[pn];split
  ·exact KP (cg _ _) (KP (ut _ _ (ut _ _ (pj f)) _) (cK s))
  ·split
   ·exact KP (pj f _) (bH s)
   ·split
    ·exact bH s
    ·split
     ·exact KP (bH _) (bH s)
     ·exact KP (AO _) (KP (cg _ _) (bH s))
mutual
def fU:aK->List cw
 | .all=>[]
 | .is n=>[(true,n)]
 | .eq n _=>[(false,n)]
 | .not t=>fU t
 | .chain _ l=>re l
def re:List aK->List cw
 |[]=>[]
 |t::l=>fU t++re l
end
theorem wX:∀l:List aK,re l=(l.map fU).flatten
 |[]=>by rw[re];rfl
 |t::l=>by rw[re,wX l];rfl
theorem dt.leaves{w:World}{Q:Nat->Prop}{v:Value}{t:aK}(h:dt w Q v t):oH w Q v (fU t):=by
 induction h with
 |all k n z x y h1 h2=>rw[fU];exact .node k 3 n _ _ _ _ [] [] h1 (by decide) h2 (K7 _ _ _ _) (fun g hg=>by cases hg) (by decide) rfl (fun j u l hu _=>by simp at hu)
 |is k n z x y h1 h2=>rw[fU];exact .is k n _ _ _ _ h1 h2
 |eq k n o h1 h2=>rw[fU];exact .eq k n _ _ _ _ h1 h2
 |not k n z x y v u t h1 h2 h3 h4 _ ih=>
  rw[fU];have:=oH.node (w:=w) (Q:=Q) k 2 n v _ _ _ [u] [fU t] h1 (by decide) h2 h3 h4 (by simp) rfl (fun j u' l hu hl=>by
   have hj:j=0:=by have:=(KO.1 hu).1;simp at this;omega
   subst hj;cases hu;cases hl;exact ih)
  simpa using this
 |chain k o n z x y v vs ts h1 h2 h3 h4 h5 h6 _ ih=>
  rw[fU,wX];exact .node k (if o=true then 0 else 1) n v _ _ _ vs (ts.map fU) h1 (by split<;>decide) h2 h3 h4 h5 (by rw[Ll];exact h6) (fun j u l hu hl=>by
   rw[La]at hl;obtain⟨t,ht,rfl⟩:=Option.map_eq_some_iff.1 hl;exact ih j u t hu ht)
def rp(tp:St->aK×St)(pp:St->List cw×St):Prop:=∀s,fU (tp s).1=(pp s).1/\(tp s).2=(pp s).2
theorem zP{tp:St->aK×St}{pp:St->List cw×St}(h:rp tp pp)(word:Ls):∀(f:Nat) (acc:List aK) (s:St),(i6 word tp f acc s).1.map fU=(jT word pp f (acc.map fU) s).1/\(i6 word tp f acc s).2=(jT word pp f (acc.map fU) s).2
 |0,_,_=>⟨rfl,rfl⟩
 |f+1,acc,s=>by
  rw[i6,jT];split
  ·have:=zP h word f (acc++[(tp (tl s)).1]) (tp (tl s)).2
   rw[Lr,List.map_cons,List.map_nil,(h (tl s)).1,(h (tl s)).2]at this;rw[(h (tl s)).2];exact this
  ·exact⟨rfl,rfl⟩
theorem tm{tp:St->aK×St}{pp:St->List cw×St}(h:rp tp pp)(o:Bool)(word:Ls):rp (dQ o word tp) (chain word pp):=fun s=>by
 have:=zP h word 801 [(tp s).1] (tp s).2;rw[List.map_cons,List.map_nil,(h s).1,(h s).2]at this;unfold dQ chain;dsimp only;rw[fU,wX,(h s).2];exact⟨by rw[this.1],this.2⟩
theorem vj:∀f:Nat,rp (eN f) (cd f)
 |0=>fun s=>⟨by show fU .all=_;rw[fU];rfl,rfl⟩
 |f+1=>fun s=>by
  rw[tf,pn];have hc:=tm (tm (vj f) false jy) true j0 (tl s);have hn:=vj f (ab s);split
  ·exact⟨hc.1,by rw[hc.2];rfl⟩
  ·split
   ·dsimp only;rw[fU];exact hn
   ·split
    ·dsimp only;rw[fU];exact⟨rfl,rfl⟩
    ·split
     ·dsimp only;rw[fU];exact⟨rfl,rfl⟩
     ·dsimp only;rw[fU];exact⟨rfl,rfl⟩
theorem yd(f:Nat):rp (oq f) (j4 f):=tm (tm (vj f) false jy) true j0
attribute [local go_sem ↓] Go.wp_at_zero Go.wp_at_succ
theorem bP.setNew{b S:Nat}{x y:World}(h:bP b S x y)(a:Addr)(ha:x.heap.size<=a.block)(v:Value):bP b S x (y.setCell a v):=
 ⟨KP h.size (by simp[World.setCell]),fun k c T f hk h1 h2 h3=>by
  rw[KX _ _ _ _ (by have:=ag hk;omega)];exact h.block k c T f hk h1 h2 h3,h.os,h.tape,h.output,fun k hS hk hb=>by
  rw[KX _ _ _ _ (by omega)];exact h.low k hS hk hb⟩
theorem iv.slice{w:World}{B:Nat}{v:Value}{l:List ax}(h:iv w B v l):∃a c,v=.slice a l.length c:=by
 obtain⟨L,e,ho,_⟩:=h;obtain⟨a,c,hv⟩:=bc ho;exact⟨a,c,by rw[hv,<-e];simp⟩
structure DefPost(w w':World)(p b S G:Nat)(s':St)(vR vO vI vU:Value)(names:List Ls):Prop where
 ps:PS w' b G s'
 pp:PP w' p b S
 ky:bP b S w w'
 sc:∃vN',SC w' S vR vO vI vU vN'/\w'.ownsRow S 152 1 vN' names.length (bt names)
structure pe(w X:World)(p b S G:Nat)(s:St)(vR vO vI vU:Value)(names:List Ls):Prop extends DefPost w X p b S G s vR vO vI vU names where
 hb:b<S
 hg:G<S
 hS:S<w.heap.size
 hp:p<w.heap.size
section
variable {w X Y:World} {p b S G F:Nat} {s s':St} {vR vO vI vU:Value} {names:List Ls}
theorem pe.pq(h:pe w X p b S G s vR vO vI vU names)(q:PQ X Y p b S G s'):pe w Y p b S G s' vR vO vI vU names:=by
 obtain⟨cs,hcs⟩:=h.ps.ty;obtain⟨vN,h1,h2⟩:=h.sc;exact⟨⟨q.ps,q.pp,h.ky.trans (bP.of_keep q.kp hcs),vN,q.kp.at h1 (by have:=h.hb;omega),dO h2 (h.ps.stay q.kp)⟩,h.hb,h.hg,h.hS,h.hp⟩
theorem pe.off{cs:Array Value}{T:TypeId}{fr:Nat×Nat}(h:pe w X p b S G s vR vO vI vU names)(hF:X.heap[F]?=some (.cells cs T fr))(hT:T≠152)(hw:w.heap.size<=F)(hk:ai F X Y):pe w Y p b S G s vR vO vI vU names:=by
 obtain⟨vN,h1,h2⟩:=h.sc;have hb:=h.hb;have hg:=h.hg;have hS:=h.hS;have hp:=h.hp;refine⟨⟨h.ps.move (hk.block b h.ps.lt (by omega)) (hk.block G h.ps.glt (by omega)) hk.size,(hk.block p h.pp.lt (by omega)).trans h.pp,?_,vN,hk.at h1 (by omega),dO h2 (au.of_keep hk hF hT)⟩,hb,hg,hS,hp⟩;exact⟨KP h.ky.size hk.size,fun k c T f hk1 a1 a2 a3=>hk.at (h.ky.block k c T f hk1 a1 a2 a3) (by have:=ag hk1;omega),hk.os.trans h.ky.os,hk.tape.trans h.ky.tape,hk.output.trans h.ky.output,fun k h1 h2 h3=>(hk.block k (KV h2 h.ky.size) (by omega)).trans (h.ky.low k h1 h2 h3)⟩
end
structure DC(w:World)(p b S G:Nat)(s:St)(vR vO vI vU:Value)(names:List Ls):Prop where
 pp:PP w p b S
 ps:PS w b G s
 sc:∃vN,SC w S vR vO vI vU vN/\w.ownsRow S 152 1 vN names.length (bt names)
 hb:b<S
 hg:G<S
 nl:names.length<=100000
section
variable {w:World} {p b S G:Nat} {s:St} {vR vO vI vU:Value} {names:List Ls}
theorem wL(h:DC w p b S G s vR vO vI vU names)(o:Obj):Calls prog 131 #[.pointer (some ⟨p,0,none⟩)] (w.alloc o) fun e w'=>e=.returned (.agg #[.string (nm s)])/\pe w w' p b S G (ab s) vR vO vI vU (names++[nm s])/\∀cs T,o=.cells cs T (0,0)->T≠193->T≠133->T≠152->w'.heap[w.heap.size]?=some o:=by
 obtain⟨vN,h1,h2⟩:=h.sc;have hS:=ag h1;refine(Kq (w.alloc o) p b S G s vR vO vI vU vN names (h.pp.alloc o) (h.ps.alloc o) ((bp _ _ _ hS).trans h1) (h2.alloc o) h.hb h.hg h.nl).mono ?_;rintro _ w1 ⟨vN',rfl,a1,a2,a3,a4,a5⟩;refine⟨rfl,⟨⟨a1,a2,((bP.refl b S w).alloc o).trans a5,vN',a3,by rw[Lb];exact a4⟩,h.hb,h.hg,hS,h.pp.lt⟩,fun cs T e t1 t2 t3=>?_⟩;subst e;exact a5.block _ _ _ _ (KS w _) t1 t2 t3
theorem IG(h:DC w p b S G s vR vO vI vU names):Calls prog 96 #[.pointer (some ⟨p,0,none⟩)] w fun e w'=>∃v,e=.returned (.agg #[.string (nm s),v])/\iv w' w.heap.size v (dC (ab s)).1/\(dC (ab s)).1.length<=802/\DefPost w w' p b S G (dC (ab s)).2 vR vO vI vU (names++[nm s]):=by
 have HC:=aa (wL h);have hpl:=h.pp.lt;have HF:=aa (fun W (hP:PP W p b S) (hs:PS W b G (ab s))=>yW W p b S G (ab s) hP hs);clear h;generalize nm s=n at*;generalize dC (ab s)=FF at*;go_enter func96,ntmps96;go_wp2_with fail;refine(HC.o _).mono ?_;rintro _ w1 ⟨rfl,d1,hR⟩;have hR1:=hR _ _ rfl (by decide) (by decide) (by decide);have D1:=aa d1;have HR1:=aa hR1;have hl1:=ag hR1;have Q1:=aa ((d1.pp.pq d1.ps).al (.cells #[.string n,.slice none 0 0] 197));have hb1:=d1.ps.lt;have hbS:=d1.hb;have hSw:=d1.hS;clear d1 hR hR1 HC;go_wp2_with fail;refine(HF.o _ Q1.o.pp Q1.o.ps).mono ?_;rintro _ w2 ⟨v,rfl,hv,hvl,q2⟩;obtain⟨aF,cF,rfl⟩:=hv.slice;have Q2:=aa (Q1.o.tr q2);have hN2:=q2.kp.at (KS w1 _) (by omega);have hR2:=q2.kp.at ((bp w1 _ _ hl1).trans HR1.o) (by omega);have HN2:=aa hN2;have HR2:=aa hR2;have HV2:=aa hv;have cN:=ae hN2;have fN:=ar hN2;have cR:=ae hR2;have fR:=ar hR2;have hlN:=ag hN2;have hlR:=ag hR2;clear hv q2 hN2 hR2;go_wp2_with fail;have HK:Hi (∀x y z,ai w.heap.size (w2.setCell ⟨w1.heap.size,1,none⟩ z) (((w2.setCell ⟨w1.heap.size,1,none⟩ z).setCell ⟨w.heap.size,0,none⟩ x).setCell ⟨w.heap.size,1,none⟩ y)):=aa (fun x y z=>((ai.refl _ _).setCell 0 x).setCell 1 y);refine bodyPost_ret (v:=.agg #[.string n,.slice aF FF.1.length cF]) (by simp[results,results96,go_sem, *]) rfl ⟨_,rfl,?_,hvl,?_⟩
 ·refine(HV2.o.stays ?_ ?_).mono (show w.heap.size<=(w1.alloc _).heap.size by simp;omega)
  all_goals repeat' with_reducible first|exact au.refl _ _ _|refine au.set3 ?_ (show _<(w1.alloc _).heap.size by simp;try omega) _ _
 ·exact((D1.o.pq (Q2.o.st ⟨w1.heap.size,1,none⟩ (KK _) (.slice aF FF.1.length cF))).off ((KX _ _ _ _ (show w.heap.size≠w1.heap.size by omega)).trans HR2.o) (by decide) (KK _) (HK.o _ _ _)).toDefPost
end
attribute [local go_sem ↓] Go.wp_at_zero Go.wp_at_succ
def eS:Nat->St->List Ls×St
 |0,s=>([],s)
 |f+1,s=>if af s 16=true then(nm (tl s)::(eS f (ab (tl s))).1,(eS f (ab (tl s))).2)else([],s)
theorem tL(f:Nat)(s:St)(h:af s 16=false):eS f s=([],s):=by
 cases f with
 |zero=>rfl
 |succ f=>rw[eS,K8 (by rw[h];simp)]
def fM(s:St):List Ls×St:=(nm (ak s (af s 10))::(eS 801 (ab (ak s (af s 10)))).1,(eS 801 (ab (ak s (af s 10)))).2)
section
variable {w:World} {p b S G:Nat} {s:St} {vR vO vI vU:Value} {names:List Ls}
theorem JF(h:DC w p b S G s vR vO vI vU names):Calls prog 97 #[.pointer (some ⟨p,0,none⟩)] w fun e w'=>∃v,e=.returned (.agg #[.string (nm s),v])/\w'.ownsRow w.heap.size 9 1 v (fM (ab s)).1.length (bt (fM (ab s)).1)/\(fM (ab s)).1.length<=803/\DefPost w w' p b S G (fM (ab s)).2 vR vO vI vU (names++[nm s]):=by
 obtain⟨i0,hi,hz0,hz1,hz2⟩:=info_parts info9';have HC:=aa (wL h);have hpl:=h.pp.lt;have HQ:=aa (fM.eq_1 (ab s));have hl0:ln (ak (ab s) (af (ab s) 10))<=801:=KP (cg _ _) (KP (bH s) h.ps.len);clear h;generalize fM (ab s)=FF at*;generalize nm s=n at*;generalize ab s=s1 at*;have HN:=aa (fun W (hs:PS W b G s1)=>iG W b G s1 10 hs);generalize (ce s1 10).k=nk at*;generalize (ce s1 10).n=nn at*;generalize (ce s1 10).s=ny at*;generalize ak s1 (af s1 10)=s2 at*;have HNN:=aa (fun W s' (hs:PS W b G s')=>mr W b G s' hs);have HN2:=aa (HNN.o · s2);have hl2:=bH s2;generalize nm s2=m0 at*;generalize ab s2=s3 at*;go_enter func97,ntmps97;go_wp2_with fail;refine(HC.o _).mono ?_;rintro _ w1 ⟨rfl,d1,hR⟩;have hR1:=hR _ _ rfl (by decide) (by decide) (by decide);have D1:=aa d1;have HR1:=aa hR1;have hl1:=ag hR1;have Q1:=aa ((d1.pp.pq d1.ps).al (.cells #[.string n,.slice none 0 0] 200));have c1:=d1.pp.c0;have hp1:=d1.pp.lt;have hb1:=d1.ps.lt;have hbS:=d1.hb;have hSw:=d1.hS;clear d1 hR hR1 HC;go_wp2_with fail;refine(HN.o _ Q1.o.ps).mono ?_;rintro _ w2 ⟨rfl,h2,k2⟩;have q2:=Q1.o.call h2 k2;have Q2:=aa q2;have hN2:=k2.at (KS w1 _) (by omega);have HN2b:=aa hN2;have HR2:=aa (k2.at ((bp w1 _ _ hl1).trans HR1.o) (by omega));have cN:=ae hN2;have hlN:=ag hN2;have c2:=q2.pp.c0;have hp2:=q2.pp.lt;clear h2 k2 q2 hN2 HN;go_upto_region 3 with fail;go_cut [] (fun wc=>∃vI,PQ w1 wc p b S G s3/\wc.heap[w1.heap.size]?=some (.cells #[.string n,vI] 200 (0,0))/\wc.heap[w.heap.size]?=some (.cells #[.string ⟨#[]⟩,.slice none 0 0] 200 (0,0))/\wc.ownsRow (w1.heap.size+1) 9 1 vI 1 (bt [m0]))
 case first=>
  go_region_law (first
   |(refine step_append_lies _ (by rfl) _ _ _ (by rfl) (w1.heap.size+1) 9 i0 _ 1 16 underlying50 hi hz0 hz1 hz2 rfl (by decide) _ _ _ (by rfl) ((K7 w6 (w1.heap.size+1) 9 1).alloc _) ⟨w6.heap.size,0,none⟩ 1 1 [.string m0] (by rfl) (by rfl) (cell_one_new _ _ _) (fun u hu=>by simp at hu;subst hu;rfl) (by decide) (by unfold maxLen;omega) (by omega) (by simp;omega) (w6.heap.size+1) (by simp) ?_;intro g cap w7 hown7 hgrow hat hg7;have g7:=oP (K7 w6 (w1.heap.size+1) 9 1) hgrow (Nat.lt_succ_self _) hN6;have e7:=ae g7;have f7:=ar g7;have l7:=ag g7)
   |(go_simp;go_at_call 93;refine(HN2.o _ ?_).mono ?_;(first|exact Q2.o.dr.ps|exact Q2.o.ps);rintro _ w6 ⟨rfl,h6,k6⟩;have q6:PQ w1 w6 p b S G s3:=(by first|exact Q2.o.dr.call h6 k6|exact Q2.o.call h6 k6);have hN6:=k6.at HN2b.o (by omega);have c6:=ae hN6;have l6:=ag hN6;have z6:=q6.pp.lt))
  all_goals(
   have hR6:=k6.at HR2.o (by omega);have HX:=aa (And.intro (q6.app (K7 w6 (w1.heap.size+1) 9 1) hgrow (KK _) (Nat.le_succ _) 1 (.slice (some ⟨g,0,none⟩) 1 cap)) (And.intro (aJ g7 1 (.slice (some ⟨g,0,none⟩) 1 cap)) (And.intro (qM (K7 w6 (w1.heap.size+1) 9 1) hgrow (show w.heap.size<w1.heap.size+1 by omega) hR6 (show w.heap.size≠w1.heap.size by omega) 1 (.slice (some ⟨g,0,none⟩) 1 cap)) (lq hown7 (Nat.lt_succ_self _) 1 (.slice (some ⟨g,0,none⟩) 1 cap)))));clear hgrow hown7 h6 k6 hN6 hR6 q6 g7;go_wp2_with fail;go_meet;exact⟨_,HX.o.1,HX.o.2.1,HX.o.2.2.1,HX.o.2.2.2⟩)
 case rest=>
  obtain⟨vI,q,hN,hR,LJ⟩:=hcut;have Q3:=aa q;have HN3:=aa hN;have HR3:=aa hR;have HO3:=aa LJ;clear q hN hR LJ Q2 HN2b HR2 cN c2 HN2;go_wp2_with fail;go_loopg [] (ln s3) (fun k wr=>∃(mem:List Ls) (vI:Value) (s':St) (f:Nat),ln s'<=k/\ln s'<=f/\PQ w1 wr p b S G s'/\wr.heap[w1.heap.size]?=some (.cells #[.string n,vI] 200 (0,0))/\wr.heap[w.heap.size]?=some (.cells #[.string ⟨#[]⟩,.slice none 0 0] 200 (0,0))/\wr.ownsRow (w1.heap.size+1) 9 1 vI mem.length (bt mem)/\mem.length+ln s'<=803/\(m0::(eS 801 s3).1,(eS 801 s3).2)=(mem++(eS f s').1,(eS f s').2))
  case atStart=>exact⟨[m0],_,s3,801,KK _,by omega,Q3.o,HN3.o,HR3.o,HO3.o,by simp;omega,rfl⟩
  case round=>
   obtain⟨mem,vI,s',f,hlk,hlf,q,hN,hR,LJ,Me,hm⟩:=hrel;obtain⟨aI,cI,rfl⟩:=bc LJ;have QR:=aa q;have HNr:=aa hN;have HRr:=aa hR;have HOr:=aa LJ;have HM:=aa hm;have c3:=q.pp.c0;have hp3:=q.pp.lt;have hTK:=aa (mM wr b G s' 16 q.ps);clear q hN hR LJ hm Q3 HN3 HR3 HO3;cases e16:af s' 16
   ·rw[e16]at hTK
    have HE:=aa (show FF=(mem,s')from by rw[HQ.o,HM.o,tL f s' e16];simp);clear e16 HM HQ;go_wp2_with fail;refine hTK.o.mono ?_;rintro _ w4 ⟨rfl,h4,k4⟩;have Q4:=aa (show PQ w1 w4 p b S G s' from QR.o.call h4 k4);have hN4:=k4.at HNr.o (by omega);have hR4:=k4.at HRr.o (by omega);have HR4:=aa hR4;have HO4:=aa (QR.o.own k4 HOr.o (Nat.le_succ _));have cN4:=ae hN4;have cR:=ae hR4;have fR:=ar hR4;have NW:=ag hN4;have hlR:=ag hR4;clear h4 k4 hN4 hR4;go_wp2_with fail;rw[HE.o];refine bodyPost_ret (v:=.agg #[.string n,.slice aI mem.length cI]) (by simp[results,results97,go_sem, *]) rfl ⟨.slice aI mem.length cI,rfl,?_,by show mem.length<=803;omega,?_⟩
    ·refine nh (B:=w1.heap.size+1) ?_ (by omega)
     repeat' with_reducible first|exact HO4.o|refine lq ?_ (show w.heap.size<w1.heap.size+1 by omega) _ _
    ·exact((D1.o.pq Q4.o).off HR4.o (by decide) (KK _) (((ai.refl _ _).setCell 0 _).setCell 1 _)).toDefPost
   ·rw[e16]at hTK
    have Oe:=eY s' 16 (by decide) e16;have hltn:=bH (tl s');obtain⟨f',rfl⟩:∃f',f=f'+1:=⟨f-1,by omega⟩;have HE:=aa (show(m0::(eS 801 s3).1,(eS 801 s3).2)=(mem++(nm (tl s')::(eS f' (ab (tl s'))).1),(eS f' (ab (tl s'))).2)from by rw[HM.o,eS,K9 e16]);have HN5:=aa (HNN.o · (tl s'));clear e16 HM HNN;generalize nm (tl s')=m at*;generalize ab (tl s')=s4 at*;go_wp2_with fail;refine hTK.o.mono ?_;rintro _ w4 ⟨rfl,h4,k4⟩;have Q4:=aa (show PQ w1 w4 p b S G (tl s')from QR.o.call h4 k4);have hN4:=k4.at HNr.o (by omega);have HN4:=aa hN4;have HR4:=aa (k4.at HRr.o (by omega));have HO4:=aa (QR.o.own k4 HOr.o (Nat.le_succ _));have cN4:=ae hN4;have NW:=ag hN4;have c4:=Q4.o.pp.c0;have hp4:=Q4.o.pp.lt;clear h4 k4 hN4 QR HNr HRr HOr hTK c3;go_wp2_with fail;go_region_law (first
     |(refine step_append_lies _ (by rfl) _ _ _ (by rfl) (w1.heap.size+1) 9 i0 _ 1 16 underlying50 hi hz0 hz1 hz2 rfl (by decide) _ _ _ (by rfl) (hO6.alloc _) ⟨w6.heap.size,0,none⟩ 1 1 [.string m] (by rfl) (by rfl) (cell_one_new _ _ _) (fun u hu=>by simp at hu;subst hu;rfl) (by decide) (by unfold maxLen;omega) (by omega) (by simp;omega) (w6.heap.size+1) (by simp) ?_;intro g cap w7 hown7 hgrow hat hg7;have g7:=oP hO6 hgrow (Nat.lt_succ_self _) hN6;have e7:=ae g7;have f7:=ar g7;have l7:=ag g7)
     |(go_simp;go_at_call 93;refine(HN5.o _ ?_).mono ?_;(first|exact Q4.o.dr.ps|exact Q4.o.ps);rintro _ w6 ⟨rfl,h6,k6⟩;have q6:PQ w1 w6 p b S G s4:=(by first|exact Q4.o.dr.call h6 k6|exact Q4.o.call h6 k6);have hN6:=k6.at HN4.o (by omega);have c6:=ae hN6;have hO6:=(by first|exact Q4.o.dr.own k6 HO4.o (Nat.le_succ _)|exact Q4.o.own k6 HO4.o (Nat.le_succ _));have l6:=ag hN6;have z6:=q6.pp.lt))
    all_goals(
     have hR6:=k6.at HR4.o (by omega);have HX:=aa (And.intro (q6.app hO6 hgrow (KK _) (Nat.le_succ _) 1 (.slice (some ⟨g,0,none⟩) (mem.length+1) cap)) (And.intro (aJ g7 1 (.slice (some ⟨g,0,none⟩) (mem.length+1) cap)) (And.intro (qM hO6 hgrow (show w.heap.size<w1.heap.size+1 by omega) hR6 (show w.heap.size≠w1.heap.size by omega) 1 (.slice (some ⟨g,0,none⟩) (mem.length+1) cap)) (lq hown7 (Nat.lt_succ_self _) 1 (.slice (some ⟨g,0,none⟩) (mem.length+1) cap)))));clear hgrow hown7 h6 k6 hO6 hN6 hR6 q6 g7;go_wp2_with fail;go_roundg (ln s4)
     case measure=>omega
     case rel=>exact⟨mem++[m],_,s4,f',KK _,by omega,HX.o.1,HX.o.2.1,HX.o.2.2.1,by rw[rS,Lb];exact HX.o.2.2.2,by simp;omega,by rw[HE.o];simp⟩)
end
attribute [local go_sem ↓] Go.wp_at_zero Go.wp_at_succ
def eT:Nat->St->List Ls×St
 |0,s=>([],s)
 |f+1,s=>if af s 1=true then(nm s::(eT f (ab s)).1,(eT f (ab s)).2)else([],s)
theorem t7(f:Nat)(s:St)(h:af s 1=false):eT f s=([],s):=by
 cases f with
 |zero=>rfl
 |succ f=>rw[eT,K8 (by rw[h];simp)]
def dH(s:St):List Ls×St:=
 if aq s m8=true then(nm (tl s)::(eT 801 (ab (tl s))).1,(eT 801 (ab (tl s))).2)else([],s)
def ed(s:St):St:=ak (ak s (aq s jm)) (af (ak s (aq s jm)) 7)
def ey(s:St):Option (List cw)×St:=
 if af s 11=true then(some (j4 802 (ed (tl s))).1,ak (j4 802 (ed (tl s))).2 (af (j4 802 (ed (tl s))).2 8))else(none,s)
def rO(s:St):aK:=if af s 11=true then(oq 802 (ed (tl s))).1 else .all
def jX(w:World)(B:Nat)(v:Value):Option (List cw)->aK->Prop
 |none,_=>v=.pointer none
 |some l,t=>dt w (fun k=>B<=k) v t/\fU t=l
section
variable {w w':World} {B C:Nat} {v:Value} {o:Option (List cw)} {t:aK}
theorem jX.stays(h:jX w B v o t)(h1:au 216 B w w')(h2:au 161 B w w'):jX w' B v o t:=by
 cases o with
 |none=>exact h
 |some l=>exact⟨dt.stays h1 h2 h.1,h.2⟩
theorem jX.ptr(h:jX w B v o t):∃q,v=.pointer q:=by
 cases o with
 |none=>exact⟨none,h⟩
 |some l=>obtain⟨k,hk⟩:=dt.ptr h.1;exact⟨_,hk⟩
theorem jX.mono(h:jX w B v o t)(hc:C<=B):jX w C v o t:=by
 cases o with
 |none=>exact h
 |some l=>exact⟨h.1.imp (fun k hk _=>KP hc hk),h.2⟩
end
structure aH where
 name:Ls
 fields:List ax
 LE:List Ls
 Lw:Option (List cw)
 tree:aK
def cn(s:St):aH×St:=
 (⟨nm s,(dC (ey (dH (ab s)).2).2).1,(dH (ab s)).1,(ey (dH (ab s)).2).1,rO (dH (ab s)).2⟩,(dC (ey (dH (ab s)).2).2).2)
theorem yX:∀(f:Nat) (s:St),ln (eT f s).2<=ln s
 |0,s=>KK _
 |f+1,s=>by
  rw[eT];split
  ·exact KP (yX f _) (bH s)
  ·exact KK _
section
variable {w:World} {p b S G:Nat} {s:St} {vR vO vI vU:Value} {names:List Ls}
theorem Ev(h:DC w p b S G s vR vO vI vU names):Calls prog 95 #[.pointer (some ⟨p,0,none⟩)] w fun e w'=>∃vF vA vL,e=.returned (.agg #[.string (cn s).1.name,vF,vA,vL])/\iv w' w.heap.size vF (cn s).1.fields/\(cn s).1.fields.length<=802/\w'.ownsRow w.heap.size 9 1 vA (cn s).1.LE.length (bt (cn s).1.LE)/\(cn s).1.LE.length<=803/\jX w' w.heap.size vL (cn s).1.Lw (cn s).1.tree/\DefPost w w' p b S G (cn s).2 vR vO vI vU (names++[(cn s).1.name]):=by
 obtain⟨i0,hi,hz0,hz1,hz2⟩:=info_parts info9';have HC:=aa (wL h);have hpl:=h.pp.lt;have HQ:=aa (cn.eq_1 s);have hl0:ln (ab s)<=801:=KP (bH s) h.ps.len;clear h;generalize cn s=FF at*;generalize nm s=n at*;generalize ab s=s1 at*;have HT:=aa (fun W (hs:PS W b G s1)=>ur W b G s1 m8 hs);have HIM:=aa (dH.eq_1 s1);generalize dH s1=im at*;obtain⟨LE,s2⟩:=im;simp only[]at HQ;have HT2:=aa (fun W (hs:PS W b G s2)=>mM W b G s2 11 hs);have HRW:=aa (ey.eq_1 s2);have HTR:=aa (rO.eq_1 s2);generalize rO s2=tree at*;generalize ey s2=rw2 at*;obtain⟨Lw,s3⟩:=rw2;simp only[]at HQ;have HF:=aa (fun W (hP:PP W p b S) (hs:PS W b G s3)=>yW W p b S G s3 hP hs);generalize dC s3=fl at*;obtain⟨LS,s4⟩:=fl;simp only[]at HQ HF;have HNN:=aa (fun W s' (hs:PS W b G s')=>mr W b G s' hs);go_enter func95,ntmps95;go_wp2_with fail;refine(HC.o _).mono ?_;rintro _ w1 ⟨rfl,d1,hR⟩;have hR1:=hR _ _ rfl (by decide) (by decide) (by decide);have D1:=aa d1;have HR1:=aa hR1;have hl1:=ag hR1;have Q1:=aa ((d1.pp.pq d1.ps).al (.cells #[.string n,.slice none 0 0,.slice none 0 0,.pointer none] 163));have c1:=d1.pp.c0;have hp1:=d1.pp.lt;have hb1:=d1.ps.lt;have hbS:=d1.hb;have hSw:=d1.hS;clear d1 hR hR1 HC;go_wp2_with fail;refine(HT.o _ Q1.o.ps).mono ?_;rintro _ w2 ⟨rfl,h2,k2⟩;have q2:=Q1.o.call h2 k2;have Q2:=aa q2;have hN2:=k2.at (KS w1 _) (by omega);have HN2:=aa hN2;have HR2:=aa (k2.at ((bp w1 _ _ hl1).trans HR1.o) (by omega));have cN:=ae hN2;have hlN:=ag hN2;have c2:=q2.pp.c0;have hp2:=q2.pp.lt;clear h2 k2 q2 hN2 HT
 go_upto_if 12 with fail
 go_cut [] (fun wc=>∃vA,PQ w1 wc p b S G s2/\wc.heap[w1.heap.size]?=some (.cells #[.string n,.slice none 0 0,vA,.pointer none] 163 (0,0))/\wc.heap[w.heap.size]?=some (.cells #[.string ⟨#[]⟩,.slice none 0 0,.slice none 0 0,.pointer none] 163 (0,0))/\wc.ownsRow (w1.heap.size+1) 9 1 vA LE.length (bt LE)/\LE.length<=803)
 case first=>
  clear HQ HRW HTR HF HT2;cases ew:aq s1 m8
  ·rw[ew]at Q2
   rw[ew]at HIM;obtain⟨e1,e2⟩:LE=[]/\s2=s1:=by have:=HIM.o;simpa using this
   subst e1 e2;go_wp2_with fail;go_meet;exact⟨_,Q2.o,HN2.o,HR2.o,K7 _ _ _ _,by simp⟩
  ·rw[ew]at Q2
   rw[ew]at HIM;rw[K9 rfl]at HIM;have Oe:=lJ s1 m8 ew;have Q2:=aa (show PQ w1 w2 p b S G (tl s1)from Q2.o);have HN3:=aa (HNN.o · (tl s1));have hl2:=bH (tl s1);generalize nm (tl s1)=m0 at*;generalize ab (tl s1)=s5 at*;clear ew;go_wp2_with fail;go_upto_region 3 with fail;go_cut [] (fun wc=>∃vA,PQ w1 wc p b S G s5/\wc.heap[w1.heap.size]?=some (.cells #[.string n,.slice none 0 0,vA,.pointer none] 163 (0,0))/\wc.heap[w.heap.size]?=some (.cells #[.string ⟨#[]⟩,.slice none 0 0,.slice none 0 0,.pointer none] 163 (0,0))/\wc.ownsRow (w1.heap.size+1) 9 1 vA 1 (bt [m0]))
   case first=>
    go_region_law (first
     |(refine step_append_lies _ (by rfl) _ _ _ (by rfl) (w1.heap.size+1) 9 i0 _ 1 16 underlying50 hi hz0 hz1 hz2 rfl (by decide) _ _ _ (by rfl) ((K7 w6 (w1.heap.size+1) 9 1).alloc _) ⟨w6.heap.size,0,none⟩ 1 1 [.string m0] (by rfl) (by rfl) (cell_one_new _ _ _) (fun u hu=>by simp at hu;subst hu;rfl) (by decide) (by unfold maxLen;omega) (by omega) (by simp;omega) (w6.heap.size+1) (by simp) ?_;intro g cap w7 hown7 hgrow hat hg7;have g7:=oP (K7 w6 (w1.heap.size+1) 9 1) hgrow (Nat.lt_succ_self _) hN6;have e7:=ae g7;have f7:=ar g7;have l7:=ag g7)
     |(go_simp;go_at_call 93;refine(HN3.o _ ?_).mono ?_;(first|exact Q2.o.dr.ps|exact Q2.o.ps);rintro _ w6 ⟨rfl,h6,k6⟩;have q6:PQ w1 w6 p b S G s5:=(by first|exact Q2.o.dr.call h6 k6|exact Q2.o.call h6 k6);have hN6:=k6.at HN2.o (by omega);have c6:=ae hN6;have l6:=ag hN6;have z6:=q6.pp.lt))
    all_goals(
     have hR6:=k6.at HR2.o (by omega);have HX:=aa (And.intro (q6.app (K7 w6 (w1.heap.size+1) 9 1) hgrow (KK _) (Nat.le_succ _) 2 (.slice (some ⟨g,0,none⟩) 1 cap)) (And.intro (aJ g7 2 (.slice (some ⟨g,0,none⟩) 1 cap)) (And.intro (qM (K7 w6 (w1.heap.size+1) 9 1) hgrow (show w.heap.size<w1.heap.size+1 by omega) hR6 (show w.heap.size≠w1.heap.size by omega) 2 (.slice (some ⟨g,0,none⟩) 1 cap)) (lq hown7 (Nat.lt_succ_self _) 2 (.slice (some ⟨g,0,none⟩) 1 cap)))));clear hgrow hown7 h6 k6 hN6 hR6 q6 g7;go_wp2_with fail;go_meet;exact⟨_,HX.o.1,HX.o.2.1,HX.o.2.2.1,HX.o.2.2.2⟩)
   case rest=>
    obtain⟨vA,q,hN,hR,LJ⟩:=hcut;have Q3:=aa q;have HNa:=aa hN;have HR3:=aa hR;have HO3:=aa LJ;clear q hN hR LJ Q2 HN2 HR2 cN c2 HN3;go_wp2_with fail;go_loopg [] (ln s5) (fun k wr=>∃(mem:List Ls) (vA:Value) (s':St) (f:Nat),ln s'<=k/\ln s'<=f/\PQ w1 wr p b S G s'/\wr.heap[w1.heap.size]?=some (.cells #[.string n,.slice none 0 0,vA,.pointer none] 163 (0,0))/\wr.heap[w.heap.size]?=some (.cells #[.string ⟨#[]⟩,.slice none 0 0,.slice none 0 0,.pointer none] 163 (0,0))/\wr.ownsRow (w1.heap.size+1) 9 1 vA mem.length (bt mem)/\mem.length+ln s'<=803/\(m0::(eT 801 s5).1,(eT 801 s5).2)=(mem++(eT f s').1,(eT f s').2))
    case atStart=>exact⟨[m0],_,s5,801,KK _,by omega,Q3.o,HNa.o,HR3.o,HO3.o,by simp;omega,rfl⟩
    case round=>
     obtain⟨mem,vA,s',f,hlk,hlf,q,hN,hR,LJ,Me,hm⟩:=hrel;obtain⟨aI,cI,rfl⟩:=bc LJ;have QR:=aa q;have HNr:=aa hN;have HRr:=aa hR;have HOr:=aa LJ;have HM:=aa hm;have c3:=q.pp.c0;have hp3:=q.pp.lt;have Nt:=ag hN;have hlR3:=ag hR;have hSE:=aa (qw wr b G s' 1 q.ps);clear q hN hR LJ hm Q3 HNa HR3 HO3;cases e1:af s' 1
     ·rw[e1]at hSE
      have HE:=aa (show LE=mem/\s2=s' from by
       have a:=HIM.o;have b:=HM.o;rw[t7 f s' e1,List.append_nil]at b;rw[b]at a;simpa using a)
      clear e1 HM HIM;go_wp2_with fail;refine hSE.o.mono ?_;rintro _ w4 ⟨rfl,b4⟩;go_wp2_with fail;go_meet;rw[HE.o.1,HE.o.2];exact⟨_,QR.o.be b4,(b4.block _ Nt).trans HNr.o,(b4.block _ hlR3).trans HRr.o,bZ HOr.o b4,by omega⟩
     ·rw[e1]at hSE
      have Ml:=pI s' e1;obtain⟨f',rfl⟩:∃f',f=f'+1:=⟨f-1,by omega⟩;have HE:=aa (show(m0::(eT 801 s5).1,(eT 801 s5).2)=(mem++(nm s'::(eT f' (ab s')).1),(eT f' (ab s')).2)from by rw[HM.o,eT,K9 e1]);have HN5:=aa (HNN.o · s');clear e1 HM HNN HIM;generalize nm s'=m at*;generalize ab s'=s6 at*;go_wp2_with fail;refine hSE.o.mono ?_;rintro _ w4 ⟨rfl,b4⟩;have Q4:=aa (QR.o.be b4);have hN4:=(b4.block _ Nt).trans HNr.o;have HN4:=aa hN4;have HR4:=aa ((b4.block _ hlR3).trans HRr.o);have HO4:=aa (bZ HOr.o b4);have cN4:=ae hN4;have NW:=ag hN4;have c4:=Q4.o.pp.c0;have hp4:=Q4.o.pp.lt;clear b4 hN4 QR HNr HRr HOr hSE c3;go_wp2_with fail;go_region_law (first
       |(refine step_append_lies _ (by rfl) _ _ _ (by rfl) (w1.heap.size+1) 9 i0 _ 1 16 underlying50 hi hz0 hz1 hz2 rfl (by decide) _ _ _ (by rfl) (hO6.alloc _) ⟨w6.heap.size,0,none⟩ 1 1 [.string m] (by rfl) (by rfl) (cell_one_new _ _ _) (fun u hu=>by simp at hu;subst hu;rfl) (by decide) (by unfold maxLen;omega) (by omega) (by simp;omega) (w6.heap.size+1) (by simp) ?_;intro g cap w7 hown7 hgrow hat hg7;have g7:=oP hO6 hgrow (Nat.lt_succ_self _) hN6;have e7:=ae g7;have f7:=ar g7;have l7:=ag g7)
       |(go_simp;go_at_call 93;refine(HN5.o _ ?_).mono ?_;(first|exact Q4.o.dr.ps|exact Q4.o.ps);rintro _ w6 ⟨rfl,h6,k6⟩;have q6:PQ w1 w6 p b S G s6:=(by first|exact Q4.o.dr.call h6 k6|exact Q4.o.call h6 k6);have hN6:=k6.at HN4.o (by omega);have c6:=ae hN6;have hO6:=(by first|exact Q4.o.dr.own k6 HO4.o (Nat.le_succ _)|exact Q4.o.own k6 HO4.o (Nat.le_succ _));have l6:=ag hN6;have z6:=q6.pp.lt))
      all_goals(
       have hR6:=k6.at HR4.o (by omega);have HX:=aa (And.intro (q6.app hO6 hgrow (KK _) (Nat.le_succ _) 2 (.slice (some ⟨g,0,none⟩) (mem.length+1) cap)) (And.intro (aJ g7 2 (.slice (some ⟨g,0,none⟩) (mem.length+1) cap)) (And.intro (qM hO6 hgrow (show w.heap.size<w1.heap.size+1 by omega) hR6 (show w.heap.size≠w1.heap.size by omega) 2 (.slice (some ⟨g,0,none⟩) (mem.length+1) cap)) (lq hown7 (Nat.lt_succ_self _) 2 (.slice (some ⟨g,0,none⟩) (mem.length+1) cap)))));clear hgrow hown7 h6 k6 hO6 hN6 hR6 q6 g7;go_wp2_with fail;go_roundg (ln s6)
       case measure=>omega
       case rel=>exact⟨mem++[m],_,s6,f',KK _,by omega,HX.o.1,HX.o.2.1,HX.o.2.2.1,by rw[rS,Lb];exact HX.o.2.2.2,by simp;omega,by rw[HE.o];simp⟩)
 case rest=>
  obtain⟨vA,q,hN,hR,LJ,hil⟩:=hcut;obtain⟨aA,cA,rfl⟩:=bc LJ;have Q3:=aa q;have HN3:=aa hN;have HR3:=aa hR;have HO3:=aa LJ;have c3:=q.pp.c0;have hp3:=q.pp.lt;clear q hN hR LJ Q2 HN2 HR2 cN c2 HNN HIM;go_wp2_with fail;refine(HT2.o _ Q3.o.ps).mono ?_;rintro _ w4 ⟨rfl,h4,k4⟩;have Q4:=aa (Q3.o.call h4 k4);have hN4:=k4.at HN3.o (by omega);have HN4:=aa hN4;have HR4:=aa (k4.at HR3.o (by omega));have HO4:=aa (Q3.o.own k4 HO3.o (Nat.le_succ _));have NW:=ag hN4;have c4:=Q4.o.pp.c0;have hp4:=Q4.o.pp.lt;clear h4 k4 hN4 Q3 HN3 HR3 HO3 c3 HT2
  go_upto_if 42 with fail
  go_cut [] (fun wc=>∃q,PQ w1 wc p b S G s3/\wc.heap[w1.heap.size]?=some (.cells #[.string n,.slice none 0 0,.slice aA LE.length cA,.pointer q] 163 (0,0))/\wc.heap[w.heap.size]?=some (.cells #[.string ⟨#[]⟩,.slice none 0 0,.slice none 0 0,.pointer none] 163 (0,0))/\wc.ownsRow (w1.heap.size+1) 9 1 (.slice aA LE.length cA) LE.length (bt LE)/\jX wc (w1.heap.size+1) (.pointer q) Lw tree)
  case first=>
   clear HQ HF;cases e11:af s2 11
   ·rw[e11]at HRW Q4
    obtain⟨e1,e2⟩:Lw=none/\s3=s2:=by have:=HRW.o;simpa using this
    subst e1 e2;go_wp2_with fail;go_meet;exact⟨none,Q4.o,HN4.o,HR4.o,HO4.o,rfl⟩
   ·rw[e11]at HRW HTR Q4
    rw[K9 rfl]at HRW HTR;have Q4:=aa (show PQ w1 w4 p b S G (tl s2)from Q4.o);have hsm:=yd 802 (ed (tl s2));rw[<-hsm.1,<-hsm.2,ed]at HRW;rw[ed]at HTR;clear e11 hsm;generalize tl s2=t1 at*;have HW:=aa (fun W (hs:PS W b G t1)=>C9 W b G t1 jm hs);have HN7:=aa (fun W (hs:PS W b G (ak t1 (aq t1 jm)))=>iG W b G _ 7 hs);generalize ak t1 (aq t1 jm)=t2 at*;generalize (ce t2 7).k=nk at*;generalize (ce t2 7).n=nn at*;generalize (ce t2 7).s=ny at*;generalize ak t2 (af t2 7)=t3 at*;have HRU:=aa (fun W (hP:PP W p b S) (hs:PS W b G t3)=>Gh W p b S G t3 hP hs);generalize oq 802 t3=ru at*;obtain⟨tr,t4⟩:=ru;simp only[]at HRW HTR HRU;have HN8:=aa (fun W (hs:PS W b G t4)=>iG W b G t4 8 hs);generalize (ce t4 8).k=mk at*;generalize (ce t4 8).n=mn at*;generalize (ce t4 8).s=my at*;obtain⟨e1,e2⟩:Lw=some (fU tr)/\s3=ak t4 (af t4 8):=by have:=HRW.o;simpa using this
    subst e1 e2;go_wp2_with fail;refine(HW.o _ Q4.o.ps).mono ?_;rintro _ w5 ⟨rfl,h5,k5⟩;have Q5:=aa (Q4.o.call h5 k5);have HN5:=aa (k5.at HN4.o (by omega));have HR5:=aa (k5.at HR4.o (by omega));have HO5:=aa (Q4.o.own k5 HO4.o (Nat.le_succ _));have c5:=Q5.o.pp.c0;have hp5:=Q5.o.pp.lt;clear h5 k5 HN4 HR4 HO4;go_wp2_with fail;refine(HN7.o _ Q5.o.ps).mono ?_;rintro _ w6 ⟨rfl,h6,k6⟩;have Q6:=aa (Q5.o.call h6 k6);have HN6:=aa (k6.at HN5.o (by omega));have HR6:=aa (k6.at HR5.o (by omega));have HO6:=aa (Q5.o.own k6 HO5.o (Nat.le_succ _));have hlN6:=ag HN6.o;clear h6 k6 HN5 HR5 HO5;go_wp2_with fail;refine(HRU.o _ Q6.o.pp Q6.o.ps).mono ?_;rintro _ w7 ⟨u,rfl,hu,q7⟩;obtain⟨ku,rfl⟩:=hu.ptr;have Q7:=aa (Q6.o.tr q7);have hN7:=q7.kp.at HN6.o (by omega);have HN7b:=aa hN7;have HR7:=aa (q7.kp.at HR6.o (by omega));have HO7:=aa (Q6.o.own q7.kp HO6.o (Nat.le_succ _));have HU7:=aa (hu.imp (R:=fun k=>w1.heap.size+1<=k) (fun k hk _=>KP hlN6 hk));have cN:=ae hN7;have fN:=ar hN7;have hlN7:=ag hN7;have c7:=q7.pp.c0;have hp7:=q7.pp.lt;have hpN:p<w1.heap.size:=hp1;clear hu q7 hN7 HN6 HR6 HO6;go_wp2_with fail;refine(HN8.o _ (Q7.o.st ⟨w1.heap.size,3,none⟩ (KK _) (.pointer (some ⟨ku,0,none⟩))).ps).mono ?_;rintro _ w8 ⟨rfl,h8,k8⟩;go_wp2_with fail;go_meet;have q8:=(Q7.o.st ⟨w1.heap.size,3,none⟩ (KK _) (.pointer (some ⟨ku,0,none⟩)));have hs8:∀T,au T (w1.heap.size+1) w7 (w7.setCell ⟨w1.heap.size,3,none⟩ (.pointer (some ⟨ku,0,none⟩))):=fun T=>au.set (Nat.lt_succ_self _) 3 _;refine⟨some ⟨ku,0,none⟩,q8.call h8 k8,k8.at (aJ HN7b.o 3 _) (by omega),k8.at ((KX _ _ _ _ (show w.heap.size≠w1.heap.size by omega)).trans HR7.o) (by omega),q8.own k8 (lq HO7.o (Nat.lt_succ_self _) 3 _) (Nat.le_succ _),?_,by rw[HTR.o]⟩;rw[HTR.o];exact((HU7.o.stays (hs8 _) (hs8 _)).keep q8.ps k8 (fun k hk _=>hk))
  case rest=>
   obtain⟨qr,q,hN,hR,LJ,hru⟩:=hcut;have Q5:=aa q;have HN5:=aa hN;have HR5:=aa hR;have HO5:=aa LJ;have HRU:=aa hru;have hlN5:=ag hN;have hlR5:=ag hR;clear q hN hR LJ hru Q4 HN4 HR4 HO4 HRW HTR c4;go_wp2_with fail;refine(HF.o _ Q5.o.pp Q5.o.ps).mono ?_;rintro _ w6 ⟨v,rfl,hv,hvl,q6⟩;obtain⟨aF,cF,rfl⟩:=hv.slice;have Q6:=aa (Q5.o.tr q6);have hN6:=q6.kp.at HN5.o (by omega);have hR6:=q6.kp.at HR5.o (by omega);have HR6:=aa hR6;have HO6:=aa (Q5.o.own q6.kp HO5.o (Nat.le_succ _));have HRU6:=aa (HRU.o.stays (Q5.o.stay q6.kp) (Q5.o.stay q6.kp));have HV6:=aa hv;have cN:=ae hN6;have fN:=ar hN6;have cR:=ae hR6;have fR:=ar hR6;have hlN:=ag hN6;have hlR:=ag hR6;clear hv q6 hN6 hR6 HN5 HR5 HO5 HRU;go_wp2_with fail;rw[HQ.o];refine bodyPost_ret (v:=.agg #[.string n,.slice aF LS.length cF,.slice aA LE.length cA,.pointer qr]) (by simp[results,results95,go_sem, *]) rfl ⟨_,_,_,rfl,?_,hvl,?_,hil,?_,?_⟩
   ·refine(HV6.o.stays ?_ ?_).mono (show w.heap.size<=wc.heap.size by omega)
    all_goals repeat' with_reducible first|exact au.refl _ _ _|refine au.set3 ?_ (show _<wc.heap.size by omega) _ _
   ·refine nh (B:=w1.heap.size+1) ?_ (by omega)
    repeat' with_reducible first|exact HO6.o|refine lq ?_ (show _<w1.heap.size+1 by omega) _ _
   ·refine(HRU6.o.stays ?_ ?_).mono (show w.heap.size<=w1.heap.size+1 by omega)
    all_goals repeat' with_reducible first|exact au.refl _ _ _|refine au.set3 ?_ (show _<w1.heap.size+1 by omega) _ _
   ·exact((D1.o.pq (Q6.o.st ⟨w1.heap.size,1,none⟩ (KK _) (.slice aF LS.length cF))).off ((KX _ _ _ _ (show w.heap.size≠w1.heap.size by omega)).trans HR6.o) (by decide) (KK _) (((((ai.refl _ _).setCell 0 _).setCell 1 _).setCell 2 _).setCell 3 _)).toDefPost
end
end Go.Proofs.YtgbloieahmkcjaaGreat
