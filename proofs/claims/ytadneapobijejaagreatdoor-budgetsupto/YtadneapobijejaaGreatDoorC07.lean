import Derived.Test.YtadneapobijejaaGreatDoorC06
import Derived.Deep.RegionLaw
import Derived.Deep.AppendLies
import Derived.Deep.DrawnRows
namespace Go.Proofs.YtadneapobijejaaGreatDoor
set_option maxHeartbeats 20000000
set_option maxRecDepth 100000
open Go.RowKit Tryz
attribute [local go_sem ↓] Go.wp_at_zero Go.wp_at_succ
theorem rJ(x:vD)(w:World):Calls prog 141 #[.string x] w fun e w'=>e=.returned (.bool (Ra x))/\w'=w:=by
 have HQ:=Aa (gH x);cases t1:(x.toList==[114,111,108,101])
 ·cases t2:(x.toList==[116,121,112,101])
  ·cases t3:(x.toList==[105,110,116,101,114,102,97,99,101])
   ·cases t4:(x.toList==[117,110,105,111,110])
    ·go_enter func141,ntmps141
     go_wp2
     go_ret;exact⟨Ak (by rw[HQ.o,t1,t2,t3,t4];rfl),rfl⟩
    ·go_enter func141,ntmps141
     go_wp2
     go_ret;exact⟨Ak (by rw[HQ.o,t1,t2,t3,t4];rfl),rfl⟩
   ·go_enter func141,ntmps141
    go_wp2
    go_ret;exact⟨Ak (by rw[HQ.o,t1,t2,t3];rfl),rfl⟩
  ·go_enter func141,ntmps141
   go_wp2
   go_ret;exact⟨Ak (by rw[HQ.o,t1,t2];rfl),rfl⟩
 ·go_enter func141,ntmps141
  go_wp2
  go_ret;exact⟨Ak (by rw[HQ.o,t1];rfl),rfl⟩
def DG:Nat->St->List vD×St
 |0,s=>([],s)
 |f+1,s=>if Np s=true then(nm s::(DG f (nmT s)).1,(DG f (nmT s)).2)else([],s)
theorem Ww(f:Nat)(s:St)(h:Np s=false):DG f s=([],s):=by
 cases f with
 |zero=>rfl
 |succ f=>rw[DG,uB (by rw[h];simp)]
def LE(r:List vD×St):St:=if r.1.length=0 then none else r.2
def Es(s:St):At×St:=
 if Ad (nmT s) 9=true then(⟨nm s,(DG 801 (tl (nmT s))).1⟩,LE (DG 801 (tl (nmT s))))else(⟨nm s,[]⟩,nmT s)
theorem info9':(prog.info? 9).map (fun i=>(i.zero,i.size,i.bytes))=some (some (.string ⟨#[]⟩),1,16):=by kernel_rfl
theorem LW{w:World}{B size n k:Nat}{e:TypeId}{v:Value}{xs:List Value}(h:w.ownsRow B e size v n xs)(hk:k<B):Option.some k≠v.ownBlock:=fun x=>by
 rcases h.2 with⟨y,_⟩|⟨g,cap,cur,hv,hg,_⟩
 ·rw[y]at x;cases x
 ·rw[hv]at x;have:=tY (show some k=some g from x);omega
section
variable {w X Y:World} {p b S G N B0 size n:Nat} {s:St} {e:TypeId} {v:Value} {xs:List Value} {o o':Obj}
theorem PQ.app(q:PQ w X p b S G s)(ho:X.ownsRow B0 e size v n xs)(hg:(X.alloc o).grownBy Y v.ownBlock)(hN:w.heap.size<=N)(hB:w.heap.size<=B0)(i:Nat)(u:Value):PQ w (Y.setCell ⟨N,i,none⟩ u) p b S G s:=
 ((q.al _).gr hg (fun k hk=>tQ hB (ho.lt k hk).1)).st _ hN _
theorem Kw{k:Nat}(ho:X.ownsRow B0 e size v n xs)(hg:(X.alloc o).grownBy Y v.ownBlock)(hk:k<B0)(h:X.heap[k]?=some o'):Y.heap[k]?=some o':=
 (hg.block k (by have:=Ab h;simp;omega) (LW ho hk)).trans ((AK _ _ _ (Ab h)).trans h)
theorem Lr{k:Nat}(ho:X.ownsRow B0 e size v n xs)(hg:(X.alloc o).grownBy Y v.ownBlock)(hk:k<B0)(h:X.heap[k]?=some o')(hne:k≠N)(i:Nat)(u:Value):(Y.setCell ⟨N,i,none⟩ u).heap[k]?=some o':=
 (tX _ _ _ _ hne).trans (Kw ho hg hk h)
theorem Is(h:X.ownsRow B0 e size v n xs)(hN:N<B0)(i:Nat)(u:Value):(X.setCell ⟨N,i,none⟩ u).ownsRow B0 e size v n xs:=by
 refine⟨h.1,?_⟩;rcases h.2 with h|⟨g,cap,cur,h1,h2,h3,h4⟩
 ·exact Or.inl h
 ·exact Or.inr ⟨g,cap,cur,h1,h2,(tX _ _ _ _ (show g≠N by omega)).trans h3,h4⟩
theorem PQ.own(q:PQ w X p b S G s)(k:Ag b X Y)(ho:X.ownsRow B0 e size v n xs)(hB:w.heap.size<=B0):Y.ownsRow B0 e size v n xs:=by
 refine⟨ho.1,?_⟩;rcases ho.2 with h|⟨g,cap,cur,h1,h2,h3,h4⟩
 ·exact Or.inl h
 ·exact Or.inr ⟨g,cap,cur,h1,h2,(k.block g (Ab h3) (by have:=q.hb;omega)).trans h3,h4⟩
end
theorem pQ(w:World)(p b S G:Nat)(s:St)(hP:PP w p b S)(h:PS w b G s):
 Calls prog 98 #[.pointer (some ⟨p,0,none⟩)] w fun e w'=>∃u,e=.returned (.agg #[.string (Es s).1.name,u])/\w'.ownsRow w.heap.size 9 1 u (Es s).1.inc.length (Bi (Es s).1.inc)/\(Es s).1.inc.length<=802/\PQ w w' p b S G (Es s).2:=by
 obtain⟨i0,hi,hz0,hz1,hz2⟩:=info_parts info9';have Q0:=Aa (hP.pq h);have hlt:=h.lt;have hpl:=hP.lt;have c:=hP.c0;have HQ:=Aa (Es.eq_1 s);have HC:=Aa (fun W (hW:PQ w W p b S G s)=>Nu W p b S G s hW.pp hW.ps);have HT:=Aa (fun W (hW:PQ w W p b S G (nmT s))=>Ev W b G (nmT s) 9 hW.ps);have hl0:ln (tl (nmT s))<=801:=tQ (BG _) (tQ (AZ s) h.len);clear h hP;generalize Es s=FF at*;generalize nm s=n at*;generalize nmT s=s1 at*;go_enter func98,ntmps98;go_wp2_with fail;refine(HC.o _ (Q0.o.al _)).mono ?_;rintro _ w1 ⟨rfl,h1,k1⟩;have Q1:=Aa ((Q0.o.al _).call h1 k1);have HZ:=Aa (k1.at (tS w _) (by omega));have hl1:=Ab HZ.o;have c1:=Q1.o.pp.c0;have hp1:=Q1.o.pp.lt;have hb1:=h1.lt;clear h1 k1 HC;go_wp2_with fail;refine(HT.o _ (Q1.o.al _)).mono ?_;rintro _ w2 ⟨rfl,h2,k2⟩;have q2:=(Q1.o.al _).call h2 k2;have Q2:=Aa q2;have hN2:=k2.at (tS w1 (.cells #[.string n,.slice none 0 0] 166)) (by omega);have hR2:=k2.at ((AK w1 _ _ hl1).trans HZ.o) (by omega);have HN2:=Aa hN2;have HR2:=Aa hR2;have hlN:=Ab hN2;have c2:=q2.pp.c0;have hp2:=q2.pp.lt;clear h2 k2 q2 HT HZ Q1 c1;cases e9:Ad s1 9
 ·rw[e9]at HQ Q2
  rw[uB (by decide)]at HQ;have Q2:=Aa (show PQ w w2 p b S G s1 from Q2.o);have cN:=Ac hN2;have cR:=Ac hR2;have fR:=Am hR2;have hlR:=Ab hR2;clear hN2 hR2;go_wp2_with fail;rw[HQ.o];refine bodyPost_ret (v:=.agg #[.string n,.slice none 0 0]) (by simp[results,results98,go_sem, *]) rfl ⟨.slice none 0 0,rfl,uA _ _ _ _,by simp,?_⟩;repeat' with_reducible first|exact Q2.o|refine PQ.st ?_ _ (tL _) _
 ·rw[e9]at HQ Q2
  rw[uC rfl]at HQ;have Q2:=Aa (show PQ w w2 p b S G (tl s1)from Q2.o);generalize tl s1=s0 at*;have hw1:w.heap.size<=w1.heap.size:=Nat.le_of_lt hl1;clear hN2 hR2 e9
  go_upto_block 0 with fail
  go_cut [] (fun wc=>∃(inc:List vD) (vI:Value) (s':St),PQ w wc p b S G s'/\wc.heap[w1.heap.size]?=some (.cells #[.string n,vI] 166 (0,0))/\wc.heap[w.heap.size]?=some (.cells #[.string ⟨#[]⟩,.slice none 0 0] 166 (0,0))/\wc.ownsRow (w1.heap.size+1) 9 1 vI inc.length (Bi inc)/\inc.length<=802/\DG 801 s0=(inc,s'))
  case first=>
   go_wp2_with fail;go_loopg [] (ln s0) (fun k wr=>∃(inc:List vD) (vI:Value) (s':St) (f:Nat),ln s'<=k/\ln s'<=f/\PQ w wr p b S G s'/\wr.heap[w1.heap.size]?=some (.cells #[.string n,vI] 166 (0,0))/\wr.heap[w.heap.size]?=some (.cells #[.string ⟨#[]⟩,.slice none 0 0] 166 (0,0))/\wr.ownsRow (w1.heap.size+1) 9 1 vI inc.length (Bi inc)/\inc.length+ln s'<=802/\DG 801 s0=(inc++(DG f s').1,(DG f s').2))
   case atStart=>exact⟨[],_,s0,801,tL _,hl0,Q2.o,HN2.o,HR2.o,uA _ _ _ _,by simp;omega,by simp⟩
   case round=>
    obtain⟨inc,vI,s',f,hlk,hlf,q,hN,hR,hown,hlen,hm⟩:=hrel;obtain⟨aI,cI,rfl⟩:=An hown;have QR:=Aa q;have HN:=Aa hN;have HR:=Aa hR;have HO:=Aa hown;have HM:=Aa hm;have c3:=q.pp.c0;have hp3:=q.pp.lt;have hSE:=Aa (GS wr b G s' 1 q.ps);have xB:=Ab hN;have hlR3:=Ab hR;clear q hN hR hown hm Q2 HN2 HR2 c2;have HOK:=Aa (show Np s'=(Ad s' 1&&!Ra (hd s').s)from rfl);cases e1:Ad s' 1
    ·rw[e1]at hSE HOK
     have HE:=Aa (show DG 801 s0=(inc,s')from by rw[HM.o,Ww f s' HOK.o];simp);clear e1 HM HOK;go_wp2_with fail;refine hSE.o.mono ?_;rintro _ w4 ⟨rfl,b4⟩;go_wp2_with fail;go_meet;exact⟨inc,_,s',QR.o.be b4,(b4.block _ xB).trans HN.o,(b4.block _ hlR3).trans HR.o,AT HO.o b4,by omega,HE.o⟩
    ·rw[e1]at hSE HOK
     have HPK:=Aa (fun W (hW:PQ w W p b S G s')=>Pb W b G s' hW.ps);have hST:=rJ (hd s').s;have hlt1:=KQ s' e1;have HNN:=Aa (fun W (hW:PQ w W p b S G s')=>DX W b G s' hW.ps);have HMM:=Aa (show∀f',f=f'+1->Np s'=true->DG 801 s0=(inc++(nm s'::(DG f' (nmT s')).1),(DG f' (nmT s')).2)from fun f' e h=>by subst e;rw[HM.o,DG,uC h]);have HST2:=Aa (show Np s'=false->DG 801 s0=(inc,s')from fun h=>by rw[HM.o,Ww f s' h];simp);clear e1 HM;generalize (hd s').k=hk at*;generalize (hd s').s=hy at*;generalize (hd s').n=hn at*;generalize nm s'=m at*;have rf:=Pm hk hn hy;generalize nmT s'=s2 at*;cases ek:Ra hy
     rotate_left
     ·rw[ek]at hST HOK
      go_wp2_with fail;refine hSE.o.mono ?_;rintro _ w4 ⟨rfl,b4⟩;have Q4:=Aa (QR.o.be b4);have c4:=Q4.o.pp.c0;have hp4:=Q4.o.pp.lt;go_wp2_with fail;refine(HPK.o _ Q4.o).mono ?_;rintro _ w5 ⟨rfl,b5⟩;go_wp2_with fail;refine(hST _).mono ?_;rintro _ w' ⟨rfl,hw'⟩;have hw':=hw'.symm;subst hw';go_wp2_with fail;go_meet;have hb:=b4.trans (b5.mono b4.size);exact⟨inc,_,s',QR.o.be hb,(hb.block _ xB).trans HN.o,(hb.block _ hlR3).trans HR.o,AT HO.o hb,by omega,HST2.o HOK.o⟩
     ·rw[ek]at hST HOK
      obtain⟨f',rfl⟩:∃f',f=f'+1:=⟨f-1,by omega⟩;have HE:=Aa (HMM.o f' rfl HOK.o);go_wp2_with fail;refine hSE.o.mono ?_;rintro _ w4 ⟨rfl,b4⟩;have Q4:=Aa (QR.o.be b4);have c4:=Q4.o.pp.c0;have hp4:=Q4.o.pp.lt;go_wp2_with fail;refine(HPK.o _ Q4.o).mono ?_;rintro _ w5 ⟨rfl,b5⟩;have B5:=Aa (b4.trans (b5.mono b4.size));clear b4 b5 Q4 c4;go_wp2_with fail;refine(hST _).mono ?_;rintro _ w' ⟨rfl,hw'⟩;have hw':=hw'.symm;subst hw';have Q5:=Aa (QR.o.be B5.o);have hN5:=(B5.o.block _ xB).trans HN.o;have HN5:=Aa hN5;have HR5:=Aa ((B5.o.block _ hlR3).trans HR.o);have HO5:=Aa (AT HO.o B5.o);have c5:=Q5.o.pp.c0;have hp5:=Q5.o.pp.lt;have cN:=Ac hN5;have hlN5:=Ab hN5;have hb5:=Q5.o.ps.lt;have hbw:=Q5.o.hb;have hpw:=Q5.o.hp;have hil:inc.length<=802:=by omega
      clear hN5 hST HPK hSE HMM HST2 QR HN HR HO;go_wp2_with fail;go_region_law (first
       |(refine step_append_lies _ (by rfl) _ _ _ (by rfl) (w1.heap.size+1) 9 i0 _ 1 16 underlying107 hi hz0 hz1 hz2 rfl (by decide) _ _ _ (by rfl) (hO6.alloc _) ⟨w6.heap.size,0,none⟩ 1 1 [.string m] (by rfl) (by rfl) (cell_one_new _ _ _) (fun u hu=>by simp at hu;subst hu;rfl) (by decide) (by unfold maxLen;omega) (by omega) (by simp;omega) (w6.heap.size+1) (by simp) ?_;intro g cap w7 vJ hgrow hat hg7;have g7:=Kw hO6 hgrow (Nat.lt_succ_self _) hN6;have e7:=Ac g7;have f7:=Am g7;have l7:=Ab g7)
       |(go_simp;go_at_call 97;refine(HNN.o _ ?_).mono ?_;(first|exact Q5.o.dr|exact Q5.o);rintro _ w6 ⟨rfl,h6,k6⟩;have q6:PQ w w6 p b S G s2:=(by first|exact Q5.o.dr.call h6 k6|exact Q5.o.call h6 k6);have hN6:=k6.at HN5.o (by omega);have c6:=Ac hN6;have hO6:=(by first|exact Q5.o.dr.own k6 HO5.o (by omega)|exact Q5.o.own k6 HO5.o (by omega));have l6:=Ab hN6;have z6:=q6.pp.lt))
      all_goals(
       have hR6:=k6.at HR5.o (by omega);have HX:=Aa (uV (q6.app hO6 hgrow hw1 (Nat.le_succ_of_le hw1) 1 (.slice (some ⟨g,0,none⟩) (inc.length+1) cap)) (uV (AI g7 1 (.slice (some ⟨g,0,none⟩) (inc.length+1) cap)) (uV (Lr hO6 hgrow (show w.heap.size<w1.heap.size+1 by omega) hR6 (show w.heap.size≠w1.heap.size by omega) 1 (.slice (some ⟨g,0,none⟩) (inc.length+1) cap)) (Is vJ (Nat.lt_succ_self _) 1 (.slice (some ⟨g,0,none⟩) (inc.length+1) cap)))));clear hgrow vJ h6 k6 hO6 hN6 hR6 q6 g7;go_wp2_with fail;go_roundg (ln s2)
       case measure=>omega
       case rel=>exact⟨inc++[m],_,s2,f',tL _,by omega,HX.o.1,HX.o.2.1,HX.o.2.2.1,by rw[NA,uE];exact HX.o.2.2.2,by simp;omega,by rw[HE.o];simp⟩)
  case rest=>
   obtain⟨inc,vI,s',q,hN,hR,hown,hil,hm⟩:=hcut;obtain⟨aI,cI,rfl⟩:=An hown;have Q3:=Aa q;have HN:=Aa hN;have HR:=Aa hR;have HO:=Aa hown;have cN:=Ac hN;have xB:=Ab hN;have c3:=q.pp.c0;have hp3:=q.pp.lt;have HE:=Aa (show FF=(⟨n,inc⟩,LE (inc,s'))from by rw[HQ.o,hm]);clear q hm HQ Q2 HN2 HR2 c2;by_cases e0:inc.length=0
   ·have e0':((inc.length:Int)==0)=true:=by rw[beq_iff_eq];omega
    have HF:=Aa (FO wc b G s' Q3.o.ps);rw[show LE (inc,s')=none from uC e0]at HE;clear hN hR hown;go_wp2_with fail;refine HF.o.mono ?_;rintro _ w4 ⟨rfl,h4,k4⟩;have Q4:=Aa (Q3.o.call h4 k4);have hN4:=k4.at HN.o (by omega);have hR4:=k4.at HR.o (by omega);have HO4:=Aa (Q3.o.own k4 HO.o (by omega));have cN4:=Ac hN4;have cR:=Ac hR4;have fR:=Am hR4;have yA:=Ab hN4;have hlR:=Ab hR4;clear h4 k4 hN4 hR4 cN;go_wp2_with fail;rw[HE.o];refine bodyPost_ret (v:=.agg #[.string n,.slice aI inc.length cI]) (by simp[results,results98,go_sem, *]) rfl ⟨.slice aI inc.length cI,rfl,?_,hil,?_⟩
    ·refine Fw (B:=w1.heap.size+1) ?_ (by omega)
     repeat' with_reducible first|exact HO4.o|refine Is ?_ (show w.heap.size<w1.heap.size+1 by omega) _ _
    ·repeat' with_reducible first|exact Q4.o|refine PQ.st ?_ _ (tL _) _
   ·have e0':((inc.length:Int)==0)=false:=by rw[beq_eq_false_iff_ne];omega
    rw[show LE (inc,s')=s' from uB e0]at HE;have cR:=Ac hR;have fR:=Am hR;have hlR:=Ab hR;clear hN hR hown;go_wp2_with fail;rw[HE.o];refine bodyPost_ret (v:=.agg #[.string n,.slice aI inc.length cI]) (by simp[results,results98,go_sem, *]) rfl ⟨.slice aI inc.length cI,rfl,?_,hil,?_⟩
    ·refine Fw (B:=w1.heap.size+1) ?_ (by omega)
     repeat' with_reducible first|exact HO.o|refine Is ?_ (show w.heap.size<w1.heap.size+1 by omega) _ _
    ·repeat' with_reducible first|exact Q3.o|refine PQ.st ?_ _ (tL _) _
attribute [local go_sem ↓] Go.wp_at_zero Go.wp_at_succ
inductive Bl where
 |all
 |is (n:vD)
 |eq (n:vD) (v:Option (Nat×Int×vD))
 |not (r:Bl)
 |chain (or:Bool) (l:List Bl)
def Cy(v:Nat×Int×vD):Nat×Int×vD:=if v.1=3 then(if v.2.1=1 then(3,0,⟨#[]⟩)else(4,0,⟨#[]⟩))else if v.1=4 then(6,v.2.1,v.2.2)else if v.1=5 then(7,v.2.1,v.2.2)else if v.1=6 then(8,v.2.1,v.2.2)else v
def Fo:Option (Nat×Int×vD)->Nat×Int×vD
 |none=>(5,0,⟨#[]⟩)
 |some y=>Cy y
inductive BC(w:World)(Q:Nat->Prop):Value->Bl->Prop
 |all (k:Nat) (n z:vD) (x y:Int):Q k->w.heap[k]?=some (.cells #[.string n,.int .i64 3,.slice none 0 0,.int .i64 x,.int .i64 y,.string z] 285 (0,0))->BC w Q (.pointer (some ⟨k,0,none⟩)) .all
 |is (k:Nat) (n z:vD) (x y:Int):Q k->w.heap[k]?=some (.cells #[.string n,.int .i64 4,.slice none 0 0,.int .i64 x,.int .i64 y,.string z] 285 (0,0))->BC w Q (.pointer (some ⟨k,0,none⟩)) (.is n)
 |eq (k:Nat) (n:vD) (o:Option (Nat×Int×vD)):Q k->w.heap[k]?=some (.cells #[.string n,.int .i64 5,.slice none 0 0,.int .i64 (Fo o).1,.int .i64 (Fo o).2.1,.string (Fo o).2.2] 285 (0,0))->BC w Q (.pointer (some ⟨k,0,none⟩)) (.eq n o)
 |not (k:Nat) (n z:vD) (x y:Int) (v u:Value) (t:Bl):Q k->w.heap[k]?=some (.cells #[.string n,.int .i64 2,v,.int .i64 x,.int .i64 y,.string z] 285 (0,0))->w.ownsRow 0 201 1 v 1 [u]->(∀g,v.ownBlock=some g->Q g)->BC w Q u t->BC w Q (.pointer (some ⟨k,0,none⟩)) (.not t)
 |chain (k:Nat) (o:Bool) (n z:vD) (x y:Int) (v:Value) (vs:List Value) (ts:List Bl):Q k->w.heap[k]?=some (.cells #[.string n,.int .i64 (if o=true then 0 else 1:Nat),v,.int .i64 x,.int .i64 y,.string z] 285 (0,0))->w.ownsRow 0 201 1 v vs.length vs->(∀g,v.ownBlock=some g->Q g)->vs.length<=802->vs.length=ts.length->(∀(j:Nat) (u:Value) (t:Bl),vs[j]?=some u->ts[j]?=some t->BC w Q u t)->BC w Q (.pointer (some ⟨k,0,none⟩)) (.chain o ts)
section
variable {w w':World} {Q R:Nat->Prop} {v:Value} {t:Bl} {B:Nat}
theorem BC.ptr(h:BC w Q v t):∃k,v=.pointer (some ⟨k,0,none⟩):=by cases h<;>exact⟨_,rfl⟩
theorem BC.move(hm:∀(k:Nat) (cs:Array Value) (T:TypeId) (fr:Nat×Nat),Q k->(T=285\/T=201)->w.heap[k]?=some (.cells cs T fr)->w'.heap[k]?=some (.cells cs T fr)/\R k)(h:BC w Q v t):BC w' R v t:=by
 have row:∀{v:Value} {n:Nat} {us:List Value},w.ownsRow 0 201 1 v n us->(∀g,v.ownBlock=some g->Q g)->w'.ownsRow 0 201 1 v n us/\∀g,v.ownBlock=some g->R g:=fun{v n us} h4 h5=>by
  rcases h4.2 with q|⟨g,cap,cur,hv,hg,hh,r⟩
  ·exact⟨⟨h4.1,Or.inl q⟩,fun g hg=>by rw[q.1]at hg;cases hg⟩
  ·have:=hm g _ _ _ (h5 g (by rw[hv];rfl)) (Or.inr rfl) hh
   exact⟨⟨h4.1,Or.inr ⟨g,cap,cur,hv,hg,this.1,r⟩⟩,fun g' hg'=>by rw[hv]at hg';have e:=tY (show some g=some g' from hg');rw[<-e];exact this.2⟩
 induction h with
 |all k n z x y h1 h2=>have:=hm k _ _ _ h1 (Or.inl rfl) h2;exact .all k n z x y this.2 this.1
 |is k n z x y h1 h2=>have:=hm k _ _ _ h1 (Or.inl rfl) h2;exact .is k n z x y this.2 this.1
 |eq k n o h1 h2=>have:=hm k _ _ _ h1 (Or.inl rfl) h2;exact .eq k n o this.2 this.1
 |not k n z x y v u t h1 h2 h3 h4 _ ih=>have:=hm k _ _ _ h1 (Or.inl rfl) h2;exact .not k n z x y v u t this.2 this.1 (row h3 h4).1 (row h3 h4).2 ih
 |chain k o n z x y v vs ts h1 h2 h3 h4 h5 h6 _ ih=>have:=hm k _ _ _ h1 (Or.inl rfl) h2;exact .chain k o n z x y v vs ts this.2 this.1 (row h3 h4).1 (row h3 h4).2 h5 h6 ih
theorem BC.imp(hq:∀k,Q k->k<w.heap.size->R k)(h:BC w Q v t):BC w R v t:=h.move (fun k _ _ _ hk _ hb=>⟨hb,hq k hk (Ab hb)⟩)
theorem BC.stays(h1:Ao 285 B w w')(h2:Ao 201 B w w')(h:BC w (fun k=>B<=k) v t):BC w' (fun k=>B<=k) v t:=
 h.move (fun k cs T fr hk hT hb=>⟨by
  rcases hT with e|e
  ·subst e;exact h1 k cs fr hk hb
  ·subst e;exact h2 k cs fr hk hb,hk⟩)
theorem BC.keep{b G:Nat}{s:St}(hs:PS w b G s)(hk:Ag b w w')(hq:∀k,Q k->k<w.heap.size->R k)(h:BC w Q v t):BC w' R v t:=
 h.move (fun k cs T fr hQ hT hb=>by
  obtain⟨c,hc⟩:=hs.ty;refine⟨hk.at hb (fun e=>?_),hq k hQ (Ab hb)⟩;subst e;rw[hc]at hb;cases hb;rcases hT with e|e<;>cases e)
end
def FX(word:vD)(part:St->Bl×St):Nat->List Bl->St->List Bl×St
 |0,acc,s=>(acc,s)
 |f+1,acc,s=>if Bn s word=true then FX word part f (acc++[(part (tl s)).1]) (part (tl s)).2 else(acc,s)
def CQ(o:Bool)(word:vD)(part:St->Bl×St)(s:St):Bl×St:=(.chain o (FX word part 801 [(part s).1] (part s).2).1,(FX word part 801 [(part s).1] (part s).2).2)
theorem rZ(word:vD)(part:St->Bl×St)(f:Nat)(acc:List Bl)(s:St)(h:Bn s word=false):FX word part f acc s=(acc,s):=by
 cases f with
 |zero=>rfl
 |succ f=>rw[FX,uB (by rw[h];simp)]
theorem LM(s:St)(x:vD)(h:Bn s x=true):ln (tl s)<ln s:=by
 refine EG s 1 (by decide) ?_;unfold Bn at h;unfold Ad;exact(uL _ _▸h).1
theorem Vq(word:vD)(part:St->Bl×St)(hp:∀s,ln (part s).2<=ln s):∀(f:Nat) (acc:List Bl) (s:St),ln (FX word part f acc s).2<=ln s
 |0,_,_=>tL _
 |f+1,acc,s=>by
  rw[FX];split
  ·exact tQ (Vq word part hp f _ _) (tQ (hp _) (BG s))
  ·exact tL _
theorem OH(o:Bool)(word:vD)(part:St->Bl×St)(hp:∀s,ln (part s).2<=ln s)(s:St):ln (CQ o word part s).2<=ln s:=
 tQ (Vq word part hp _ _ _) (hp s)
theorem info201:(prog.info? 201).map (fun i=>(i.zero,i.size,i.bytes))=some (some (.pointer none),1,8):=by kernel_rfl
def Lm(PF:Nat)(p b S G n:Nat)(part:St->Bl×St):Prop:=∀(W:World) (s:St),ln s<=n->PP W p b S->PS W b G s->Calls prog PF #[.pointer (some ⟨p,0,none⟩)] W fun e w'=>∃u,e=.returned u/\BC w' (fun k=>W.heap.size<=k) u (part s).1/\PQ W w' p b S G (part s).2
def Gg:vD:=⟨#[97,110,100]⟩
def Gh:vD:=⟨#[111,114]⟩
theorem Tw(PF c:Nat)(word:vD)(o:Bool)(hPF:PF=220\/PF=191)(hc:c=if o=true then 0 else 1)(w:World)(p b S G n:Nat)(part:St->Bl×St)(s:St)(wF:Lm PF p b S G n part)(xN:∀s,ln (part s).2<=ln s)(hl:ln s<=n)(hn:n<=801)(hP:PP w p b S)(h:PS w b G s):
 Calls prog 190 #[.pointer (some ⟨p,0,none⟩),.int .i64 c,.string word,.func (Fn.func PF) #[.pointer (some ⟨p,0,none⟩)] #[]] w fun e w'=>∃u,e=.returned u/\BC w' (fun k=>w.heap.size<=k) u (CQ o word part s).1/\PQ w w' p b S G (CQ o word part s).2:=by
 obtain⟨i0,hi,hz0,hz1,hz2⟩:=info_parts info201;have HC1:=Aa hc;clear hc;have Q0:=Aa (hP.pq h);have hlt:=h.lt;have hgl:=h.glt;have hpl:=hP.lt;have cp:=hP.c0;have HPT:=Aa (fun W s' (hW:PQ w W p b S G s') (hs:ln s'<=ln s)=>wF W s' (tQ hs hl) hW.pp hW.ps);have HT:=Aa (fun W s' (hW:PQ w W p b S G s')=>Lf W b G s' word hW.ps);have HP1:=Aa (HPT.o · s · (tL _));have HQ:=Aa (CQ.eq_1 o word part s);have HL:=Aa xN;have hl1:=xN s;have hlw:ln s<=801:=tQ hl hn;clear h hP wF xN;generalize CQ o word part s=FF at*;generalize part s=f0 at*;obtain⟨t0,s1⟩:=f0;simp only[]at HP1 HQ hl1;rcases hPF with rfl|rfl;all_goals(
  go_enter func190,ntmps190;go_wp2_with fail;refine(HP1.o _ Q0.o).mono ?_;rintro _ w1 ⟨u,rfl,hu,q1⟩;obtain⟨ku,rfl⟩:=hu.ptr;have Q1:=Aa q1;have HU:=Aa hu;have hs1:=q1.kp.size;clear hu q1 HP1;go_wp2_with fail;go_loopg [] (ln s1) (fun k wr=>∃(vs:List Value) (ts:List Bl) (vL:Value) (s':St) (f:Nat),ln s'<=k/\ln s'<=f/\ln s'<=ln s/\PQ w wr p b S G s'/\wr.heap[w1.heap.size+1]?=some (.cells #[.string ⟨#[]⟩,.int .i64 c,vL,.int .i64 0,.int .i64 0,.string ⟨#[]⟩] 285 (0,0))/\wr.ownsRow w.heap.size 201 1 vL vs.length vs/\vL.ownBlock≠some (w1.heap.size+1)/\vs.length=ts.length/\vs.length+ln s'<=802/\(∀(j:Nat) (u:Value) (t:Bl),vs[j]?=some u->ts[j]?=some t->BC wr (fun k=>w.heap.size<=k/\k<wr.heap.size/\k≠w1.heap.size+1/\vL.ownBlock≠some k) u t)/\FX word part 801 [t0] s1=FX word part f ts s')
  case atStart=>
   have hN:∀A O,((w1.alloc A).alloc O).heap[w1.heap.size+1]?=some O:=fun A O=>by have:=tS (w1.alloc A) O;simpa using this
   have hB:∀A O,vE w1 ((w1.alloc A).alloc O):=fun A O=>((tM _ _).alloc (tL _) _).alloc (by simp) _;refine⟨[.pointer (some ⟨ku,0,none⟩)],[t0],_,s1,801,tL _,by omega,hl1,(Q1.o.al _).al _,hN _ _,?_,?_,rfl,by simp;omega,?_,rfl⟩
   ·exact⟨rfl,Or.inr ⟨w1.heap.size,1,_,rfl,hs1,(AK _ _ _ (by simp)).trans (tS w1 _),tL _,by decide,rfl,rfl⟩⟩
   ·intro e;have:=tY (show some w1.heap.size=some (w1.heap.size+1)from e);omega
   ·intro j u t hj ht
    have hj0:j=0:=by have:=(tP.1 hj).1;simp at this;omega
    subst hj0;cases hj;cases ht;refine HU.o.move (fun k cs T fr hk _ hb=>⟨((hB _ _).block k (Ab hb)).trans hb,hk,by have:=Ab hb;simp;omega,by have:=Ab hb;omega,fun e=>?_⟩);have:=tY (show some w1.heap.size=some k from e);have:=Ab hb;omega
  case round=>
   obtain⟨vs,ts,vL,s',f,hlk,hlf,hls,q,hN,hown,hne,hvt,hlen,hsub,hm⟩:=hrel;obtain⟨aI,cI,rfl⟩:=An hown;have QR:=Aa q;have HN:=Aa hN;have HO:=Aa hown;have HS:=Aa hsub;have HM:=Aa hm;have HVT:=Aa hvt;have c3:=q.pp.c0;have hp3:=q.pp.lt;have hTK:=Aa (HT.o wr s' q);have hlN:=Ab hN;clear q hN hown hsub hm hvt Q1 HU;cases ew:Bn s' word
   ·rw[ew]at hTK
    have HE:=Aa (show FF=(.chain o ts,s')from by rw[HQ.o,HM.o,rZ _ _ _ _ _ ew]);clear ew HM HQ HPT HT;go_wp2_with fail;refine hTK.o.mono ?_;rintro _ w4 ⟨rfl,h4,k4⟩;have HQ4:=Aa (show PQ w w4 p b S G s' from QR.o.call h4 k4);have HR4:=Aa (show BC w4 (fun k=>w.heap.size<=k) (.pointer (some ⟨w1.heap.size+1,0,none⟩)) (.chain o ts)from
     .chain _ o ⟨#[]⟩ ⟨#[]⟩ 0 0 (.slice aI vs.length cI) vs ts (by omega) (by rw[<-HC1.o];exact k4.at HN.o (by have:=QR.o.hb;omega)) (Fw (QR.o.own k4 HO.o (tL _)) (tU _)) (fun g hg=>(HO.o.lt g hg).1) (by omega) HVT.o (fun j u t hu ht=>(HS.o j u t hu ht).keep QR.o.ps k4 (fun k hk _=>hk.1)))
    clear h4 k4;go_wp2_with fail;go_ret;rw[HE.o];exact⟨_,rfl,HR4.o,HQ4.o⟩
   ·rw[ew]at hTK
    have hlt1:=LM s' word ew;have hlp:=HL.o (tl s');obtain⟨f',rfl⟩:∃f',f=f'+1:=⟨f-1,by omega⟩;have HE:=Aa (show FX word part 801 [t0] s1=FX word part f' (ts++[(part (tl s')).1]) (part (tl s')).2 from by rw[HM.o,FX,uC ew]);have HP2:=Aa (fun W (hW:PQ w W p b S G (tl s'))=>HPT.o W (tl s') hW (by omega));clear ew HM HPT;generalize part (tl s')=f1 at*;obtain⟨t2,s2⟩:=f1;simp only[]at HE HP2 hlp;go_wp2_with fail;refine hTK.o.mono ?_;rintro _ w4 ⟨rfl,h4,k4⟩;have q4:=show PQ w w4 p b S G (tl s')from QR.o.call h4 k4;have Q4:=Aa q4;have hbw:=q4.hb;have hpw:=q4.hp;have hN4:=k4.at HN.o (by omega);have HN4:=Aa hN4;have HO4:=Aa (QR.o.own k4 HO.o (tL _));have HS4:=Aa (fun j u t hu ht=>(HS.o j u t hu ht).keep (R:=fun k=>w.heap.size<=k/\k<w4.heap.size/\k≠w1.heap.size+1/\(Value.slice aI vs.length cI).ownBlock≠some k) QR.o.ps k4 (fun k hk _=>⟨hk.1,tV hk.2.1 k4.size,hk.2.2⟩));have cN:=Ac hN4;have yA:=Ab hN4;have c4:=q4.pp.c0;have hp4:=q4.pp.lt;clear h4 k4 q4 hN4 HN HO HS QR hTK c3;go_wp2_with fail;go_region_law (first
     |(refine step_append_lies _ (by rfl) _ _ _ (by rfl) w.heap.size 201 i0 _ 1 8 underlying283 hi hz0 hz1 hz2 rfl (by decide) _ _ _ (by rfl) (hO6.alloc _) ⟨w6.heap.size,0,none⟩ 1 1 [.pointer (some ⟨kv,0,none⟩)] (by rfl) (by rfl) (cell_one_new _ _ _) (fun u hu=>by simp at hu;subst hu;rfl) (by decide) (by unfold maxLen;omega) (by omega) (by simp;omega) (w6.heap.size+1) (by simp) ?_;intro g cap w7 vJ hgrow hat hg7;have g7:=(hgrow.block (w1.heap.size+1) (by simp;omega) (fun e=>hne e.symm)).trans ((AK w6 _ _ l6).trans hN6);have e7:=Ac g7;have f7:=Am g7;have l7:=Ab g7)
     |(go_simp;refine(HP2.o _ ?_).mono ?_;(first|exact Q4.o.dr|exact Q4.o);rintro _ w6 ⟨u6,rfl,hu6,q6⟩;obtain⟨kv,hkv⟩:=hu6.ptr;subst hkv;have hN6:=q6.kp.at HN4.o (by omega);have c6:=Ac hN6;have hO6:=(by first|exact Q4.o.own q6.kp HO4.o (tL _)|exact Q4.o.dr.own q6.kp HO4.o (tL _));have l6:=Ab hN6;have z6:=q6.pp.lt))
    all_goals(
     have k6:Ag b w4 w6:=(by first|exact q6.kp|exact(Ag.refl _ _).drew.trans q6.kp);have qq:PQ w w6 p b S G s2:=(by first|exact Q4.o.tr q6|exact Q4.o.dr.tr q6);have hgN:g≠w1.heap.size+1:=fun e=>by
      rcases hat with x|x
      ·exact hne (by rw[x,e])
      ·omega
     have HX:=Aa (uV (qq.app hO6 hgrow (show w.heap.size<=w1.heap.size+1 by omega) (tL _) 2 (.slice (some ⟨g,0,none⟩) (vs.length+1) cap)) (uV (AI g7 2 (.slice (some ⟨g,0,none⟩) (vs.length+1) cap)) (Di vJ (N:=w1.heap.size+1) (fun e=>hgN (tY e)) 2 (.slice (some ⟨g,0,none⟩) (vs.length+1) cap))));have hz7:=hgrow.size;simp at hz7;have key:∀u t,BC w6 (fun k=>w.heap.size<=k/\k<w6.heap.size/\k≠w1.heap.size+1/\(Value.slice aI vs.length cI).ownBlock≠some k) u t->BC (w7.setCell ⟨w1.heap.size+1,2,none⟩ (.slice (some ⟨g,0,none⟩) (vs.length+1) cap)) (fun k=>w.heap.size<=k/\k<(w7.setCell ⟨w1.heap.size+1,2,none⟩ (.slice (some ⟨g,0,none⟩) (vs.length+1) cap)).heap.size/\k≠w1.heap.size+1/\(Value.slice (some ⟨g,0,none⟩) (vs.length+1) cap).ownBlock≠some k) u t:=fun u t hu=>hu.move (fun k cs T fr hk _ hb=>⟨(tX _ _ _ _ hk.2.2.1).trans ((hgrow.block k (by simp;omega) (fun e=>hk.2.2.2 e.symm)).trans ((AK _ _ _ hk.2.1).trans hb)),hk.1,by simp[World.setCell];omega,hk.2.2.1,fun e=>by
      have e':g=k:=tY e;rcases hat with x|x
      ·exact hk.2.2.2 (by rw[x,e'])
      ·omega⟩)
     have HSX:=Aa (show∀(j:Nat) (u:Value) (t:Bl),(vs++[Value.pointer (some ⟨kv,0,none⟩)])[j]?=some u->(ts++[t2])[j]?=some t->BC (w7.setCell ⟨w1.heap.size+1,2,none⟩ (.slice (some ⟨g,0,none⟩) (vs.length+1) cap)) (fun k=>w.heap.size<=k/\k<(w7.setCell ⟨w1.heap.size+1,2,none⟩ (.slice (some ⟨g,0,none⟩) (vs.length+1) cap)).heap.size/\k≠w1.heap.size+1/\(Value.slice (some ⟨g,0,none⟩) (vs.length+1) cap).ownBlock≠some k) u t from fun j u t hu ht=>by
      rcases Nat.lt_or_ge j vs.length with hj|hj
      ·rw[uI hj]at hu
       rw[uI (by rw[<-HVT.o];exact hj)]at ht;exact key u t ((HS4.o j u t hu ht).keep Q4.o.ps k6 (fun k hk _=>⟨hk.1,tV hk.2.1 k6.size,hk.2.2⟩))
      ·have hj2:j=vs.length:=by have:=(tP.1 hu).1;simp at this;omega
       subst hj2;have e1:u=.pointer (some ⟨kv,0,none⟩):=by simpa using hu.symm
       have e2:t=t2:=by rw[HVT.o]at ht;simpa using ht.symm
       subst e1 e2;exact key _ _ (hu6.imp (fun k hk hk2=>by
        have hk':w4.heap.size<=k:=hk;exact⟨by omega,hk2,by omega,fun e=>by have:=(HO4.o.lt k e).2;omega⟩)))
     have HV2:=Aa (show(vs++[Value.pointer (some ⟨kv,0,none⟩)]).length=(ts++[t2]).length from by simp[HVT.o]);clear hgrow vJ hO6 hN6 qq q6 g7 hu6 key hat;go_wp2_with fail;go_roundg (ln s2)
     case measure=>omega
     case rel=>exact⟨_,_,_,s2,f',tL _,by omega,by omega,HX.o.1,HX.o.2.1,by rw[uE];exact HX.o.2.2,fun e=>hgN (tY e),HV2.o,by simp;omega,HSX.o,HE.o⟩))
theorem Tx(p b S G n:Nat)(part:St->Bl×St)(wF:Lm 220 p b S G n part)(xN:∀s,ln (part s).2<=ln s)(hn:n<=801):Lm 191 p b S G n (CQ false Gg part):=by
 intro w s hl hP h;have hc:=Aa (Tw 220 1 Gg false (Or.inl rfl) rfl w p b S G n part s wF xN hl hn hP h);generalize CQ false Gg part s=FF at*;unfold Gg at hc;go_enter func191,ntmps191;go_wp2_with fail;refine hc.o.mono ?_;rintro _ w1 ⟨u,rfl,t1,q1⟩;go_wp2_with fail;go_ret;exact⟨_,rfl,t1,q1⟩
theorem Xt(p b S G n:Nat)(part:St->Bl×St)(wF:Lm 191 p b S G n part)(xN:∀s,ln (part s).2<=ln s)(hn:n<=801):Lm 143 p b S G n (CQ true Gh part):=by
 intro w s hl hP h;have hc:=Aa (Tw 191 0 Gh true (Or.inr rfl) rfl w p b S G n part s wF xN hl hn hP h);generalize CQ true Gh part s=FF at*;unfold Gh at hc;go_enter func143,ntmps143;go_wp2_with fail;refine hc.o.mono ?_;rintro _ w1 ⟨u,rfl,t1,q1⟩;go_wp2_with fail;go_ret;exact⟨_,rfl,t1,q1⟩
def WE(s:St):Nat×Int×vD:=if (hd s).k=2 then(1,(hd s).n,⟨#[]⟩)else if (hd s).k=3 then(2,0,(hd s).s)else if (hd s).k=1/\(hd s).s=Ih then(3,1,⟨#[]⟩)else if (hd s).k=1/\(hd s).s=If then(3,0,⟨#[]⟩)else(0,0,⟨#[]⟩)
def NJ(s:St):Option (Nat×Int×vD):=if Bn s MI=true then none else some (WE s)
theorem bF(s:St):Fo (NJ s)=Ml s:=by
 unfold NJ Ml;split
 ·rfl
 ·unfold Fo WE valK Kk
  by_cases h2:(hd s).k=2
  ·simp[h2,Cy]
  by_cases h3:(hd s).k=3
  ·simp[h3,Cy]
  by_cases h1:(hd s).k=1
  ·by_cases e1:(hd s).s=Ih
   ·simp[h1,e1,Cy]
   ·by_cases e2:(hd s).s=If
    ·rw[e2]at e1;simp[h1,e1,e2,Cy]
    ·simp[h1,e1,e2,Cy]
  ·simp[h1,h2,h3,Cy]
def DQ:Nat->St->Bl×St
 |0=>fun s=>(.all,s)
 |f+1=>fun s=>
  if Ad s 7=true then((CQ true Gh (CQ false Gg (DQ f)) (tl s)).1,mustT (CQ true Gh (CQ false Gg (DQ f)) (tl s)).2 (Ad (CQ true Gh (CQ false Gg (DQ f)) (tl s)).2 8))
  else if nm s=MD then(.not (DQ f (nmT s)).1,(DQ f (nmT s)).2)
  else if nm s=MA then(.all,nmT s)
  else if nm s=Ls then(.is (nm (nmT s)),nmT (nmT s))
  else(.eq (nm s) (NJ (mustT (nmT s) (Ad (nmT s) 10))),IS (mustT (nmT s) (Ad (nmT s) 10)))
theorem Sj(f:Nat)(s:St):DQ (f+1) s=(if Ad s 7=true then((CQ true Gh (CQ false Gg (DQ f)) (tl s)).1,mustT (CQ true Gh (CQ false Gg (DQ f)) (tl s)).2 (Ad (CQ true Gh (CQ false Gg (DQ f)) (tl s)).2 8))
 else if nm s=MD then(.not (DQ f (nmT s)).1,(DQ f (nmT s)).2)
 else if nm s=MA then(.all,nmT s)
 else if nm s=Ls then(.is (nm (nmT s)),nmT (nmT s))
 else(.eq (nm s) (NJ (mustT (nmT s) (Ad (nmT s) 10))),IS (mustT (nmT s) (Ad (nmT s) 10)))):=rfl
def NF(f:Nat):St->Bl×St:=CQ true Gh (CQ false Gg (DQ f))
theorem Vk(s:St):ln (IS s)<=ln s:=by
 unfold IS;split
 ·exact BG s
 ·unfold pVal
  split
  ·exact BG s
  ·split
   ·exact BG s
   ·split
    ·unfold Jd
     split
     ·exact BG s
     ·split
      ·exact BG s
      ·split
       ·exact BG s
       ·simp[ln]
    ·simp[ln]
theorem LT:∀(f:Nat) (s:St),ln (DQ f s).2<=ln s
 |0,s=>tL _
 |f+1,s=>by
  rw[Sj];split
  ·exact tQ (Do _ _) (tQ (OH _ _ _ (OH _ _ _ (LT f)) _) (BG s))
  ·split
   ·exact tQ (LT f _) (AZ s)
   ·split
    ·exact AZ s
    ·split
     ·exact tQ (AZ _) (AZ s)
     ·exact tQ (Vk _) (tQ (Do _ _) (AZ s))
theorem kZ(s:St)(x:vD)(h:nm s=x)(hx:0<x.size):Ad s 1=true:=by
 unfold nm at h;split at h
 ·assumption
 ·subst h;exact absurd hx (by decide)
theorem sK(p b S G:Nat):∀(f:Nat),f<=801->Lm 220 p b S G f (DQ (f+1)):=by
 intro f
 induction f using Nat.strongRecOn with
 |_ f ih=>
 intro hf8 w s hl hP h;have Q0:=Aa (hP.pq h);have hlt:=h.lt;have hpl:=hP.lt;have cp:=hP.c0;have HT:=Aa (fun W (hW:PQ w W p b S G s)=>Ev W b G s 7 hW.ps);have HQ:=Aa (Sj f s);clear h hP;cases hx:Ad s 7
 rotate_left
 ·rw[hx]at HT HQ
  rw[uC rfl]at HQ;have hlt1:=EG s 7 (by decide) hx;obtain⟨f',rfl⟩:∃f',f=f'+1:=⟨f-1,by omega⟩;have HR:=Aa (fun W (hW:PQ w W p b S G (tl s))=>Xt p b S G f' _ (Tx p b S G f' _ (ih f' (by omega) (by omega)) (LT _) (by omega)) (OH _ _ _ (LT _)) (by omega) W (tl s) (by omega) hW.pp hW.ps);generalize CQ true Gh (CQ false Gg (DQ (f'+1))) (tl s)=rr at*;obtain⟨t,s2⟩:=rr;simp only[]at HQ HR;generalize DQ (f'+1+1) s=FF at*;have HN:=Aa (fun W (hW:PQ w W p b S G s2)=>Cc W b G s2 8 hW.ps);generalize (Ay s2 8).k=nk at*;generalize (Ay s2 8).n=nn at*;generalize (Ay s2 8).s=ny at*;clear hx ih;go_enter func220,ntmps220;go_wp2_with fail;refine(HT.o _ Q0.o).mono ?_;rintro _ w1 ⟨rfl,h1,k1⟩;have Q1:=Aa (show PQ w w1 p b S G (tl s)from Q0.o.call h1 k1);clear h1 k1;go_wp2_with fail;refine(HR.o _ Q1.o).mono ?_;rintro _ w2 ⟨u,rfl,hu,q2⟩;have Q2:=Aa (Q1.o.tr q2);have HU:=Aa (hu.imp (R:=fun k=>w.heap.size<=k) (fun k hk _=>tQ Q1.o.kp.size hk));obtain⟨ku,rfl⟩:=hu.ptr;have c2:=q2.pp.c0;have hp2:=q2.pp.lt;clear hu q2;go_wp2_with fail;refine(HN.o _ Q2.o).mono ?_;rintro _ w3 ⟨rfl,h3,k3⟩;go_wp2_with fail;go_ret;rw[HQ.o];exact⟨_,rfl,HU.o.keep Q2.o.ps k3 (fun k hk _=>hk),Q2.o.call h3 k3⟩
 rw[hx]at HT HQ;rw[uB (by decide)]at HQ;have L1:=BN (nm s) [110,111,116];have L2:=BN (nm s) [97,108,108];have L3:=BN (nm s) [105,115];have HNN:=Aa (fun W (hW:PQ w W p b S G s)=>DX W b G s hW.ps);by_cases e1:nm s=MD
 ·rw[uC e1]at HQ
  have hk1:=kZ s _ e1 (by decide);have hlt1:=KQ s hk1;obtain⟨f',rfl⟩:∃f',f=f'+1:=⟨f-1,by omega⟩;have HI:=Aa (fun W (hW:PQ w W p b S G (nmT s))=>ih f' (by omega) (by omega) W (nmT s) (by omega) hW.pp hW.ps);rw[uH (show nm s=Az [110,111,116]from e1)]at L1;generalize DQ (f'+1+1) s=FF at*;generalize DQ (f'+1) (nmT s)=rr at*;obtain⟨t,s2⟩:=rr;simp only[]at HQ HI;generalize nm s=n at*;clear hx ih e1 hk1 L2 L3;go_enter func220,ntmps220;go_wp2_with fail;refine(HT.o _ Q0.o).mono ?_;rintro _ w1 ⟨rfl,h1,k1⟩;have Q1:=Aa (show PQ w w1 p b S G s from Q0.o.call h1 k1);have c1:=Q1.o.pp.c0;have hp1:=Q1.o.pp.lt;clear h1 k1;go_wp2_with fail;refine(HNN.o _ Q1.o).mono ?_;rintro _ w2 ⟨rfl,h2,k2⟩;have Q2:=Aa (Q1.o.call h2 k2);clear h2 k2;go_wp2_with fail;refine(HI.o _ Q2.o).mono ?_;rintro _ w3 ⟨u,rfl,hu,q3⟩;have Q3:=Aa (Q2.o.tr q3);have HU:=Aa (hu.imp (R:=fun k=>w.heap.size<=k) (fun k hk _=>tQ Q2.o.kp.size hk));obtain⟨ku,rfl⟩:=hu.ptr;have hs3:=Q3.o.kp.size;clear hu q3;go_wp2_with fail;go_ret;rw[HQ.o];refine⟨_,rfl,.not (w3.heap.size+1) ⟨#[]⟩ ⟨#[]⟩ 0 0 (.slice (some ⟨w3.heap.size,0,none⟩) 1 1) (.pointer (some ⟨ku,0,none⟩)) t (Nat.le_succ_of_le hs3) ?_ ⟨rfl,Or.inr ⟨w3.heap.size,1,_,rfl,tU _,(AK _ _ _ (by simp)).trans (tS w3 _),tL _,by decide,rfl,rfl⟩⟩ (fun g hg=>by have:=tY (show some w3.heap.size=some g from hg);omega) (HU.o.move (fun k cs T fr hk _ hb=>⟨(AK _ _ _ (by have:=Ab hb;simp;omega)).trans ((AK _ _ _ (Ab hb)).trans hb),hk⟩)),(Q3.o.al _).al _⟩;have:=tS (w3.alloc (.cells #[.pointer (some ⟨ku,0,none⟩)] 201)) (.cells #[.string ⟨#[]⟩,.int .i64 2,.slice (some ⟨w3.heap.size,0,none⟩) 1 1,.int .i64 0,.int .i64 0,.string ⟨#[]⟩] 285);simpa using this
 rw[uB e1]at HQ;rw[tT (show¬nm s=Az [110,111,116]from e1)]at L1;clear ih;by_cases e2:nm s=MA
 ·rw[uC e2]at HQ
  rw[uH (show nm s=Az [97,108,108]from e2)]at L2;generalize DQ (f+1) s=FF at*;generalize nm s=n at*;clear hx e1 e2 L3;go_enter func220,ntmps220;go_wp2_with fail;refine(HT.o _ Q0.o).mono ?_;rintro _ w1 ⟨rfl,h1,k1⟩;have Q1:=Aa (show PQ w w1 p b S G s from Q0.o.call h1 k1);have c1:=Q1.o.pp.c0;have hp1:=Q1.o.pp.lt;clear h1 k1;go_wp2_with fail;refine(HNN.o _ Q1.o).mono ?_;rintro _ w2 ⟨rfl,h2,k2⟩;have Q2:=Aa (Q1.o.call h2 k2);clear h2 k2;go_wp2_with fail;go_ret;rw[HQ.o];exact⟨_,rfl,.all w2.heap.size ⟨#[]⟩ ⟨#[]⟩ 0 0 Q2.o.kp.size (tS w2 _),Q2.o.al _⟩
 rw[uB e2]at HQ;rw[tT (show¬nm s=Az [97,108,108]from e2)]at L2;by_cases e3:nm s=Ls
 ·rw[uC e3]at HQ
  rw[uH (show nm s=Az [105,115]from e3)]at L3;have HN2:=Aa (fun W (hW:PQ w W p b S G (nmT s))=>Nu W p b S G (nmT s) hW.pp hW.ps);generalize DQ (f+1) s=FF at*;generalize nm (nmT s)=n2 at*;generalize nm s=n at*;clear hx e1 e2 e3;go_enter func220,ntmps220;go_wp2_with fail;refine(HT.o _ Q0.o).mono ?_;rintro _ w1 ⟨rfl,h1,k1⟩;have Q1:=Aa (show PQ w w1 p b S G s from Q0.o.call h1 k1);have c1:=Q1.o.pp.c0;have hp1:=Q1.o.pp.lt;clear h1 k1;go_wp2_with fail;refine(HNN.o _ Q1.o).mono ?_;rintro _ w2 ⟨rfl,h2,k2⟩;have Q2:=Aa (Q1.o.call h2 k2);clear h2 k2;go_wp2_with fail;refine(HN2.o _ Q2.o).mono ?_;rintro _ w3 ⟨rfl,h3,k3⟩;have Q3:=Aa (Q2.o.call h3 k3);clear h3 k3;go_wp2_with fail;go_ret;rw[HQ.o];exact⟨_,rfl,.is w3.heap.size n2 ⟨#[]⟩ 0 0 Q3.o.kp.size (tS w3 _),Q3.o.al _⟩
 rw[uB e3]at HQ;rw[tT (show¬nm s=Az [105,115]from e3)]at L3;have HN:=Aa (fun W (hW:PQ w W p b S G (nmT s))=>Cc W b G (nmT s) 10 hW.ps);have HV:=Aa (fun W (hW:PQ w W p b S G (mustT (nmT s) (Ad (nmT s) 10)))=>pX W p b S G _ hW.pp hW.ps);have HEV:=Aa (bF (mustT (nmT s) (Ad (nmT s) 10)));generalize DQ (f+1) s=FF at*;generalize (Ay (nmT s) 10).k=nk at*;generalize (Ay (nmT s) 10).n=nn at*;generalize (Ay (nmT s) 10).s=ny at*;generalize NJ (mustT (nmT s) (Ad (nmT s) 10))=vt at*;rw[<-HEV.o]at HV;clear HEV;generalize mustT (nmT s) (Ad (nmT s) 10)=s3 at*;have HY:=Aa (show∀k W,W.heap[k]?=some (.cells #[.string (nm s),.int .i64 5,.slice none 0 0,.int .i64 (Fo vt).1,.int .i64 (Fo vt).2.1,.string (Fo vt).2.2] 285 (0,0))->w.heap.size<=k->BC W (fun k=>w.heap.size<=k) (.pointer (some ⟨k,0,none⟩)) (.eq (nm s) vt)from fun k W h1 h2=>.eq k _ vt h2 h1);generalize Fo vt=ev at*;generalize nm s=n at*;clear hx e1 e2 e3;go_enter func220,ntmps220;go_wp2_with fail;refine(HT.o _ Q0.o).mono ?_;rintro _ w1 ⟨rfl,h1,k1⟩;have Q1:=Aa (show PQ w w1 p b S G s from Q0.o.call h1 k1);have c1:=Q1.o.pp.c0;have hp1:=Q1.o.pp.lt;clear h1 k1;go_wp2_with fail;refine(HNN.o _ Q1.o).mono ?_;rintro _ w2 ⟨rfl,h2,k2⟩;have Q2:=Aa (Q1.o.call h2 k2);have c2:=Q2.o.pp.c0;have hp2:=Q2.o.pp.lt;clear h2 k2;go_wp2_with fail;refine(HN.o _ Q2.o).mono ?_;rintro _ w3 ⟨rfl,h3,k3⟩;have Q3:=Aa (Q2.o.call h3 k3);clear h3 k3;go_wp2_with fail;refine(HV.o _ Q3.o).mono ?_;rintro _ w4 ⟨rfl,q4⟩;have Q4:=Aa (Q3.o.tr q4);clear q4;go_wp2_with fail;go_ret;rw[HQ.o];exact⟨_,rfl,HY.o _ _ (tS w4 _) Q4.o.kp.size,Q4.o.al _⟩
theorem qQ(w:World)(p b S G:Nat)(s:St)(hP:PP w p b S)(h:PS w b G s):
 Calls prog 143 #[.pointer (some ⟨p,0,none⟩)] w fun e w'=>∃u,e=.returned u/\BC w' (fun k=>w.heap.size<=k) u (NF 802 s).1/\PQ w w' p b S G (NF 802 s).2:=
 Xt p b S G 801 _ (Tx p b S G 801 _ (sK p b S G 801 (tL _)) (LT _) (tL _)) (OH _ _ _ (LT _)) (tL _) w s h.len hP h
attribute [local go_sem ↓] Go.wp_at_zero Go.wp_at_succ
theorem Ep{w:World}{base size n F:Nat}{e T:TypeId}{v:Value}{xs:List Value}{cs:Array Value}{fr:Nat×Nat}(ho:w.ownsRow base e size v n xs)(hF:w.heap[F]?=some (.cells cs T fr))(hT:T≠e):Option.some F≠v.ownBlock:=fun x=>by
 rcases ho.2 with⟨y,_⟩|⟨g,cap,cur,hv,hg,hh,r⟩
 ·rw[y]at x;cases x
 ·rw[hv]at x
  have e3:=tY (show some F=some g from x);rw[<-e3,hF]at hh;cases hh;exact hT rfl
theorem PS.grown'{w w':World}{b G:Nat}{s:St}{row:Option Nat}(h:PS w b G s)(hg:w.grownBy w' row)(hb:some b≠row)(hG:some G≠row):PS w' b G s:=
 h.move (hg.block b h.lt hb) (hg.block G h.glt hG) hg.size
theorem PP.grown'{w w':World}{p b S:Nat}{row:Option Nat}(h:PP w p b S)(hg:w.grownBy w' row)(hp:some p≠row):PP w' p b S:=by
 unfold PP at*;rw[hg.block p (Ab h) hp];exact h
structure AW(b S:Nat)(w w':World):Prop where
 size:w.heap.size<=w'.heap.size
 block:∀(k:Nat) (cs:Array Value) (T:TypeId) (fr:Nat×Nat),w.heap[k]?=some (.cells cs T fr)->T≠155->T≠146->T≠164->w'.heap[k]?=some (.cells cs T fr)
 os:w'.os=w.os
 tape:w'.tape=w.tape
 output:w'.output=w.output
 low:∀k,k<S->k<w.heap.size->k≠b->w'.heap[k]?=w.heap[k]?
theorem AW.of_keep{b S:Nat}{w w':World}{cs:Array Value}{fr:Nat×Nat}(h:Ag b w w')(hb:w.heap[b]?=some (.cells cs 155 fr)):AW b S w w':=
 ⟨h.size,fun k c T f hk h1 _ _=>by rw[h.block k (Ab hk) (fun e=>by subst e;rw[hb]at hk;cases hk;exact h1 rfl)];exact hk,h.os,h.tape,h.output,fun k _ hk hb=>h.block k hk hb⟩
theorem AW.refl(b S:Nat)(w:World):AW b S w w:=⟨tL _,fun _ _ _ _ h _ _ _=>h,rfl,rfl,rfl,fun _ _ _ _=>rfl⟩
theorem AW.trans{b S:Nat}{x y z:World}(h:AW b S x y)(k:AW b S y z):AW b S x z:=⟨tQ h.size k.size,fun i cs T fr a b c d=>k.block i cs T fr (h.block i cs T fr a b c d) b c d,k.os.trans h.os,k.tape.trans h.tape,k.output.trans h.output,fun i hS hi hb=>(k.low i hS (tV hi h.size) hb).trans (h.low i hS hi hb)⟩
theorem AW.of_below{b S:Nat}{w w':World}(h:vE w w'):AW b S w w':=⟨h.size,fun k _ _ _ hk _ _ _=>by rw[h.block k (Ab hk)];exact hk,h.os,h.tape,h.output,fun k _ hk _=>h.block k hk⟩
theorem AW.stay{b S:Nat}{T:TypeId}{B:Nat}{w w':World}(h:AW b S w w')(h1:T≠155)(h2:T≠146)(h3:T≠164):Ao T B w w':=fun k cs fr _ a=>h.block k cs T fr a h1 h2 h3
theorem AW.alloc{b S:Nat}{x y:World}(h:AW b S x y)(o:Obj):AW b S x (y.alloc o):=h.trans (AW.of_below ((tM _ _).alloc (tL _) _))
theorem AW.set{b S:Nat}{x y:World}{F:Nat}{cs:Array Value}{T:TypeId}{fr:Nat×Nat}(h:AW b S x y)(hF:y.heap[F]?=some (.cells cs T fr))(hT:T=155\/T=146\/T=164)(hFS:S<=F)(i:Nat)(v:Value):AW b S x (y.setCell ⟨F,i,none⟩ v):=
 h.trans ⟨by simp[World.setCell],fun k c T' f hk h1 h2 h3=>by
  rw[tX _ _ _ _ (fun e=>by subst e;rw[hF]at hk;cases hk;rcases hT with e|e|e<;>simp_all)];exact hk,rfl,rfl,rfl,fun k hS _ _=>tX _ _ _ _ (fun e=>by have e2:k=F:=e;omega)⟩
theorem AW.grown{b S:Nat}{x y z:World}{row:Option Nat}{base size n:Nat}{v:Value}{xs:List Value}(h:AW b S x y)(hg:y.grownBy z row)(ho:y.ownsRow base 164 size v n xs)(hr:row=v.ownBlock)(hbase:S<=base):AW b S x z:=
 h.trans ⟨hg.size,fun k c T' f hk h1 h2 h3=>by
  rw[hg.block k (Ab hk) (by rw[hr];exact Ep ho hk h3)];exact hk,hg.os,hg.tape,hg.output,fun k hS hk _=>hg.block k hk (fun e=>by rw[hr]at e;have:=(ho.lt k e.symm).1;omega)⟩
theorem AW.drew{b S:Nat}{x y:World}(h:AW b S x y):AW b S x y.drew:=⟨h.size,h.block,h.os,h.tape,h.output,h.low⟩
def SC(w:World)(S:Nat)(a b c d e:Value):Prop:=w.heap[S]?=some (.cells #[a,b,c,d,e] 146 (0,0))
theorem info164:(prog.info? 164).map (fun i=>(i.zero,i.size,i.bytes))=some (some (.agg #[.string ⟨#[]⟩]),1,16):=by kernel_rfl
theorem pR(w:World)(p b S G:Nat)(s:St)(vR vO vI vU vN:Value)(names:List vD)(hP:PP w p b S)(h:PS w b G s)(hS:SC w S vR vO vI vU vN)(hN:w.ownsRow S 164 1 vN names.length (Bi names))(hbS:b<S)(hGS:G<S)(hnl:names.length<=100000):
 Calls prog 142 #[.pointer (some ⟨p,0,none⟩)] w fun e w'=>∃vN',e=.returned (.agg #[.string (nm s)])/\PS w' b G (nmT s)/\PP w' p b S/\SC w' S vR vO vI vU vN'/\w'.ownsRow S 164 1 vN' (names.length+1) (Bi (names++[nm s]))/\AW b S w w':=by
 obtain⟨i0,hi,hz0,hz1,hz2⟩:=info_parts info164;have hSl:=Ab hS;have HKY:=Aa (fun(w':World) (hk:Ag b w w')=>(AW.of_keep hk h.ty.choose_spec:AW b S w w'));have HSTAY:=Aa (fun(w':World) (hk:Ag b w w')=>h.stay (T:=164) (B:=S) hk);obtain⟨aN,cN,rfl⟩:=An hN;have HS0:=Aa hS;have HO0:=Aa hN;have hrw:∀k,(Value.slice aN names.length cN).ownBlock=some k->S<=k/\k<w.heap.size:=fun k hk=>hN.lt k hk;have hpS:p≠S:=hP.ne hS (by decide);clear hS hN;have hlt:=h.lt;have hgl:=h.glt;have hpl:=hP.lt;have H0:=Aa h;have HP0:=Aa hP;have HK0:=Aa (Ag.refl b w);have c0:=hP.c0;clear h hP;have H1:=Aa (H0.o.alloc (.cells #[.string ⟨#[]⟩] 164));have HP1:=Aa (HP0.o.alloc (.cells #[.string ⟨#[]⟩] 164));have HK1:=Aa (HK0.o.alloc (.cells #[.string ⟨#[]⟩] 164));have HN1R:=Aa (show(w.alloc (.cells #[.string ⟨#[]⟩] 164)).heap[w.heap.size]?=some (.cells #[.string ⟨#[]⟩] 164 (0,0))from tS _ _);clear H0 HP0 HK0;have c1:=HP1.o.c0;have hc:=Nu (w.alloc (.cells #[.string ⟨#[]⟩] 164)) p b S G s HP1.o H1.o;generalize nm s=n at*;generalize nmT s=s1 at*;go_enter func142,ntmps142;go_wp2_with fail;refine hc.mono ?_;clear hc;rintro e w2 ⟨rfl,h2,k2⟩;have HP2:=Aa (HP1.o.keep H1.o k2);have HK2:=Aa (HK1.o.trans k2);have xR:=Aa (k2.at HN1R.o (by omega));have z2R:=Ab xR.o;have H2:=Aa (show PS w2 b G s1 from h2);have c2:=HP2.o.c0;have zw2:=HK2.o.size;have zp2:=HP2.o.lt;have zb2:=H2.o.lt;clear H1 HP1 HK1 HN1R h2;have HS1:=Aa (HK2.o.at HS0.o (by omega));have HO1:=Aa (Cz HO0.o (HSTAY.o _ HK2.o));have HY1:=Aa (HKY.o _ HK2.o);clear HS0 HO0 HKY HSTAY k2;have cp1:=HP2.o.c1;have dS:w2.cell? ⟨S,4,none⟩=some (.slice aN names.length cN):=Ac HS1.o 4;have fS:=Am HS1.o 4;have zS:=Ab HS1.o;have hloS:Option.some S≠(Value.slice aN names.length cN).ownBlock:=Ep HO1.o HS1.o (by decide);have wV:Option.some p≠(Value.slice aN names.length cN).ownBlock:=Ep HO1.o HP2.o (by decide);have xO:Option.some b≠(Value.slice aN names.length cN).ownBlock:=Ep HO1.o H2.o.ty.choose_spec (by decide);have hO1:=HO1.o;go_wp2_with fail;have zwW:w.heap.size<w2.heap.size:=by omega
 have nSn0:¬S=w2.heap.size:=by omega
 have npS0:¬S=p:=by omega
 go_region_law (first|(refine step_append_lies _ (by rfl) _ _ _ (by rfl) S 164 i0 _ 1 16 underlying144 hi hz0 hz1 hz2 rfl (by decide) _ _ _ (by rfl) (((hO1.alloc _).alloc _).drew) ⟨w2.heap.size+1,0,none⟩ 1 1 [.string n] (by rfl) (by rfl) (Cs _ _ _ _ (by simp)) (fun u hu=>by simp at hu;subst hu;rfl) (by decide) (by unfold maxLen;omega) (by omega) (by simp;omega) (w2.heap.size+2) (by simp) ?_;intro g cap w5 vK hgrow hat hg5;have e5:w5.cell? ⟨S,4,none⟩=some (.slice aN names.length cN):=(hgrow.cell_far ⟨S,4,none⟩ (by simp;omega) hloS).trans ((IY w2 _ _).drew.cell (show S<w2.heap.size from zS)|>.trans dS);have p5:w5.cell? ⟨p,1,none⟩=some (.pointer (some ⟨S,0,none⟩)):=(hgrow.cell_far ⟨p,1,none⟩ (by simp;omega) wV).trans ((IY w2 _ _).drew.cell (show p<w2.heap.size by omega)|>.trans cp1);have f5:w5.frozen? ⟨S,4,none⟩=false:=(hgrow.frozen_far ⟨S,4,none⟩ (by simp;omega) hloS).trans ((IY w2 _ _).drew.frozen (show S<w2.heap.size from zS)|>.trans fS);have n5:w5.cell? ⟨w2.heap.size,0,none⟩=some (.string n):=(hgrow.cell_far ⟨w2.heap.size,0,none⟩ (by simp;omega) (fun e=>by have:=(hrw w2.heap.size e.symm).2;omega)).trans (Ac (w:=(((w2.alloc (.cells #[.string n] 164)).alloc (.cells #[.string n] 164)).drew)) (Lg _ _ _) 0)));all_goals(
  have V5:=(IY w2 (.cells #[.string n] 164 (0,0)) (.cells #[.string n] 164 (0,0))).drew;have g5S:w5.heap[S]?=some (.cells #[vR,vO,vI,vU,.slice aN names.length cN] 146 (0,0)):=(hgrow.block S (by simp;omega) hloS).trans ((V5.block S zS).trans HS1.o);have g5n:w5.heap[w2.heap.size]?=some (.cells #[.string n] 164 (0,0)):=(hgrow.block _ (by simp;omega) (fun e=>by have:=(hrw _ e.symm).2;omega)).trans (Lg _ _ _);have g5R:w5.heap[w.heap.size]?=some (.cells #[.string ⟨#[]⟩] 164 (0,0)):=(hgrow.block _ (by simp;omega) (fun e=>by have:=(hrw _ e.symm).2;omega)).trans ((V5.block _ zwW).trans xR.o);have c5n:w5.cell? ⟨w2.heap.size,0,none⟩=some (.string n):=Ac g5n 0;have c5R:w5.cell? ⟨w.heap.size,0,none⟩=some (.string ⟨#[]⟩):=Ac g5R 0;have f5R:=Am g5R 0;have z5R:=Ab g5R;have z5n:=Ab g5n;have nSR:S≠w.heap.size:=by omega
  have nSn:S≠w2.heap.size:=by omega
  have gS:=((((H2.o.below V5).grown' hgrow xO (fun e=>by have:=(hrw G e.symm).1;omega)).set (F:=S) (by omega) (by omega) 4 (.slice (some ⟨g,0,none⟩) (names.length+1) cap)).set (F:=w.heap.size) (by omega) (by omega) 0 (.string n));have gP:=((((HP2.o.below V5).grown' hgrow wV).set g5S (by decide) 4 (.slice (some ⟨g,0,none⟩) (names.length+1) cap)).set (Se g5R (show w.heap.size≠S by omega) 4 (.slice (some ⟨g,0,none⟩) (names.length+1) cap)) (by decide) 0 (.string n));have gC:SC ((w5.setCell ⟨S,4,none⟩ (.slice (some ⟨g,0,none⟩) (names.length+1) cap)).setCell ⟨w.heap.size,0,none⟩ (.string n)) S vR vO vI vU (.slice (some ⟨g,0,none⟩) (names.length+1) cap):=Se (AI g5S 4 (.slice (some ⟨g,0,none⟩) (names.length+1) cap)) nSR 0 (.string n);have gY:=((((HY1.o.alloc _).alloc _).drew.grown hgrow (((HO1.o.alloc _).alloc _).drew) rfl (tL _)).set g5S (by decide) (tL _) 4 (.slice (some ⟨g,0,none⟩) (names.length+1) cap)).set (Se g5R (show w.heap.size≠S by omega) 4 (.slice (some ⟨g,0,none⟩) (names.length+1) cap)) (by decide) (by omega) 0 (.string n);have hgR:g≠w.heap.size:=by
   rcases hat with e|e
   ·have:=(hrw g e).2;omega
   ·omega
  have hgS:g≠S:=fun e=>by
   rcases vK.2 with⟨y,_⟩|⟨g',cap',cur',hv',_,hh',_⟩
   ·exact absurd y (by simp)
   ·cases hv';rw[e,g5S]at hh';cases hh'
  have gO:=It (It vK (w':=w5.setCell ⟨S,4,none⟩ (.slice (some ⟨g,0,none⟩) (names.length+1) cap)) (fun k hk _=>tX _ _ _ _ (by cases hk;exact hgS))) (w':=(w5.setCell ⟨S,4,none⟩ (.slice (some ⟨g,0,none⟩) (names.length+1) cap)).setCell ⟨w.heap.size,0,none⟩ (.string n)) (fun k hk _=>tX _ _ _ _ (by cases hk;exact hgR));have HX:=Aa (uV gS (uV gP (uV gC (uV gO gY))));clear gS gP gC gO gY vK hgrow V5 HY1 hO1 HO1 g5S g5n g5R;go_wp2_with fail;exact bodyPost_ret (v:=.agg #[.string n]) (by simp[results,results142,go_sem, *]) rfl ⟨_,rfl,HX.o.1,HX.o.2.1,HX.o.2.2.1,by rw[NA];exact HX.o.2.2.2.1,HX.o.2.2.2.2⟩)
abbrev Cq:=Bool×vD
inductive JJ(w:World)(Q:Nat->Prop):Value->List Cq->Prop
 |is (k:Nat) (n:vD) (a c d e:Value):Q k->w.heap[k]?=some (.cells #[.string n,.int .i64 4,a,c,d,e] 285 (0,0))->JJ w Q (.pointer (some ⟨k,0,none⟩)) [(true,n)]
 |eq (k:Nat) (n:vD) (a c d e:Value):Q k->w.heap[k]?=some (.cells #[.string n,.int .i64 5,a,c,d,e] 285 (0,0))->JJ w Q (.pointer (some ⟨k,0,none⟩)) [(false,n)]
 |node (k:Nat) (c:Nat) (n:vD) (v x y z:Value) (vs:List Value) (ls:List (List Cq)):Q k->c<4->w.heap[k]?=some (.cells #[.string n,.int .i64 c,v,x,y,z] 285 (0,0))->w.ownsRow 0 201 1 v vs.length vs->(∀g,v.ownBlock=some g->Q g)->vs.length<=802->vs.length=ls.length->(∀(j:Nat) (u:Value) (l:List Cq),vs[j]?=some u->ls[j]?=some l->JJ w Q u l)->JJ w Q (.pointer (some ⟨k,0,none⟩)) ls.flatten
def II(word:vD)(part:St->List Cq×St):Nat->List (List Cq)->St->List (List Cq)×St
 |0,acc,s=>(acc,s)
 |f+1,acc,s=>if Bn s word=true then II word part f (acc++[(part (tl s)).1]) (part (tl s)).2 else(acc,s)
def chain(word:vD)(part:St->List Cq×St)(s:St):List Cq×St:=
 ((II word part 801 [(part s).1] (part s).2).1.flatten,(II word part 801 [(part s).1] (part s).2).2)
theorem UX(word:vD)(part:St->List Cq×St)(hp:∀s,ln (part s).2<=ln s):∀(f:Nat) (acc:List (List Cq)) (s:St),ln (II word part f acc s).2<=ln s
 |0,_,_=>tL _
 |f+1,acc,s=>by
  rw[II];split
  ·exact tQ (UX word part hp f _ _) (tQ (hp _) (BG s))
  ·exact tL _
theorem OC(word:vD)(part:St->List Cq×St)(hp:∀s,ln (part s).2<=ln s)(s:St):ln (chain word part s).2<=ln s:=
 tQ (UX word part hp _ _ _) (hp s)
def GN:Nat->St->List Cq×St
 |0=>fun s=>([],s)
 |f+1=>fun s=>
  if Ad s 7=true then((chain ⟨#[111,114]⟩ (chain ⟨#[97,110,100]⟩ (GN f)) (tl s)).1,mustT (chain ⟨#[111,114]⟩ (chain ⟨#[97,110,100]⟩ (GN f)) (tl s)).2 (Ad (chain ⟨#[111,114]⟩ (chain ⟨#[97,110,100]⟩ (GN f)) (tl s)).2 8))
  else if nm s=MD then GN f (nmT s)
  else if nm s=MA then([],nmT s)
  else if nm s=Ls then([(true,nm (nmT s))],nmT (nmT s))
  else([(false,nm s)],IS (mustT (nmT s) (Ad (nmT s) 10)))
theorem RH(f:Nat)(s:St):GN (f+1) s=(if Ad s 7=true then((chain ⟨#[111,114]⟩ (chain ⟨#[97,110,100]⟩ (GN f)) (tl s)).1,mustT (chain ⟨#[111,114]⟩ (chain ⟨#[97,110,100]⟩ (GN f)) (tl s)).2 (Ad (chain ⟨#[111,114]⟩ (chain ⟨#[97,110,100]⟩ (GN f)) (tl s)).2 8))
 else if nm s=MD then GN f (nmT s)
 else if nm s=MA then([],nmT s)
 else if nm s=Ls then([(true,nm (nmT s))],nmT (nmT s))
 else([(false,nm s)],IS (mustT (nmT s) (Ad (nmT s) 10)))):=rfl
def Pa(f:Nat):St->List Cq×St:=chain ⟨#[111,114]⟩ (chain ⟨#[97,110,100]⟩ (GN f))
theorem Rk:∀(f:Nat) (s:St),ln (GN f s).2<=ln s
 |0,s=>tL _
 |f+1,s=>by
  rw[RH];split
  ·exact tQ (Do _ _) (tQ (OC _ _ (OC _ _ (Rk f)) _) (BG s))
  ·split
   ·exact tQ (Rk f _) (AZ s)
   ·split
    ·exact AZ s
    ·split
     ·exact tQ (AZ _) (AZ s)
     ·exact tQ (Vk _) (tQ (Do _ _) (AZ s))
mutual
def Dn:Bl->List Cq
 | .all=>[]
 | .is n=>[(true,n)]
 | .eq n _=>[(false,n)]
 | .not t=>Dn t
 | .chain _ l=>Nj l
def Nj:List Bl->List Cq
 |[]=>[]
 |t::l=>Dn t++Nj l
end
theorem Rf:∀l:List Bl,Nj l=(l.map Dn).flatten
 |[]=>by rw[Nj];rfl
 |t::l=>by rw[Nj,Rf l];rfl
theorem BC.leaves{w:World}{Q:Nat->Prop}{v:Value}{t:Bl}(h:BC w Q v t):JJ w Q v (Dn t):=by
 induction h with
 |all k n z x y h1 h2=>rw[Dn];exact .node k 3 n _ _ _ _ [] [] h1 (by decide) h2 (uA _ _ _ _) (fun g hg=>by cases hg) (by decide) rfl (fun j u l hu _=>by simp at hu)
 |is k n z x y h1 h2=>rw[Dn];exact .is k n _ _ _ _ h1 h2
 |eq k n o h1 h2=>rw[Dn];exact .eq k n _ _ _ _ h1 h2
 |not k n z x y v u t h1 h2 h3 h4 _ ih=>
  rw[Dn];have:=JJ.node (w:=w) (Q:=Q) k 2 n v _ _ _ [u] [Dn t] h1 (by decide) h2 h3 h4 (by simp) rfl (fun j u' l hu hl=>by
   have hj:j=0:=by have:=(tP.1 hu).1;simp at this;omega
   subst hj;cases hu;cases hl;exact ih)
  simpa using this
 |chain k o n z x y v vs ts h1 h2 h3 h4 h5 h6 _ ih=>
  rw[Dn,Rf];exact .node k (if o=true then 0 else 1) n v _ _ _ vs (ts.map Dn) h1 (by split<;>decide) h2 h3 h4 h5 (by rw[uP];exact h6) (fun j u l hu hl=>by
   rw[uD]at hl;obtain⟨t,ht,rfl⟩:=uY.1 hl;exact ih j u t hu ht)
def Mw(tp:St->Bl×St)(pp:St->List Cq×St):Prop:=∀s,Dn (tp s).1=(pp s).1/\(tp s).2=(pp s).2
theorem Tv{tp:St->Bl×St}{pp:St->List Cq×St}(h:Mw tp pp)(word:vD):∀(f:Nat) (acc:List Bl) (s:St),(FX word tp f acc s).1.map Dn=(II word pp f (acc.map Dn) s).1/\(FX word tp f acc s).2=(II word pp f (acc.map Dn) s).2
 |0,_,_=>⟨rfl,rfl⟩
 |f+1,acc,s=>by
  rw[FX,II];split
  ·have:=Tv h word f (acc++[(tp (tl s)).1]) (tp (tl s)).2
   rw[uU,List.map_cons,List.map_nil,(h (tl s)).1,(h (tl s)).2]at this;rw[(h (tl s)).2];exact this
  ·exact⟨rfl,rfl⟩
theorem Ob{tp:St->Bl×St}{pp:St->List Cq×St}(h:Mw tp pp)(o:Bool)(word:vD):Mw (CQ o word tp) (chain word pp):=fun s=>by
 have:=Tv h word 801 [(tp s).1] (tp s).2;rw[List.map_cons,List.map_nil,(h s).1,(h s).2]at this;unfold CQ chain;dsimp only;rw[Dn,Rf,(h s).2];exact⟨by rw[this.1],this.2⟩
theorem Sp:∀f:Nat,Mw (DQ f) (GN f)
 |0=>fun s=>⟨by show Dn .all=_;rw[Dn];rfl,rfl⟩
 |f+1=>fun s=>by
  rw[Sj,RH];have hc:=Ob (Ob (Sp f) false Gg) true Gh (tl s);have hn:=Sp f (nmT s);split
  ·exact⟨hc.1,by rw[hc.2];rfl⟩
  ·split
   ·dsimp only;rw[Dn];exact hn
   ·split
    ·dsimp only;rw[Dn];exact⟨rfl,rfl⟩
    ·split
     ·dsimp only;rw[Dn];exact⟨rfl,rfl⟩
     ·dsimp only;rw[Dn];exact⟨rfl,rfl⟩
theorem qR(f:Nat):Mw (NF f) (Pa f):=Ob (Ob (Sp f) false Gg) true Gh
end Go.Proofs.YtadneapobijejaaGreatDoor
