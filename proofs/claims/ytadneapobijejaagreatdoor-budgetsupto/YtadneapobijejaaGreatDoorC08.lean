import Derived.Test.YtadneapobijejaaGreatDoorC07
import Derived.Deep.DeepCutAuto
namespace Go.Proofs.YtadneapobijejaaGreatDoor
set_option maxHeartbeats 20000000
set_option maxRecDepth 100000
open Go.RowKit Tryz
attribute [local go_sem ↓] Go.wp_at_zero Go.wp_at_succ
theorem Dq.slice{w:World}{B:Nat}{v:Value}{l:List Al}(h:Dq w B v l):∃a c,v=.slice a l.length c:=by
 obtain⟨L,e,ho,_⟩:=h;obtain⟨a,c,hv⟩:=An ho;exact⟨a,c,by rw[hv,<-e];simp⟩
structure DefPost(w w':World)(p b S G:Nat)(s':St)(vR vO vI vU:Value)(names:List vD):Prop where
 ps:PS w' b G s'
 pp:PP w' p b S
 ky:AW b S w w'
 sc:∃vN',SC w' S vR vO vI vU vN'/\w'.ownsRow S 164 1 vN' names.length (Bi names)
structure Kp(w X:World)(p b S G:Nat)(s:St)(vR vO vI vU:Value)(names:List vD):Prop extends DefPost w X p b S G s vR vO vI vU names where
 hb:b<S
 hg:G<S
 hS:S<w.heap.size
 hp:p<w.heap.size
section
variable {w X Y:World} {p b S G F:Nat} {s s':St} {vR vO vI vU:Value} {names:List vD}
theorem Kp.pq(h:Kp w X p b S G s vR vO vI vU names)(q:PQ X Y p b S G s'):Kp w Y p b S G s' vR vO vI vU names:=by
 obtain⟨cs,hcs⟩:=h.ps.ty;obtain⟨vN,h1,h2⟩:=h.sc;exact⟨⟨q.ps,q.pp,h.ky.trans (AW.of_keep q.kp hcs),vN,q.kp.at h1 (by have:=h.hb;omega),Cz h2 (h.ps.stay q.kp)⟩,h.hb,h.hg,h.hS,h.hp⟩
theorem Kp.off{cs:Array Value}{T:TypeId}{fr:Nat×Nat}(h:Kp w X p b S G s vR vO vI vU names)(hF:X.heap[F]?=some (.cells cs T fr))(hT:T≠164)(hw:w.heap.size<=F)(hk:Ag F X Y):Kp w Y p b S G s vR vO vI vU names:=by
 obtain⟨vN,h1,h2⟩:=h.sc;have hb:=h.hb;have hg:=h.hg;have hS:=h.hS;have hp:=h.hp;refine⟨⟨h.ps.move (hk.block b h.ps.lt (by omega)) (hk.block G h.ps.glt (by omega)) hk.size,(hk.block p h.pp.lt (by omega)).trans h.pp,?_,vN,hk.at h1 (by omega),Cz h2 (Ao.of_keep hk hF hT)⟩,hb,hg,hS,hp⟩;exact⟨tQ h.ky.size hk.size,fun k c T f hk1 a1 a2 a3=>hk.at (h.ky.block k c T f hk1 a1 a2 a3) (by have:=Ab hk1;omega),hk.os.trans h.ky.os,hk.tape.trans h.ky.tape,hk.output.trans h.ky.output,fun k h1 h2 h3=>(hk.block k (tV h2 h.ky.size) (by omega)).trans (h.ky.low k h1 h2 h3)⟩
end
structure DC(w:World)(p b S G:Nat)(s:St)(vR vO vI vU:Value)(names:List vD):Prop where
 pp:PP w p b S
 ps:PS w b G s
 sc:∃vN,SC w S vR vO vI vU vN/\w.ownsRow S 164 1 vN names.length (Bi names)
 hb:b<S
 hg:G<S
 nl:names.length<=100000
section
variable {w:World} {p b S G:Nat} {s:St} {vR vO vI vU:Value} {names:List vD}
theorem So(h:DC w p b S G s vR vO vI vU names)(o:Obj):Calls prog 142 #[.pointer (some ⟨p,0,none⟩)] (w.alloc o) fun e w'=>e=.returned (.agg #[.string (nm s)])/\Kp w w' p b S G (nmT s) vR vO vI vU (names++[nm s])/\∀cs T,o=.cells cs T (0,0)->T≠155->T≠146->T≠164->w'.heap[w.heap.size]?=some o:=by
 obtain⟨vN,h1,h2⟩:=h.sc;have hS:=Ab h1;refine(pR (w.alloc o) p b S G s vR vO vI vU vN names (h.pp.alloc o) (h.ps.alloc o) ((AK _ _ _ hS).trans h1) (h2.alloc o) h.hb h.hg h.nl).mono ?_;rintro _ w1 ⟨vN',rfl,a1,a2,a3,a4,a5⟩;refine⟨rfl,⟨⟨a1,a2,((AW.refl b S w).alloc o).trans a5,vN',a3,by rw[uE];exact a4⟩,h.hb,h.hg,hS,h.pp.lt⟩,fun cs T e t1 t2 t3=>?_⟩;subst e;exact a5.block _ _ _ _ (tS w _) t1 t2 t3
theorem pN(h:DC w p b S G s vR vO vI vU names):Calls prog 100 #[.pointer (some ⟨p,0,none⟩)] w fun e w'=>∃v,e=.returned (.agg #[.string (nm s),v])/\Dq w' w.heap.size v (CF (nmT s)).1/\(CF (nmT s)).1.length<=802/\DefPost w w' p b S G (CF (nmT s)).2 vR vO vI vU (names++[nm s]):=by
 have HC:=Aa (So h);have hpl:=h.pp.lt;have HF:=Aa (fun W (hP:PP W p b S) (hs:PS W b G (nmT s))=>Xk W p b S G (nmT s) hP hs);clear h;generalize nm s=n at*;generalize CF (nmT s)=FF at*;go_enter func100,ntmps100;go_wp2_with fail;refine(HC.o _).mono ?_;rintro _ w1 ⟨rfl,d1,hR⟩;have hR1:=hR _ _ rfl (by decide) (by decide) (by decide);have D1:=Aa d1;have HR1:=Aa hR1;have hl1:=Ab hR1;have Q1:=Aa ((d1.pp.pq d1.ps).al (.cells #[.string n,.slice none 0 0] 223));have hb1:=d1.ps.lt;have hbS:=d1.hb;have hSw:=d1.hS;clear d1 hR hR1 HC;go_wp2_with fail;refine(HF.o _ Q1.o.pp Q1.o.ps).mono ?_;rintro _ w2 ⟨v,rfl,hv,hvl,q2⟩;obtain⟨aF,cF,rfl⟩:=hv.slice;have Q2:=Aa (Q1.o.tr q2);have hN2:=q2.kp.at (tS w1 _) (by omega);have hR2:=q2.kp.at ((AK w1 _ _ hl1).trans HR1.o) (by omega);have HN2:=Aa hN2;have HR2:=Aa hR2;have HV2:=Aa hv;have cN:=Ac hN2;have fN:=Am hN2;have cR:=Ac hR2;have fR:=Am hR2;have hlN:=Ab hN2;have hlR:=Ab hR2;clear hv q2 hN2 hR2;go_wp2_with fail;have HK:Hi (∀x y z,Ag w.heap.size (w2.setCell ⟨w1.heap.size,1,none⟩ z) (((w2.setCell ⟨w1.heap.size,1,none⟩ z).setCell ⟨w.heap.size,0,none⟩ x).setCell ⟨w.heap.size,1,none⟩ y)):=Aa (fun x y z=>((Ag.refl _ _).setCell 0 x).setCell 1 y);refine bodyPost_ret (v:=.agg #[.string n,.slice aF FF.1.length cF]) (by simp[results,results100,go_sem, *]) rfl ⟨_,rfl,?_,hvl,?_⟩
 ·refine(HV2.o.stays ?_ ?_).mono (show w.heap.size<=(w1.alloc _).heap.size by simp;omega)
  all_goals repeat' with_reducible first|exact Ao.refl _ _ _|refine Ao.set3 ?_ (show _<(w1.alloc _).heap.size by simp;try omega) _ _
 ·exact((D1.o.pq (Q2.o.st ⟨w1.heap.size,1,none⟩ (tL _) (.slice aF FF.1.length cF))).off ((tX _ _ _ _ (show w.heap.size≠w1.heap.size by omega)).trans HR2.o) (by decide) (tL _) (HK.o _ _ _)).toDefPost
end
attribute [local go_sem ↓] Go.wp_at_zero Go.wp_at_succ
def DP:Nat->St->List vD×St
 |0,s=>([],s)
 |f+1,s=>if Ad s 16=true then(nm (tl s)::(DP f (nmT (tl s))).1,(DP f (nmT (tl s))).2)else([],s)
theorem nA(f:Nat)(s:St)(h:Ad s 16=false):DP f s=([],s):=by
 cases f with
 |zero=>rfl
 |succ f=>rw[DP,uB (by rw[h];simp)]
def EJ(s:St):List vD×St:=(nm (mustT s (Ad s 10))::(DP 801 (nmT (mustT s (Ad s 10)))).1,(DP 801 (nmT (mustT s (Ad s 10)))).2)
section
variable {w:World} {p b S G:Nat} {s:St} {vR vO vI vU:Value} {names:List vD}
theorem pU(h:DC w p b S G s vR vO vI vU names):Calls prog 101 #[.pointer (some ⟨p,0,none⟩)] w fun e w'=>∃v,e=.returned (.agg #[.string (nm s),v])/\w'.ownsRow w.heap.size 9 1 v (EJ (nmT s)).1.length (Bi (EJ (nmT s)).1)/\(EJ (nmT s)).1.length<=803/\DefPost w w' p b S G (EJ (nmT s)).2 vR vO vI vU (names++[nm s]):=by
 obtain⟨i0,hi,hz0,hz1,hz2⟩:=info_parts info9';have HC:=Aa (So h);have hpl:=h.pp.lt;have HQ:=Aa (EJ.eq_1 (nmT s));have hl0:ln (mustT (nmT s) (Ad (nmT s) 10))<=801:=tQ (Do _ _) (tQ (AZ s) h.ps.len);clear h;generalize EJ (nmT s)=FF at*;generalize nm s=n at*;generalize nmT s=s1 at*;have HN:=Aa (fun W (hs:PS W b G s1)=>Cc W b G s1 10 hs);generalize (Ay s1 10).k=nk at*;generalize (Ay s1 10).n=nn at*;generalize (Ay s1 10).s=ny at*;generalize mustT s1 (Ad s1 10)=s2 at*;have HNN:=Aa (fun W s' (hs:PS W b G s')=>DX W b G s' hs);have HN2:=Aa (HNN.o · s2);have hl2:=AZ s2;generalize nm s2=m0 at*;generalize nmT s2=s3 at*;go_enter func101,ntmps101;go_wp2_with fail;refine(HC.o _).mono ?_;rintro _ w1 ⟨rfl,d1,hR⟩;have hR1:=hR _ _ rfl (by decide) (by decide) (by decide);have D1:=Aa d1;have HR1:=Aa hR1;have hl1:=Ab hR1;have Q1:=Aa ((d1.pp.pq d1.ps).al (.cells #[.string n,.slice none 0 0] 226));have c1:=d1.pp.c0;have hp1:=d1.pp.lt;have hb1:=d1.ps.lt;have hbS:=d1.hb;have hSw:=d1.hS;clear d1 hR hR1 HC;go_wp2_with fail;refine(HN.o _ Q1.o.ps).mono ?_;rintro _ w2 ⟨rfl,h2,k2⟩;have q2:=Q1.o.call h2 k2;have Q2:=Aa q2;have hN2:=k2.at (tS w1 _) (by omega);have HN2b:=Aa hN2;have HR2:=Aa (k2.at ((AK w1 _ _ hl1).trans HR1.o) (by omega));have cN:=Ac hN2;have hlN:=Ab hN2;have c2:=q2.pp.c0;have hp2:=q2.pp.lt;clear h2 k2 q2 hN2 HN;go_upto_region 3 with fail;go_cut [] (fun wc=>∃vI,PQ w1 wc p b S G s3/\wc.heap[w1.heap.size]?=some (.cells #[.string n,vI] 226 (0,0))/\wc.heap[w.heap.size]?=some (.cells #[.string ⟨#[]⟩,.slice none 0 0] 226 (0,0))/\wc.ownsRow (w1.heap.size+1) 9 1 vI 1 (Bi [m0]))
 case first=>
  go_region_law (first
   |(refine step_append_lies _ (by rfl) _ _ _ (by rfl) (w1.heap.size+1) 9 i0 _ 1 16 underlying107 hi hz0 hz1 hz2 rfl (by decide) _ _ _ (by rfl) ((uA w6 (w1.heap.size+1) 9 1).alloc _) ⟨w6.heap.size,0,none⟩ 1 1 [.string m0] (by rfl) (by rfl) (cell_one_new _ _ _) (fun u hu=>by simp at hu;subst hu;rfl) (by decide) (by unfold maxLen;omega) (by omega) (by simp;omega) (w6.heap.size+1) (by simp) ?_;intro g cap w7 vJ hgrow hat hg7;have g7:=Kw (uA w6 (w1.heap.size+1) 9 1) hgrow (Nat.lt_succ_self _) hN6;have e7:=Ac g7;have f7:=Am g7;have l7:=Ab g7)
   |(go_simp;go_at_call 97;refine(HN2.o _ ?_).mono ?_;(first|exact Q2.o.dr.ps|exact Q2.o.ps);rintro _ w6 ⟨rfl,h6,k6⟩;have q6:PQ w1 w6 p b S G s3:=(by first|exact Q2.o.dr.call h6 k6|exact Q2.o.call h6 k6);have hN6:=k6.at HN2b.o (by omega);have c6:=Ac hN6;have l6:=Ab hN6;have z6:=q6.pp.lt))
  all_goals(
   have hR6:=k6.at HR2.o (by omega);have HX:=Aa (uV (q6.app (uA w6 (w1.heap.size+1) 9 1) hgrow (tL _) (Nat.le_succ _) 1 (.slice (some ⟨g,0,none⟩) 1 cap)) (uV (AI g7 1 (.slice (some ⟨g,0,none⟩) 1 cap)) (uV (Lr (uA w6 (w1.heap.size+1) 9 1) hgrow (show w.heap.size<w1.heap.size+1 by omega) hR6 (show w.heap.size≠w1.heap.size by omega) 1 (.slice (some ⟨g,0,none⟩) 1 cap)) (Is vJ (Nat.lt_succ_self _) 1 (.slice (some ⟨g,0,none⟩) 1 cap)))));clear hgrow vJ h6 k6 hN6 hR6 q6 g7;go_wp2_with fail;go_meet;exact⟨_,HX.o.1,HX.o.2.1,HX.o.2.2.1,HX.o.2.2.2⟩)
 case rest=>
  obtain⟨vI,q,hN,hR,hown⟩:=hcut;have Q3:=Aa q;have HN3:=Aa hN;have HR3:=Aa hR;have HO3:=Aa hown;clear q hN hR hown Q2 HN2b HR2 cN c2 HN2;go_wp2_with fail;go_loopg [] (ln s3) (fun k wr=>∃(mem:List vD) (vI:Value) (s':St) (f:Nat),ln s'<=k/\ln s'<=f/\PQ w1 wr p b S G s'/\wr.heap[w1.heap.size]?=some (.cells #[.string n,vI] 226 (0,0))/\wr.heap[w.heap.size]?=some (.cells #[.string ⟨#[]⟩,.slice none 0 0] 226 (0,0))/\wr.ownsRow (w1.heap.size+1) 9 1 vI mem.length (Bi mem)/\mem.length+ln s'<=803/\(m0::(DP 801 s3).1,(DP 801 s3).2)=(mem++(DP f s').1,(DP f s').2))
  case atStart=>exact⟨[m0],_,s3,801,tL _,by omega,Q3.o,HN3.o,HR3.o,HO3.o,by simp;omega,rfl⟩
  case round=>
   obtain⟨mem,vI,s',f,hlk,hlf,q,hN,hR,hown,hlen,hm⟩:=hrel;obtain⟨aI,cI,rfl⟩:=An hown;have QR:=Aa q;have HNr:=Aa hN;have HRr:=Aa hR;have HOr:=Aa hown;have HM:=Aa hm;have c3:=q.pp.c0;have hp3:=q.pp.lt;have hTK:=Aa (Ev wr b G s' 16 q.ps);clear q hN hR hown hm Q3 HN3 HR3 HO3;cases e16:Ad s' 16
   ·rw[e16]at hTK
    have HE:=Aa (show FF=(mem,s')from by rw[HQ.o,HM.o,nA f s' e16];simp);clear e16 HM HQ;go_wp2_with fail;refine hTK.o.mono ?_;rintro _ w4 ⟨rfl,h4,k4⟩;have Q4:=Aa (show PQ w1 w4 p b S G s' from QR.o.call h4 k4);have hN4:=k4.at HNr.o (by omega);have hR4:=k4.at HRr.o (by omega);have HR4:=Aa hR4;have HO4:=Aa (QR.o.own k4 HOr.o (Nat.le_succ _));have cN4:=Ac hN4;have cR:=Ac hR4;have fR:=Am hR4;have yA:=Ab hN4;have hlR:=Ab hR4;clear h4 k4 hN4 hR4;go_wp2_with fail;rw[HE.o];refine bodyPost_ret (v:=.agg #[.string n,.slice aI mem.length cI]) (by simp[results,results101,go_sem, *]) rfl ⟨.slice aI mem.length cI,rfl,?_,by show mem.length<=803;omega,?_⟩
    ·refine Fw (B:=w1.heap.size+1) ?_ (by omega)
     repeat' with_reducible first|exact HO4.o|refine Is ?_ (show w.heap.size<w1.heap.size+1 by omega) _ _
    ·exact((D1.o.pq Q4.o).off HR4.o (by decide) (tL _) (((Ag.refl _ _).setCell 0 _).setCell 1 _)).toDefPost
   ·rw[e16]at hTK
    have hlt1:=EG s' 16 (by decide) e16;have hltn:=AZ (tl s');obtain⟨f',rfl⟩:∃f',f=f'+1:=⟨f-1,by omega⟩;have HE:=Aa (show(m0::(DP 801 s3).1,(DP 801 s3).2)=(mem++(nm (tl s')::(DP f' (nmT (tl s'))).1),(DP f' (nmT (tl s'))).2)from by rw[HM.o,DP,uC e16]);have HN5:=Aa (HNN.o · (tl s'));clear e16 HM HNN;generalize nm (tl s')=m at*;generalize nmT (tl s')=s4 at*;go_wp2_with fail;refine hTK.o.mono ?_;rintro _ w4 ⟨rfl,h4,k4⟩;have Q4:=Aa (show PQ w1 w4 p b S G (tl s')from QR.o.call h4 k4);have hN4:=k4.at HNr.o (by omega);have HN4:=Aa hN4;have HR4:=Aa (k4.at HRr.o (by omega));have HO4:=Aa (QR.o.own k4 HOr.o (Nat.le_succ _));have cN4:=Ac hN4;have yA:=Ab hN4;have c4:=Q4.o.pp.c0;have hp4:=Q4.o.pp.lt;clear h4 k4 hN4 QR HNr HRr HOr hTK c3;go_wp2_with fail;go_region_law (first
     |(refine step_append_lies _ (by rfl) _ _ _ (by rfl) (w1.heap.size+1) 9 i0 _ 1 16 underlying107 hi hz0 hz1 hz2 rfl (by decide) _ _ _ (by rfl) (hO6.alloc _) ⟨w6.heap.size,0,none⟩ 1 1 [.string m] (by rfl) (by rfl) (cell_one_new _ _ _) (fun u hu=>by simp at hu;subst hu;rfl) (by decide) (by unfold maxLen;omega) (by omega) (by simp;omega) (w6.heap.size+1) (by simp) ?_;intro g cap w7 vJ hgrow hat hg7;have g7:=Kw hO6 hgrow (Nat.lt_succ_self _) hN6;have e7:=Ac g7;have f7:=Am g7;have l7:=Ab g7)
     |(go_simp;go_at_call 97;refine(HN5.o _ ?_).mono ?_;(first|exact Q4.o.dr.ps|exact Q4.o.ps);rintro _ w6 ⟨rfl,h6,k6⟩;have q6:PQ w1 w6 p b S G s4:=(by first|exact Q4.o.dr.call h6 k6|exact Q4.o.call h6 k6);have hN6:=k6.at HN4.o (by omega);have c6:=Ac hN6;have hO6:=(by first|exact Q4.o.dr.own k6 HO4.o (Nat.le_succ _)|exact Q4.o.own k6 HO4.o (Nat.le_succ _));have l6:=Ab hN6;have z6:=q6.pp.lt))
    all_goals(
     have hR6:=k6.at HR4.o (by omega);have HX:=Aa (uV (q6.app hO6 hgrow (tL _) (Nat.le_succ _) 1 (.slice (some ⟨g,0,none⟩) (mem.length+1) cap)) (uV (AI g7 1 (.slice (some ⟨g,0,none⟩) (mem.length+1) cap)) (uV (Lr hO6 hgrow (show w.heap.size<w1.heap.size+1 by omega) hR6 (show w.heap.size≠w1.heap.size by omega) 1 (.slice (some ⟨g,0,none⟩) (mem.length+1) cap)) (Is vJ (Nat.lt_succ_self _) 1 (.slice (some ⟨g,0,none⟩) (mem.length+1) cap)))));clear hgrow vJ h6 k6 hO6 hN6 hR6 q6 g7;go_wp2_with fail;go_roundg (ln s4)
     case measure=>omega
     case rel=>exact⟨mem++[m],_,s4,f',tL _,by omega,HX.o.1,HX.o.2.1,HX.o.2.2.1,by rw[NA,uE];exact HX.o.2.2.2,by simp;omega,by rw[HE.o];simp⟩)
end
attribute [local go_sem ↓] Go.wp_at_zero Go.wp_at_succ
def DO:Nat->St->List vD×St
 |0,s=>([],s)
 |f+1,s=>if Ad s 1=true then(nm s::(DO f (nmT s)).1,(DO f (nmT s)).2)else([],s)
theorem mX(f:Nat)(s:St)(h:Ad s 1=false):DO f s=([],s):=by
 cases f with
 |zero=>rfl
 |succ f=>rw[DO,uB (by rw[h];simp)]
def Fz(s:St):List vD×St:=
 if Bn s NU=true then(nm (tl s)::(DO 801 (nmT (tl s))).1,(DO 801 (nmT (tl s))).2)else([],s)
def JB(s:St):St:=mustT (mustT s (Bn s MF)) (Ad (mustT s (Bn s MF)) 7)
def Hw(s:St):Option (List Cq)×St:=
 if Ad s 11=true then(some (Pa 802 (JB (tl s))).1,mustT (Pa 802 (JB (tl s))).2 (Ad (Pa 802 (JB (tl s))).2 8))else(none,s)
def RG(s:St):Bl:=if Ad s 11=true then(NF 802 (JB (tl s))).1 else .all
def Hb(w:World)(B:Nat)(v:Value):Option (List Cq)->Bl->Prop
 |none,_=>v=.pointer none
 |some l,t=>BC w (fun k=>B<=k) v t/\Dn t=l
section
variable {w w':World} {B C:Nat} {v:Value} {o:Option (List Cq)} {t:Bl}
theorem Hb.stays(h:Hb w B v o t)(h1:Ao 285 B w w')(h2:Ao 201 B w w'):Hb w' B v o t:=by
 cases o with
 |none=>exact h
 |some l=>exact⟨BC.stays h1 h2 h.1,h.2⟩
theorem Hb.ptr(h:Hb w B v o t):∃q,v=.pointer q:=by
 cases o with
 |none=>exact⟨none,h⟩
 |some l=>obtain⟨k,hk⟩:=BC.ptr h.1;exact⟨_,hk⟩
theorem Hb.mono(h:Hb w B v o t)(hc:C<=B):Hb w C v o t:=by
 cases o with
 |none=>exact h
 |some l=>exact⟨h.1.imp (fun k hk _=>tQ hc hk),h.2⟩
end
structure Ap where
 name:vD
 fields:List Al
 impl:List vD
 rule:Option (List Cq)
 tree:Bl
def Cu(s:St):Ap×St:=
 (⟨nm s,(CF (Hw (Fz (nmT s)).2).2).1,(Fz (nmT s)).1,(Hw (Fz (nmT s)).2).1,RG (Fz (nmT s)).2⟩,(CF (Hw (Fz (nmT s)).2).2).2)
theorem Vd:∀(f:Nat) (s:St),ln (DO f s).2<=ln s
 |0,s=>tL _
 |f+1,s=>by
  rw[DO];split
  ·exact tQ (Vd f _) (AZ s)
  ·exact tL _
section
variable {w:World} {p b S G:Nat} {s:St} {vR vO vI vU:Value} {names:List vD}
theorem pP(h:DC w p b S G s vR vO vI vU names):Calls prog 99 #[.pointer (some ⟨p,0,none⟩)] w fun e w'=>∃vF vA vL,e=.returned (.agg #[.string (Cu s).1.name,vF,vA,vL])/\Dq w' w.heap.size vF (Cu s).1.fields/\(Cu s).1.fields.length<=802/\w'.ownsRow w.heap.size 9 1 vA (Cu s).1.impl.length (Bi (Cu s).1.impl)/\(Cu s).1.impl.length<=803/\Hb w' w.heap.size vL (Cu s).1.rule (Cu s).1.tree/\DefPost w w' p b S G (Cu s).2 vR vO vI vU (names++[(Cu s).1.name]):=by
 obtain⟨i0,hi,hz0,hz1,hz2⟩:=info_parts info9';have HC:=Aa (So h);have hpl:=h.pp.lt;have HQ:=Aa (Cu.eq_1 s);have hl0:ln (nmT s)<=801:=tQ (AZ s) h.ps.len;clear h;generalize Cu s=FF at*;generalize nm s=n at*;generalize nmT s=s1 at*;have HT:=Aa (fun W (hs:PS W b G s1)=>Lf W b G s1 NU hs);have HIM:=Aa (Fz.eq_1 s1);generalize Fz s1=im at*;obtain⟨impl,s2⟩:=im;simp only[]at HQ;have HT2:=Aa (fun W (hs:PS W b G s2)=>Ev W b G s2 11 hs);have HRW:=Aa (Hw.eq_1 s2);have HTR:=Aa (RG.eq_1 s2);generalize RG s2=tree at*;generalize Hw s2=rw2 at*;obtain⟨rule,s3⟩:=rw2;simp only[]at HQ;have HF:=Aa (fun W (hP:PP W p b S) (hs:PS W b G s3)=>Xk W p b S G s3 hP hs);generalize CF s3=fl at*;obtain⟨wZ,s4⟩:=fl;simp only[]at HQ HF;have HNN:=Aa (fun W s' (hs:PS W b G s')=>DX W b G s' hs);go_enter func99,ntmps99;go_wp2_with fail;refine(HC.o _).mono ?_;rintro _ w1 ⟨rfl,d1,hR⟩;have hR1:=hR _ _ rfl (by decide) (by decide) (by decide);have D1:=Aa d1;have HR1:=Aa hR1;have hl1:=Ab hR1;have Q1:=Aa ((d1.pp.pq d1.ps).al (.cells #[.string n,.slice none 0 0,.slice none 0 0,.pointer none] 203));have c1:=d1.pp.c0;have hp1:=d1.pp.lt;have hb1:=d1.ps.lt;have hbS:=d1.hb;have hSw:=d1.hS;clear d1 hR hR1 HC;go_wp2_with fail;refine(HT.o _ Q1.o.ps).mono ?_;rintro _ w2 ⟨rfl,h2,k2⟩;have q2:=Q1.o.call h2 k2;have Q2:=Aa q2;have hN2:=k2.at (tS w1 _) (by omega);have HN2:=Aa hN2;have HR2:=Aa (k2.at ((AK w1 _ _ hl1).trans HR1.o) (by omega));have cN:=Ac hN2;have hlN:=Ab hN2;have c2:=q2.pp.c0;have hp2:=q2.pp.lt;clear h2 k2 q2 hN2 HT
 go_upto_if 12 with fail
 go_cut [] (fun wc=>∃vA,PQ w1 wc p b S G s2/\wc.heap[w1.heap.size]?=some (.cells #[.string n,.slice none 0 0,vA,.pointer none] 203 (0,0))/\wc.heap[w.heap.size]?=some (.cells #[.string ⟨#[]⟩,.slice none 0 0,.slice none 0 0,.pointer none] 203 (0,0))/\wc.ownsRow (w1.heap.size+1) 9 1 vA impl.length (Bi impl)/\impl.length<=803)
 case first=>
  clear HQ HRW HTR HF HT2;cases ew:Bn s1 NU
  ·rw[ew]at Q2
   rw[ew]at HIM;obtain⟨e1,e2⟩:impl=[]/\s2=s1:=by have:=HIM.o;simpa using this
   subst e1 e2;go_wp2_with fail;go_meet;exact⟨_,Q2.o,HN2.o,HR2.o,uA _ _ _ _,by simp⟩
  ·rw[ew]at Q2
   rw[ew]at HIM;rw[uC rfl]at HIM;have hlt1:=LM s1 NU ew;have Q2:=Aa (show PQ w1 w2 p b S G (tl s1)from Q2.o);have HN3:=Aa (HNN.o · (tl s1));have hl2:=AZ (tl s1);generalize nm (tl s1)=m0 at*;generalize nmT (tl s1)=s5 at*;clear ew;go_wp2_with fail;go_upto_region 3 with fail;go_cut [] (fun wc=>∃vA,PQ w1 wc p b S G s5/\wc.heap[w1.heap.size]?=some (.cells #[.string n,.slice none 0 0,vA,.pointer none] 203 (0,0))/\wc.heap[w.heap.size]?=some (.cells #[.string ⟨#[]⟩,.slice none 0 0,.slice none 0 0,.pointer none] 203 (0,0))/\wc.ownsRow (w1.heap.size+1) 9 1 vA 1 (Bi [m0]))
   case first=>
    go_region_law (first
     |(refine step_append_lies _ (by rfl) _ _ _ (by rfl) (w1.heap.size+1) 9 i0 _ 1 16 underlying107 hi hz0 hz1 hz2 rfl (by decide) _ _ _ (by rfl) ((uA w6 (w1.heap.size+1) 9 1).alloc _) ⟨w6.heap.size,0,none⟩ 1 1 [.string m0] (by rfl) (by rfl) (cell_one_new _ _ _) (fun u hu=>by simp at hu;subst hu;rfl) (by decide) (by unfold maxLen;omega) (by omega) (by simp;omega) (w6.heap.size+1) (by simp) ?_;intro g cap w7 vJ hgrow hat hg7;have g7:=Kw (uA w6 (w1.heap.size+1) 9 1) hgrow (Nat.lt_succ_self _) hN6;have e7:=Ac g7;have f7:=Am g7;have l7:=Ab g7)
     |(go_simp;go_at_call 97;refine(HN3.o _ ?_).mono ?_;(first|exact Q2.o.dr.ps|exact Q2.o.ps);rintro _ w6 ⟨rfl,h6,k6⟩;have q6:PQ w1 w6 p b S G s5:=(by first|exact Q2.o.dr.call h6 k6|exact Q2.o.call h6 k6);have hN6:=k6.at HN2.o (by omega);have c6:=Ac hN6;have l6:=Ab hN6;have z6:=q6.pp.lt))
    all_goals(
     have hR6:=k6.at HR2.o (by omega);have HX:=Aa (uV (q6.app (uA w6 (w1.heap.size+1) 9 1) hgrow (tL _) (Nat.le_succ _) 2 (.slice (some ⟨g,0,none⟩) 1 cap)) (uV (AI g7 2 (.slice (some ⟨g,0,none⟩) 1 cap)) (uV (Lr (uA w6 (w1.heap.size+1) 9 1) hgrow (show w.heap.size<w1.heap.size+1 by omega) hR6 (show w.heap.size≠w1.heap.size by omega) 2 (.slice (some ⟨g,0,none⟩) 1 cap)) (Is vJ (Nat.lt_succ_self _) 2 (.slice (some ⟨g,0,none⟩) 1 cap)))));clear hgrow vJ h6 k6 hN6 hR6 q6 g7;go_wp2_with fail;go_meet;exact⟨_,HX.o.1,HX.o.2.1,HX.o.2.2.1,HX.o.2.2.2⟩)
   case rest=>
    obtain⟨vA,q,hN,hR,hown⟩:=hcut;have Q3:=Aa q;have HNa:=Aa hN;have HR3:=Aa hR;have HO3:=Aa hown;clear q hN hR hown Q2 HN2 HR2 cN c2 HN3;go_wp2_with fail;go_loopg [] (ln s5) (fun k wr=>∃(mem:List vD) (vA:Value) (s':St) (f:Nat),ln s'<=k/\ln s'<=f/\PQ w1 wr p b S G s'/\wr.heap[w1.heap.size]?=some (.cells #[.string n,.slice none 0 0,vA,.pointer none] 203 (0,0))/\wr.heap[w.heap.size]?=some (.cells #[.string ⟨#[]⟩,.slice none 0 0,.slice none 0 0,.pointer none] 203 (0,0))/\wr.ownsRow (w1.heap.size+1) 9 1 vA mem.length (Bi mem)/\mem.length+ln s'<=803/\(m0::(DO 801 s5).1,(DO 801 s5).2)=(mem++(DO f s').1,(DO f s').2))
    case atStart=>exact⟨[m0],_,s5,801,tL _,by omega,Q3.o,HNa.o,HR3.o,HO3.o,by simp;omega,rfl⟩
    case round=>
     obtain⟨mem,vA,s',f,hlk,hlf,q,hN,hR,hown,hlen,hm⟩:=hrel;obtain⟨aI,cI,rfl⟩:=An hown;have QR:=Aa q;have HNr:=Aa hN;have HRr:=Aa hR;have HOr:=Aa hown;have HM:=Aa hm;have c3:=q.pp.c0;have hp3:=q.pp.lt;have xB:=Ab hN;have hlR3:=Ab hR;have hSE:=Aa (GS wr b G s' 1 q.ps);clear q hN hR hown hm Q3 HNa HR3 HO3;cases e1:Ad s' 1
     ·rw[e1]at hSE
      have HE:=Aa (show impl=mem/\s2=s' from by
       have a:=HIM.o;have b:=HM.o;rw[mX f s' e1,List.append_nil]at b;rw[b]at a;simpa using a)
      clear e1 HM HIM;go_wp2_with fail;refine hSE.o.mono ?_;rintro _ w4 ⟨rfl,b4⟩;go_wp2_with fail;go_meet;rw[HE.o.1,HE.o.2];exact⟨_,QR.o.be b4,(b4.block _ xB).trans HNr.o,(b4.block _ hlR3).trans HRr.o,AT HOr.o b4,by omega⟩
     ·rw[e1]at hSE
      have hlt2:=KQ s' e1;obtain⟨f',rfl⟩:∃f',f=f'+1:=⟨f-1,by omega⟩;have HE:=Aa (show(m0::(DO 801 s5).1,(DO 801 s5).2)=(mem++(nm s'::(DO f' (nmT s')).1),(DO f' (nmT s')).2)from by rw[HM.o,DO,uC e1]);have HN5:=Aa (HNN.o · s');clear e1 HM HNN HIM;generalize nm s'=m at*;generalize nmT s'=s6 at*;go_wp2_with fail;refine hSE.o.mono ?_;rintro _ w4 ⟨rfl,b4⟩;have Q4:=Aa (QR.o.be b4);have hN4:=(b4.block _ xB).trans HNr.o;have HN4:=Aa hN4;have HR4:=Aa ((b4.block _ hlR3).trans HRr.o);have HO4:=Aa (AT HOr.o b4);have cN4:=Ac hN4;have yA:=Ab hN4;have c4:=Q4.o.pp.c0;have hp4:=Q4.o.pp.lt;clear b4 hN4 QR HNr HRr HOr hSE c3;go_wp2_with fail;go_region_law (first
       |(refine step_append_lies _ (by rfl) _ _ _ (by rfl) (w1.heap.size+1) 9 i0 _ 1 16 underlying107 hi hz0 hz1 hz2 rfl (by decide) _ _ _ (by rfl) (hO6.alloc _) ⟨w6.heap.size,0,none⟩ 1 1 [.string m] (by rfl) (by rfl) (cell_one_new _ _ _) (fun u hu=>by simp at hu;subst hu;rfl) (by decide) (by unfold maxLen;omega) (by omega) (by simp;omega) (w6.heap.size+1) (by simp) ?_;intro g cap w7 vJ hgrow hat hg7;have g7:=Kw hO6 hgrow (Nat.lt_succ_self _) hN6;have e7:=Ac g7;have f7:=Am g7;have l7:=Ab g7)
       |(go_simp;go_at_call 97;refine(HN5.o _ ?_).mono ?_;(first|exact Q4.o.dr.ps|exact Q4.o.ps);rintro _ w6 ⟨rfl,h6,k6⟩;have q6:PQ w1 w6 p b S G s6:=(by first|exact Q4.o.dr.call h6 k6|exact Q4.o.call h6 k6);have hN6:=k6.at HN4.o (by omega);have c6:=Ac hN6;have hO6:=(by first|exact Q4.o.dr.own k6 HO4.o (Nat.le_succ _)|exact Q4.o.own k6 HO4.o (Nat.le_succ _));have l6:=Ab hN6;have z6:=q6.pp.lt))
      all_goals(
       have hR6:=k6.at HR4.o (by omega);have HX:=Aa (uV (q6.app hO6 hgrow (tL _) (Nat.le_succ _) 2 (.slice (some ⟨g,0,none⟩) (mem.length+1) cap)) (uV (AI g7 2 (.slice (some ⟨g,0,none⟩) (mem.length+1) cap)) (uV (Lr hO6 hgrow (show w.heap.size<w1.heap.size+1 by omega) hR6 (show w.heap.size≠w1.heap.size by omega) 2 (.slice (some ⟨g,0,none⟩) (mem.length+1) cap)) (Is vJ (Nat.lt_succ_self _) 2 (.slice (some ⟨g,0,none⟩) (mem.length+1) cap)))));clear hgrow vJ h6 k6 hO6 hN6 hR6 q6 g7;go_wp2_with fail;go_roundg (ln s6)
       case measure=>omega
       case rel=>exact⟨mem++[m],_,s6,f',tL _,by omega,HX.o.1,HX.o.2.1,HX.o.2.2.1,by rw[NA,uE];exact HX.o.2.2.2,by simp;omega,by rw[HE.o];simp⟩)
 case rest=>
  obtain⟨vA,q,hN,hR,hown,hil⟩:=hcut;obtain⟨aA,cA,rfl⟩:=An hown;have Q3:=Aa q;have HN3:=Aa hN;have HR3:=Aa hR;have HO3:=Aa hown;have c3:=q.pp.c0;have hp3:=q.pp.lt;clear q hN hR hown Q2 HN2 HR2 cN c2 HNN HIM;go_wp2_with fail;refine(HT2.o _ Q3.o.ps).mono ?_;rintro _ w4 ⟨rfl,h4,k4⟩;have Q4:=Aa (Q3.o.call h4 k4);have hN4:=k4.at HN3.o (by omega);have HN4:=Aa hN4;have HR4:=Aa (k4.at HR3.o (by omega));have HO4:=Aa (Q3.o.own k4 HO3.o (Nat.le_succ _));have yA:=Ab hN4;have c4:=Q4.o.pp.c0;have hp4:=Q4.o.pp.lt;clear h4 k4 hN4 Q3 HN3 HR3 HO3 c3 HT2
  go_upto_if 42 with fail
  go_cut [] (fun wc=>∃q,PQ w1 wc p b S G s3/\wc.heap[w1.heap.size]?=some (.cells #[.string n,.slice none 0 0,.slice aA impl.length cA,.pointer q] 203 (0,0))/\wc.heap[w.heap.size]?=some (.cells #[.string ⟨#[]⟩,.slice none 0 0,.slice none 0 0,.pointer none] 203 (0,0))/\wc.ownsRow (w1.heap.size+1) 9 1 (.slice aA impl.length cA) impl.length (Bi impl)/\Hb wc (w1.heap.size+1) (.pointer q) rule tree)
  case first=>
   clear HQ HF;cases e11:Ad s2 11
   ·rw[e11]at HRW Q4
    obtain⟨e1,e2⟩:rule=none/\s3=s2:=by have:=HRW.o;simpa using this
    subst e1 e2;go_wp2_with fail;go_meet;exact⟨none,Q4.o,HN4.o,HR4.o,HO4.o,rfl⟩
   ·rw[e11]at HRW HTR Q4
    rw[uC rfl]at HRW HTR;have Q4:=Aa (show PQ w1 w4 p b S G (tl s2)from Q4.o);have hsm:=qR 802 (JB (tl s2));rw[<-hsm.1,<-hsm.2,JB]at HRW;rw[JB]at HTR;clear e11 hsm;generalize tl s2=t1 at*;have HW:=Aa (fun W (hs:PS W b G t1)=>OJ W b G t1 MF hs);have HN7:=Aa (fun W (hs:PS W b G (mustT t1 (Bn t1 MF)))=>Cc W b G _ 7 hs);generalize mustT t1 (Bn t1 MF)=t2 at*;generalize (Ay t2 7).k=nk at*;generalize (Ay t2 7).n=nn at*;generalize (Ay t2 7).s=ny at*;generalize mustT t2 (Ad t2 7)=t3 at*;have HRU:=Aa (fun W (hP:PP W p b S) (hs:PS W b G t3)=>qQ W p b S G t3 hP hs);generalize NF 802 t3=ru at*;obtain⟨tr,t4⟩:=ru;simp only[]at HRW HTR HRU;have HN8:=Aa (fun W (hs:PS W b G t4)=>Cc W b G t4 8 hs);generalize (Ay t4 8).k=mk at*;generalize (Ay t4 8).n=mn at*;generalize (Ay t4 8).s=my at*;obtain⟨e1,e2⟩:rule=some (Dn tr)/\s3=mustT t4 (Ad t4 8):=by have:=HRW.o;simpa using this
    subst e1 e2;go_wp2_with fail;refine(HW.o _ Q4.o.ps).mono ?_;rintro _ w5 ⟨rfl,h5,k5⟩;have Q5:=Aa (Q4.o.call h5 k5);have HN5:=Aa (k5.at HN4.o (by omega));have HR5:=Aa (k5.at HR4.o (by omega));have HO5:=Aa (Q4.o.own k5 HO4.o (Nat.le_succ _));have c5:=Q5.o.pp.c0;have hp5:=Q5.o.pp.lt;clear h5 k5 HN4 HR4 HO4;go_wp2_with fail;refine(HN7.o _ Q5.o.ps).mono ?_;rintro _ w6 ⟨rfl,h6,k6⟩;have Q6:=Aa (Q5.o.call h6 k6);have HN6:=Aa (k6.at HN5.o (by omega));have HR6:=Aa (k6.at HR5.o (by omega));have HO6:=Aa (Q5.o.own k6 HO5.o (Nat.le_succ _));have hlN6:=Ab HN6.o;clear h6 k6 HN5 HR5 HO5;go_wp2_with fail;refine(HRU.o _ Q6.o.pp Q6.o.ps).mono ?_;rintro _ w7 ⟨u,rfl,hu,q7⟩;obtain⟨ku,rfl⟩:=hu.ptr;have Q7:=Aa (Q6.o.tr q7);have hN7:=q7.kp.at HN6.o (by omega);have HN7b:=Aa hN7;have HR7:=Aa (q7.kp.at HR6.o (by omega));have HO7:=Aa (Q6.o.own q7.kp HO6.o (Nat.le_succ _));have HU7:=Aa (hu.imp (R:=fun k=>w1.heap.size+1<=k) (fun k hk _=>tQ hlN6 hk));have cN:=Ac hN7;have fN:=Am hN7;have yK:=Ab hN7;have c7:=q7.pp.c0;have hp7:=q7.pp.lt;have hpN:p<w1.heap.size:=hp1;clear hu q7 hN7 HN6 HR6 HO6;go_wp2_with fail;refine(HN8.o _ (Q7.o.st ⟨w1.heap.size,3,none⟩ (tL _) (.pointer (some ⟨ku,0,none⟩))).ps).mono ?_;rintro _ w8 ⟨rfl,h8,k8⟩;go_wp2_with fail;go_meet;have q8:=(Q7.o.st ⟨w1.heap.size,3,none⟩ (tL _) (.pointer (some ⟨ku,0,none⟩)));have hs8:∀T,Ao T (w1.heap.size+1) w7 (w7.setCell ⟨w1.heap.size,3,none⟩ (.pointer (some ⟨ku,0,none⟩))):=fun T=>Ao.set (Nat.lt_succ_self _) 3 _;refine⟨some ⟨ku,0,none⟩,q8.call h8 k8,k8.at (AI HN7b.o 3 _) (by omega),k8.at ((tX _ _ _ _ (show w.heap.size≠w1.heap.size by omega)).trans HR7.o) (by omega),q8.own k8 (Is HO7.o (Nat.lt_succ_self _) 3 _) (Nat.le_succ _),?_,by rw[HTR.o]⟩;rw[HTR.o];exact((HU7.o.stays (hs8 _) (hs8 _)).keep q8.ps k8 (fun k hk _=>hk))
  case rest=>
   obtain⟨qr,q,hN,hR,hown,hru⟩:=hcut;have Q5:=Aa q;have HN5:=Aa hN;have HR5:=Aa hR;have HO5:=Aa hown;have HRU:=Aa hru;have hlN5:=Ab hN;have hlR5:=Ab hR;clear q hN hR hown hru Q4 HN4 HR4 HO4 HRW HTR c4;go_wp2_with fail;refine(HF.o _ Q5.o.pp Q5.o.ps).mono ?_;rintro _ w6 ⟨v,rfl,hv,hvl,q6⟩;obtain⟨aF,cF,rfl⟩:=hv.slice;have Q6:=Aa (Q5.o.tr q6);have hN6:=q6.kp.at HN5.o (by omega);have hR6:=q6.kp.at HR5.o (by omega);have HR6:=Aa hR6;have HO6:=Aa (Q5.o.own q6.kp HO5.o (Nat.le_succ _));have HRU6:=Aa (HRU.o.stays (Q5.o.stay q6.kp) (Q5.o.stay q6.kp));have HV6:=Aa hv;have cN:=Ac hN6;have fN:=Am hN6;have cR:=Ac hR6;have fR:=Am hR6;have hlN:=Ab hN6;have hlR:=Ab hR6;clear hv q6 hN6 hR6 HN5 HR5 HO5 HRU;go_wp2_with fail;rw[HQ.o];refine bodyPost_ret (v:=.agg #[.string n,.slice aF wZ.length cF,.slice aA impl.length cA,.pointer qr]) (by simp[results,results99,go_sem, *]) rfl ⟨_,_,_,rfl,?_,hvl,?_,hil,?_,?_⟩
   ·refine(HV6.o.stays ?_ ?_).mono (show w.heap.size<=wc.heap.size by omega)
    all_goals repeat' with_reducible first|exact Ao.refl _ _ _|refine Ao.set3 ?_ (show _<wc.heap.size by omega) _ _
   ·refine Fw (B:=w1.heap.size+1) ?_ (by omega)
    repeat' with_reducible first|exact HO6.o|refine Is ?_ (show _<w1.heap.size+1 by omega) _ _
   ·refine(HRU6.o.stays ?_ ?_).mono (show w.heap.size<=w1.heap.size+1 by omega)
    all_goals repeat' with_reducible first|exact Ao.refl _ _ _|refine Ao.set3 ?_ (show _<w1.heap.size+1 by omega) _ _
   ·exact((D1.o.pq (Q6.o.st ⟨w1.heap.size,1,none⟩ (tL _) (.slice aF wZ.length cF))).off ((tX _ _ _ _ (show w.heap.size≠w1.heap.size by omega)).trans HR6.o) (by decide) (tL _) (((((Ag.refl _ _).setCell 0 _).setCell 1 _).setCell 2 _).setCell 3 _)).toDefPost
end
end Go.Proofs.YtadneapobijejaaGreatDoor
