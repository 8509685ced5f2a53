import Derived.Test.YtogdodlibkckkaaGreatDoorZ07
import Derived.Deep.DeepCutAuto
namespace Go.Proofs.YtogdodlibkckkaaGreatDoor
set_option maxHeartbeats 20000000
set_option maxRecDepth 100000
open Go.RowKit Tryz
attribute [local go_sem ↓] Go.wp_at_zero Go.wp_at_succ
theorem DE.slice{w:World}{B:Nat}{v:Value}{l:List Am}(b:DE w B v l):∃a c,v=.slice a l.length c:=by
 obtain⟨g,e,d,_⟩:=b;obtain⟨a,c,f⟩:=An d;exact⟨a,c,by rw[f,<-e];simp⟩
structure DefPost(w w':World)(p b S G:Nat)(s':St)(vR vO vI vU:Value)(names:List yF):Prop where
 ps:PS w' b G s'
 pp:PP w' p b S
 ky:AZ b S w w'
 sc:∃vN',SC w' S vR vO vI vU vN'/\w'.ownsRow S 132 1 vN' names.length (Bn names)
structure KJ(w X:World)(p b S G:Nat)(s:St)(vR vO vI vU:Value)(names:List yF):Prop extends DefPost w X p b S G s vR vO vI vU names where
 hb:b<S
 hg:G<S
 hS:S<w.heap.size
 hp:p<w.heap.size
section
variable {w X Y:World} {p b S G F:Nat} {s s':St} {vR vO vI vU:Value} {names:List yF}
theorem KJ.pq(a:KJ w X p b S G s vR vO vI vU names)(q:PQ X Y p b S G s'):KJ w Y p b S G s' vR vO vI vU names:=by
 obtain⟨g,e⟩:=a.ps.ty;obtain⟨f,c,d⟩:=a.sc;exact⟨⟨q.ps,q.pp,a.ky.trans (AZ.of_keep q.kp e),f,q.kp.at c (by have:=a.hb;omega),CE d (a.ps.stay q.kp)⟩,a.hb,a.hg,a.hS,a.hp⟩
theorem KJ.off{m:Array Value}{T:TypeId}{n:Nat×Nat}(a:KJ w X p b S G s vR vO vI vU names)(hF:X.heap[F]?=some (.cells m T n))(t:T≠132)(y:w.heap.size<=F)(d:Ag F X Y):KJ w Y p b S G s vR vO vI vU names:=by
 obtain⟨x,g,e⟩:=a.sc;have hb:=a.hb;have u:=a.hg;have r:=a.hS;have v:=a.hp;refine⟨⟨a.ps.move (d.block b a.ps.lt (by omega)) (d.block G a.ps.glt (by omega)) d.size,(d.block p a.pp.lt (by omega)).trans a.pp,?_,x,d.at g (by omega),CE e (Ap.of_keep d hF t)⟩,hb,u,r,v⟩;exact⟨wV a.ky.size d.size,fun k c T f h i j l=>d.at (a.ky.block k c T f h i j l) (by have:=Ab h;omega),d.os.trans a.ky.os,d.tape.trans a.ky.tape,d.output.trans a.ky.output,fun k g e q=>(d.block k (xA e a.ky.size) (by omega)).trans (a.ky.low k g e q)⟩
end
structure DC(w:World)(p b S G:Nat)(s:St)(vR vO vI vU:Value)(names:List yF):Prop where
 pp:PP w p b S
 ps:PS w b G s
 sc:∃vN,SC w S vR vO vI vU vN/\w.ownsRow S 132 1 vN names.length (Bn names)
 hb:b<S
 hg:G<S
 nl:names.length<=100000
section
variable {w:World} {p b S G:Nat} {s:St} {vR vO vI vU:Value} {names:List yF}
theorem Tf(a:DC w p b S G s vR vO vI vU names)(o:Obj):Calls prog 178 #[.pointer (some ⟨p,0,none⟩)] (w.alloc o) fun e w'=>e=.returned (.agg #[.string (nm s)])/\KJ w w' p b S G (nmT s) vR vO vI vU (names++[nm s])/\∀d T,o=.cells d T (0,0)->T≠215->T≠141->T≠132->w'.heap[w.heap.size]?=some o:=by
 obtain⟨r,f,l⟩:=a.sc;have g:=Ab f;refine(sJ (w.alloc o) p b S G s vR vO vI vU r names (a.pp.alloc o) (a.ps.alloc o) ((AJ _ _ _ g).trans f) (l.alloc o) a.hb a.hg a.nl).mono ?_;rintro _ w1 ⟨t,rfl,h,i,j,k,c⟩;refine⟨rfl,⟨⟨h,i,((AZ.refl b S w).alloc o).trans c,t,j,by rw[xJ];exact k⟩,a.hb,a.hg,g,a.pp.lt⟩,fun d T e m n q=>?_⟩;subst e;exact c.block _ _ _ _ (wX w _) m n q
theorem sF(h:DC w p b S G s vR vO vI vU names):Calls prog 134 #[.pointer (some ⟨p,0,none⟩)] w fun e w'=>∃v,e=.returned (.agg #[.string (nm s),v])/\DE w' w.heap.size v (CL (nmT s)).1/\(CL (nmT s)).1.length<=802/\DefPost w w' p b S G (CL (nmT s)).2 vR vO vI vU (names++[nm s]):=by
 have l:=Aa (Tf h);have U:=h.pp.lt;have u:=Aa (fun W (F:PP W p b S) (I:PS W b G (nmT s))=>Yp W p b S G (nmT s) F I);clear h;generalize nm s=n at*;generalize CL (nmT s)=k at*;go_enter func134,ntmps134;go_wp2_with fail;refine(l.o _).mono ?_;rintro _ w1 ⟨rfl,a,r⟩;have i:=r _ _ rfl (by decide) (by decide) (by decide);have t:=Aa a;have B:=Aa i;have H:=Ab i;have g:=Aa ((a.pp.pq a.ps).al (.cells #[.string n,.slice none 0 0] 268));have P:=a.ps.lt;have Q:=a.hb;have O:=a.hS;clear a r i l;go_wp2_with fail;refine(u.o _ g.o.pp g.o.ps).mono ?_;rintro _ w2 ⟨v,rfl,j,J,f⟩;obtain⟨m,q,rfl⟩:=j.slice;have E:=Aa (g.o.tr f);have c:=f.kp.at (wX w1 _) (by omega);have d:=f.kp.at ((AJ w1 _ _ H).trans B.o) (by omega);have K:=Aa c;have C:=Aa d;have D:=Aa j;have L:=Ac c;have fN:=Ak c;have M:=Ac d;have N:=Ak d;have R:=Ab c;have T:=Ab d;clear j f c d;go_wp2_with fail;have A:Hi (∀x y z,Ag w.heap.size (w2.setCell ⟨w1.heap.size,1,none⟩ z) (((w2.setCell ⟨w1.heap.size,1,none⟩ z).setCell ⟨w.heap.size,0,none⟩ x).setCell ⟨w.heap.size,1,none⟩ y)):=Aa (fun x y z=>((Ag.refl _ _).setCell 0 x).setCell 1 y);refine bodyPost_ret (v:=.agg #[.string n,.slice m k.1.length q]) (by simp[results,results134,go_sem, *]) rfl ⟨_,rfl,?_,J,?_⟩
 ·refine(D.o.stays ?_ ?_).mono (show w.heap.size<=(w1.alloc _).heap.size by simp;omega)
  all_goals repeat' with_reducible first|exact Ap.refl _ _ _|refine Ap.set3 ?_ (show _<(w1.alloc _).heap.size by simp;try omega) _ _
 ·exact((t.o.pq (E.o.st ⟨w1.heap.size,1,none⟩ (wQ _) (.slice m k.1.length q))).off ((xC _ _ _ _ (show w.heap.size≠w1.heap.size by omega)).trans C.o) (by decide) (wQ _) (A.o _ _ _)).toDefPost
end
attribute [local go_sem ↓] Go.wp_at_zero Go.wp_at_succ
def DY:Nat->St->List yF×St
 |0,s=>([],s)
 |f+1,s=>if Ae s 16=true then(nm (tl s)::(DY f (nmT (tl s))).1,(DY f (nmT (tl s))).2)else([],s)
theorem qB(f:Nat)(s:St)(a:Ae s 16=false):DY f s=([],s):=by
 cases f with
 |zero=>rfl
 |succ f=>rw[DY,xG (by rw[a];simp)]
def EW(s:St):List yF×St:=(nm (mustT s (Ae s 10))::(DY 801 (nmT (mustT s (Ae s 10)))).1,(DY 801 (nmT (mustT s (Ae s 10)))).2)
section
variable {w:World} {p b S G:Nat} {s:St} {vR vO vI vU:Value} {names:List yF}
theorem sN(X:DC w p b S G s vR vO vI vU names):Calls prog 135 #[.pointer (some ⟨p,0,none⟩)] w fun e w'=>∃v,e=.returned (.agg #[.string (nm s),v])/\w'.ownsRow w.heap.size 9 1 v (EW (nmT s)).1.length (Bn (EW (nmT s)).1)/\(EW (nmT s)).1.length<=803/\DefPost w w' p b S G (EW (nmT s)).2 vR vO vI vU (names++[nm s]):=by
 obtain⟨aI,aD,aF,aG,aH⟩:=info_parts info9';have am:=Aa (Tf X);have bj:=X.pp.lt;have av:=Aa (EW.eq_1 (nmT s));have a5:ln (mustT (nmT s) (Ae (nmT s) 10))<=801:=wV (DA _ _) (wV (Bg s) X.ps.len);clear X;generalize EW (nmT s)=aK at*;generalize nm s=n at*;generalize nmT s=s1 at*;have ao:=Aa (fun W (aj:PS W b G s1)=>Cj W b G s1 10 aj);generalize (Ay s1 10).k=bk at*;generalize (Ay s1 10).n=bl at*;generalize (Ay s1 10).s=bm at*;generalize mustT s1 (Ae s1 10)=aa at*;have ad:=Aa (fun W a (aj:PS W b G a)=>Eh W b G a aj);have ap:=Aa (ad.o · aa);have a6:=Bg aa;generalize nm aa=T at*;generalize nmT aa=A at*;go_enter func135,ntmps135;go_wp2_with fail;refine(am.o _).mono ?_;rintro _ w1 ⟨rfl,r,z⟩;have ai:=z _ _ rfl (by decide) (by decide) (by decide);have aJ:=Aa r;have aN:=Aa ai;have aV:=Ab ai;have ay:=Aa ((r.pp.pq r.ps).al (.cells #[.string n,.slice none 0 0] 271));have c1:=r.pp.c0;have bf:=r.pp.lt;have a3:=r.ps.lt;have a4:=r.hb;have a2:=r.hS;clear r z ai am;go_wp2_with fail;refine(ao.o _ ay.o.ps).mono ?_;rintro _ w2 ⟨rfl,aC,k2⟩;have Z:=ay.o.call aC k2;have H:=Aa Z;have Y:=k2.at (wX w1 _) (by omega);have aq:=Aa Y;have aw:=Aa (k2.at ((AJ w1 _ _ aV).trans aN.o) (by omega));have aP:=Ac Y;have a7:=Ab Y;have c2:=Z.pp.c0;have bg:=Z.pp.lt;clear aC k2 Z Y ao;go_upto_region 3 with fail;go_cut [] (fun wc=>∃vI,PQ w1 wc p b S G A/\wc.heap[w1.heap.size]?=some (.cells #[.string n,vI] 271 (0,0))/\wc.heap[w.heap.size]?=some (.cells #[.string ⟨#[]⟩,.slice none 0 0] 271 (0,0))/\wc.ownsRow (w1.heap.size+1) 9 1 vI 1 (Bn [T]))
 case first=>
  go_region_law (first
   |(refine step_append_lies _ (by rfl) _ _ _ (by rfl) (w1.heap.size+1) 9 aI _ 1 16 underlying42 aD aF aG aH rfl (by decide) _ _ _ (by rfl) ((xF w6 (w1.heap.size+1) 9 1).alloc _) ⟨w6.heap.size,0,none⟩ 1 1 [.string T] (by rfl) (by rfl) (cell_one_new _ _ _) (fun u R=>by simp at R;subst R;rfl) (by decide) (by unfold maxLen;omega) (by omega) (by simp;omega) (w6.heap.size+1) (by simp) ?_;intro g cap w7 Q x aT aU;have h:=KS (xF w6 (w1.heap.size+1) 9 1) x (Nat.lt_succ_self _) t;have aR:=Ac h;have aS:=Ak h;have aY:=Ab h)
   |(go_simp;go_at_call 131;refine(ap.o _ ?_).mono ?_;(first|exact H.o.dr.ps|exact H.o.ps);rintro _ w6 ⟨rfl,D,d⟩;have E:PQ w1 w6 p b S G A:=(by first|exact H.o.dr.call D d|exact H.o.call D d);have t:=d.at aq.o (by omega);have aO:=Ac t;have aX:=Ab t;have aZ:=E.pp.lt))
  all_goals(
   have O:=d.at aw.o (by omega);have l:=Aa (xZ (E.app (xF w6 (w1.heap.size+1) 9 1) x (wQ _) (Nat.le_succ _) 1 (.slice (some ⟨g,0,none⟩) 1 cap)) (xZ (AI h 1 (.slice (some ⟨g,0,none⟩) 1 cap)) (xZ (LM (xF w6 (w1.heap.size+1) 9 1) x (show w.heap.size<w1.heap.size+1 by omega) O (show w.heap.size≠w1.heap.size by omega) 1 (.slice (some ⟨g,0,none⟩) 1 cap)) (IE Q (Nat.lt_succ_self _) 1 (.slice (some ⟨g,0,none⟩) 1 cap)))));clear x Q D d t O E h;go_wp2;go_meet;exact⟨_,l.o.1,l.o.2.1,l.o.2.2.1,l.o.2.2.2⟩)
 case rest=>
  obtain⟨vI,q,L,z,F⟩:=hcut;have az:=Aa q;have ar:=Aa L;have ax:=Aa z;have au:=Aa F;clear q L z F H aq aw aP c2 ap;go_wp2;go_loopg [] (ln A) (fun k wr=>∃(c:List yF) (vI:Value) (a:St) (f:Nat),ln a<=k/\ln a<=f/\PQ w1 wr p b S G a/\wr.heap[w1.heap.size]?=some (.cells #[.string n,vI] 271 (0,0))/\wr.heap[w.heap.size]?=some (.cells #[.string ⟨#[]⟩,.slice none 0 0] 271 (0,0))/\wr.ownsRow (w1.heap.size+1) 9 1 vI c.length (Bn c)/\c.length+ln a<=803/\(T::(DY 801 A).1,(DY 801 A).2)=(c++(DY f a).1,(DY f a).2))
  case atStart=>exact⟨[T],_,A,801,wQ _,by omega,az.o,ar.o,ax.o,au.o,by simp;omega,rfl⟩
  case round=>
   obtain⟨c,vI,a,f,bb,ba,q,L,z,F,a9,aE⟩:=hrel;obtain⟨aA,aB,rfl⟩:=An F;have I:=Aa q;have ae:=Aa L;have ah:=Aa z;have af:=Aa F;have U:=Aa aE;have c3:=q.pp.c0;have bh:=q.pp.lt;have P:=Aa (EG wr b G a 16 q.ps);clear q L z F aE az ar ax au;cases C:Ae a 16
   ·rw[C]at P
    have ab:=Aa (show aK=(c,a)from by rw[av.o,U.o,qB f a C];simp);clear C U av;go_wp2_with fail;refine P.o.mono ?_;rintro _ w4 ⟨rfl,K,i⟩;have j:=Aa (show PQ w1 w4 p b S G a from I.o.call K i);have y:=i.at ae.o (by omega);have N:=i.at ah.o (by omega);have ag:=Aa N;have V:=Aa (I.o.own i af.o (Nat.le_succ _));have aQ:=Ac y;have a0:=Ac N;have a1:=Ak N;have aW:=Ab y;have a8:=Ab N;clear K i y N;go_wp2_with fail;rw[ab.o];refine bodyPost_ret (v:=.agg #[.string n,.slice aA c.length aB]) (by simp[results,results135,go_sem, *]) rfl ⟨.slice aA c.length aB,rfl,?_,by show c.length<=803;omega,?_⟩
    ·refine FE (B:=w1.heap.size+1) ?_ (by omega)
     repeat' with_reducible first|exact V.o|refine IE ?_ (show w.heap.size<w1.heap.size+1 by omega) _ _
    ·exact((aJ.o.pq j.o).off ag.o (by decide) (wQ _) (((Ag.refl _ _).setCell 0 _).setCell 1 _)).toDefPost
   ·rw[C]at P
    have bc:=ET a 16 (by decide) C;have bd:=Bg (tl a);obtain⟨J,rfl⟩:∃J,f=J+1:=⟨f-1,by omega⟩;have ab:=Aa (show(T::(DY 801 A).1,(DY 801 A).2)=(c++(nm (tl a)::(DY J (nmT (tl a))).1),(DY J (nmT (tl a))).2)from by rw[U.o,DY,xH C]);have aM:=Aa (ad.o · (tl a));clear C U ad;generalize nm (tl a)=m at*;generalize nmT (tl a)=ak at*;go_wp2_with fail;refine P.o.mono ?_;rintro _ w4 ⟨rfl,K,i⟩;have j:=Aa (show PQ w1 w4 p b S G (tl a)from I.o.call K i);have y:=i.at ae.o (by omega);have aL:=Aa y;have ag:=Aa (i.at ah.o (by omega));have V:=Aa (I.o.own i af.o (Nat.le_succ _));have aQ:=Ac y;have aW:=Ab y;have c4:=j.o.pp.c0;have bi:=j.o.pp.lt;clear K i y I ae ah af P c3;go_wp2;go_region_law (first
     |(refine step_append_lies _ (by rfl) _ _ _ (by rfl) (w1.heap.size+1) 9 aI _ 1 16 underlying42 aD aF aG aH rfl (by decide) _ _ _ (by rfl) (M.alloc _) ⟨w6.heap.size,0,none⟩ 1 1 [.string m] (by rfl) (by rfl) (cell_one_new _ _ _) (fun u R=>by simp at R;subst R;rfl) (by decide) (by unfold maxLen;omega) (by omega) (by simp;omega) (w6.heap.size+1) (by simp) ?_;intro g cap w7 Q x aT aU;have h:=KS M x (Nat.lt_succ_self _) t;have aR:=Ac h;have aS:=Ak h;have aY:=Ab h)
     |(go_simp;go_at_call 131;refine(aM.o _ ?_).mono ?_;(first|exact j.o.dr.ps|exact j.o.ps);rintro _ w6 ⟨rfl,D,d⟩;have E:PQ w1 w6 p b S G ak:=(by first|exact j.o.dr.call D d|exact j.o.call D d);have t:=d.at aL.o (by omega);have aO:=Ac t;have M:=(by first|exact j.o.dr.own d V.o (Nat.le_succ _)|exact j.o.own d V.o (Nat.le_succ _));have aX:=Ab t;have aZ:=E.pp.lt))
    all_goals(
     have O:=d.at ag.o (by omega);have l:=Aa (xZ (E.app M x (wQ _) (Nat.le_succ _) 1 (.slice (some ⟨g,0,none⟩) (c.length+1) cap)) (xZ (AI h 1 (.slice (some ⟨g,0,none⟩) (c.length+1) cap)) (xZ (LM M x (show w.heap.size<w1.heap.size+1 by omega) O (show w.heap.size≠w1.heap.size by omega) 1 (.slice (some ⟨g,0,none⟩) (c.length+1) cap)) (IE Q (Nat.lt_succ_self _) 1 (.slice (some ⟨g,0,none⟩) (c.length+1) cap)))));clear x Q D d M t O E h;go_wp2;go_roundg (ln ak)
     case measure=>omega
     case rel=>exact⟨c++[m],_,ak,J,wQ _,by omega,l.o.1,l.o.2.1,l.o.2.2.1,by rw[Oa,xJ];exact l.o.2.2.2,by simp;omega,by rw[ab.o];simp⟩)
end
attribute [local go_sem ↓] Go.wp_at_zero Go.wp_at_succ
def DX:Nat->St->List yF×St
 |0,s=>([],s)
 |f+1,s=>if Ae s 1=true then(nm s::(DX f (nmT s)).1,(DX f (nmT s)).2)else([],s)
theorem pY(f:Nat)(s:St)(a:Ae s 1=false):DX f s=([],s):=by
 cases f with
 |zero=>rfl
 |succ f=>rw[DX,xG (by rw[a];simp)]
def FI(s:St):List yF×St:=
 if Bu s Oz=true then(nm (tl s)::(DX 801 (nmT (tl s))).1,(DX 801 (nmT (tl s))).2)else([],s)
def JM(s:St):St:=mustT (mustT s (Bu s Nd)) (Ae (mustT s (Bu s Nd)) 7)
def Ih(s:St):Option (List Cx)×St:=
 if Ae s 11=true then(some (PU 802 (JM (tl s))).1,mustT (PU 802 (JM (tl s))).2 (Ae (PU 802 (JM (tl s))).2 8))else(none,s)
def Sr(s:St):Br:=if Ae s 11=true then(Of 802 (JM (tl s))).1 else .all
def Ho(w:World)(B:Nat)(v:Value):Option (List Cx)->Br->Prop
 |none,_=>v=.pointer none
 |some l,t=>BG w (fun k=>B<=k) v t/\Dz t=l
section
variable {w w':World} {B C:Nat} {v:Value} {o:Option (List Cx)} {t:Br}
theorem Ho.stays(a:Ho w B v o t)(b:Ap 206 B w w')(c:Ap 147 B w w'):Ho w' B v o t:=by
 cases o with
 |none=>exact a
 |some l=>exact⟨BG.stays b c a.1,a.2⟩
theorem Ho.ptr(a:Ho w B v o t):∃q,v=.pointer q:=by
 cases o with
 |none=>exact⟨none,a⟩
 |some l=>obtain⟨k,b⟩:=BG.ptr a.1;exact⟨_,b⟩
theorem Ho.mono(a:Ho w B v o t)(b:C<=B):Ho w C v o t:=by
 cases o with
 |none=>exact a
 |some l=>exact⟨a.1.imp (fun k c _=>wV b c),a.2⟩
end
structure Aq where
 name:yF
 fields:List Am
 impl:List yF
 rule:Option (List Cx)
 tree:Br
def CB(s:St):Aq×St:=
 (⟨nm s,(CL (Ih (FI (nmT s)).2).2).1,(FI (nmT s)).1,(Ih (FI (nmT s)).2).1,Sr (FI (nmT s)).2⟩,(CL (Ih (FI (nmT s)).2).2).2)
theorem Wl:∀(f:Nat) (s:St),ln (DX f s).2<=ln s
 |0,s=>wQ _
 |f+1,s=>by
  rw[DX];split
  ·exact wV (Wl f _) (Bg s)
  ·exact wQ _
section
variable {w:World} {p b S G:Nat} {s:St} {vR vO vI vU:Value} {names:List yF}
theorem sH(aP:DC w p b S G s vR vO vI vU names):Calls prog 133 #[.pointer (some ⟨p,0,none⟩)] w fun e w'=>∃bx x vL,e=.returned (.agg #[.string (CB s).1.name,bx,x,vL])/\DE w' w.heap.size bx (CB s).1.fields/\(CB s).1.fields.length<=802/\w'.ownsRow w.heap.size 9 1 x (CB s).1.impl.length (Bn (CB s).1.impl)/\(CB s).1.impl.length<=803/\Ho w' w.heap.size vL (CB s).1.rule (CB s).1.tree/\DefPost w w' p b S G (CB s).2 vR vO vI vU (names++[(CB s).1.name]):=by
 obtain⟨bw,bn,bt,bu,bv⟩:=info_parts info9';have bb:=Aa (Tf aP);have cy:=aP.pp.lt;have af:=Aa (CB.eq_1 s);have cj:ln (nmT s)<=801:=wV (Bg s) aP.ps.len;clear aP;generalize CB s=b8 at*;generalize nm s=n at*;generalize nmT s=s1 at*;have bd:=Aa (fun W (j:PS W b G s1)=>Lw W b G s1 Oz j);have Q:=Aa (FI.eq_1 s1);generalize FI s1=b0 at*;obtain⟨K,t⟩:=b0;simp only[]at af;have aX:=Aa (fun W (j:PS W b G t)=>EG W b G t 11 j);have L:=Aa (Ih.eq_1 t);have U:=Aa (Sr.eq_1 t);generalize Sr t=b6 at*;generalize Ih t=b4 at*;obtain⟨a8,aj⟩:=b4;simp only[]at af;have aH:=Aa (fun W (a2:PP W p b S) (j:PS W b G aj)=>Yp W p b S G aj a2 j);generalize CL aj=bN at*;obtain⟨bj,cE⟩:=bN;simp only[]at af aH;have aK:=Aa (fun W c (j:PS W b G c)=>Eh W b G c j);go_enter func133,ntmps133;go_wp2_with fail;refine(bb.o _).mono ?_;rintro _ w1 ⟨rfl,N,i⟩;have a3:=i _ _ rfl (by decide) (by decide) (by decide);have bz:=Aa N;have bE:=Aa a3;have bS:=Ab a3;have bf:=Aa ((N.pp.pq N.ps).al (.cells #[.string n,.slice none 0 0,.slice none 0 0,.pointer none] 149));have c1:=N.pp.c0;have bW:=N.pp.lt;have ch:=N.ps.lt;have ci:=N.hb;have cg:=N.hS;clear N i a3 bb;go_wp2_with fail;refine(bd.o _ bf.o.ps).mono ?_;rintro _ w2 ⟨rfl,bk,k2⟩;have aS:=bf.o.call bk k2;have E:=Aa aS;have aQ:=k2.at (wX w1 _) (by omega);have aJ:=Aa aQ;have aM:=Aa (k2.at ((AJ w1 _ _ bS).trans bE.o) (by omega));have aO:=Ac aQ;have bT:=Ab aQ;have c2:=aS.pp.c0;have cu:=aS.pp.lt;clear bk k2 aS aQ bd
 go_upto_if 12 with fail
 go_cut [] (fun wc=>∃x,PQ w1 wc p b S G t/\wc.heap[w1.heap.size]?=some (.cells #[.string n,.slice none 0 0,x,.pointer none] 149 (0,0))/\wc.heap[w.heap.size]?=some (.cells #[.string ⟨#[]⟩,.slice none 0 0,.slice none 0 0,.pointer none] 149 (0,0))/\wc.ownsRow (w1.heap.size+1) 9 1 x K.length (Bn K)/\K.length<=803)
 case first=>
  clear af L U aH aX;cases ai:Bu s1 Oz
  ·rw[ai]at E
   rw[ai]at Q;obtain⟨y,av⟩:K=[]/\t=s1:=by have:=Q.o;simpa using this
   subst y av;go_wp2;go_meet;exact⟨_,E.o,aJ.o,aM.o,xF _ _ _ _,by simp⟩
  ·rw[ai]at E
   rw[ai]at Q;rw[xH rfl]at Q;have cs:=Mn s1 Oz ai;have E:=Aa (show PQ w1 w2 p b S G (tl s1)from E.o);have am:=Aa (aK.o · (tl s1));have ck:=Bg (tl s1);generalize nm (tl s1)=aE at*;generalize nmT (tl s1)=X at*;clear ai;go_wp2;go_upto_region 3 with fail;go_cut [] (fun wc=>∃x,PQ w1 wc p b S G X/\wc.heap[w1.heap.size]?=some (.cells #[.string n,.slice none 0 0,x,.pointer none] 149 (0,0))/\wc.heap[w.heap.size]?=some (.cells #[.string ⟨#[]⟩,.slice none 0 0,.slice none 0 0,.pointer none] 149 (0,0))/\wc.ownsRow (w1.heap.size+1) 9 1 x 1 (Bn [aE]))
   case first=>
    go_region_law (first
     |(refine step_append_lies _ (by rfl) _ _ _ (by rfl) (w1.heap.size+1) 9 bw _ 1 16 underlying42 bn bt bu bv rfl (by decide) _ _ _ (by rfl) ((xF w6 (w1.heap.size+1) 9 1).alloc _) ⟨w6.heap.size,0,none⟩ 1 1 [.string aE] (by rfl) (by rfl) (cell_one_new _ _ _) (fun u P=>by simp at P;subst P;rfl) (by decide) (by unfold maxLen;omega) (by omega) (by simp;omega) (w6.heap.size+1) (by simp) ?_;intro g cap w7 aA O bP bQ;have F:=KS (xF w6 (w1.heap.size+1) 9 1) O (Nat.lt_succ_self _) r;have bL:=Ac F;have bM:=Ak F;have b2:=Ab F)
     |(go_simp;go_at_call 131;refine(am.o _ ?_).mono ?_;(first|exact E.o.dr.ps|exact E.o.ps);rintro _ w6 ⟨rfl,J,h⟩;have l:PQ w1 w6 p b S G X:=(by first|exact E.o.dr.call J h|exact E.o.call J h);have r:=h.at aJ.o (by omega);have bK:=Ac r;have b1:=Ab r;have b7:=l.pp.lt))
    all_goals(
     have H:=h.at aM.o (by omega);have M:=Aa (xZ (l.app (xF w6 (w1.heap.size+1) 9 1) O (wQ _) (Nat.le_succ _) 2 (.slice (some ⟨g,0,none⟩) 1 cap)) (xZ (AI F 2 (.slice (some ⟨g,0,none⟩) 1 cap)) (xZ (LM (xF w6 (w1.heap.size+1) 9 1) O (show w.heap.size<w1.heap.size+1 by omega) H (show w.heap.size≠w1.heap.size by omega) 2 (.slice (some ⟨g,0,none⟩) 1 cap)) (IE aA (Nat.lt_succ_self _) 2 (.slice (some ⟨g,0,none⟩) 1 cap)))));clear O aA J h r H l F;go_wp2;go_meet;exact⟨_,M.o.1,M.o.2.1,M.o.2.2.1,M.o.2.2.2⟩)
   case rest=>
    obtain⟨x,q,z,i,A⟩:=hcut;have aa:=Aa q;have bc:=Aa z;have aq:=Aa i;have ao:=Aa A;clear q z i A E aJ aM aO c2 am;go_wp2;go_loopg [] (ln X) (fun k wr=>∃(D:List yF) (x:Value) (c:St) (f:Nat),ln c<=k/\ln c<=f/\PQ w1 wr p b S G c/\wr.heap[w1.heap.size]?=some (.cells #[.string n,.slice none 0 0,x,.pointer none] 149 (0,0))/\wr.heap[w.heap.size]?=some (.cells #[.string ⟨#[]⟩,.slice none 0 0,.slice none 0 0,.pointer none] 149 (0,0))/\wr.ownsRow (w1.heap.size+1) 9 1 x D.length (Bn D)/\D.length+ln c<=803/\(aE::(DX 801 X).1,(DX 801 X).2)=(D++(DX f c).1,(DX f c).2))
    case atStart=>exact⟨[aE],_,X,801,wQ _,by omega,aa.o,bc.o,aq.o,ao.o,by simp;omega,rfl⟩
    case round=>
     obtain⟨D,x,c,f,cr,cq,q,z,i,A,cp,bq⟩:=hrel;obtain⟨b9,cc,rfl⟩:=An A;have aY:=Aa q;have aU:=Aa z;have aW:=Aa i;have aV:=Aa A;have aI:=Aa bq;have c3:=q.pp.c0;have bX:=q.pp.lt;have bo:=Ab z;have bp:=Ab i;have az:=Aa (Hg wr b G c 1 q.ps);clear q z i A bq aa bc aq ao;cases y:Ae c 1
     ·rw[y]at az
      have aG:=Aa (show K=D/\t=c from by
       have a:=Q.o;have b:=aI.o;rw[pY f c y,List.append_nil]at b;rw[b]at a;simpa using a)
      clear y aI Q;go_wp2_with fail;refine az.o.mono ?_;rintro _ w4 ⟨rfl,I⟩;go_wp2;go_meet;rw[aG.o.1,aG.o.2];exact⟨_,aY.o.be I,(I.block _ bo).trans aU.o,(I.block _ bp).trans aW.o,AT aV.o I,by omega⟩
     ·rw[y]at az
      have ct:=Li c y;obtain⟨aw,rfl⟩:∃aw,f=aw+1:=⟨f-1,by omega⟩;have aG:=Aa (show(aE::(DX 801 X).1,(DX 801 X).2)=(D++(nm c::(DX aw (nmT c)).1),(DX aw (nmT c)).2)from by rw[aI.o,DX,xH y]);have Y:=Aa (aK.o · c);clear y aI aK Q;generalize nm c=m at*;generalize nmT c=a9 at*;go_wp2_with fail;refine az.o.mono ?_;rintro _ w4 ⟨rfl,I⟩;have d:=Aa (aY.o.be I);have V:=(I.block _ bo).trans aU.o;have ae:=Aa V;have ag:=Aa ((I.block _ bp).trans aW.o);have Z:=Aa (AT aV.o I);have cd:=Ac V;have bU:=Ab V;have c4:=d.o.pp.c0;have bY:=d.o.pp.lt;clear I V aY aU aW aV az c3;go_wp2;go_region_law (first
       |(refine step_append_lies _ (by rfl) _ _ _ (by rfl) (w1.heap.size+1) 9 bw _ 1 16 underlying42 bn bt bu bv rfl (by decide) _ _ _ (by rfl) (ay.alloc _) ⟨w6.heap.size,0,none⟩ 1 1 [.string m] (by rfl) (by rfl) (cell_one_new _ _ _) (fun u P=>by simp at P;subst P;rfl) (by decide) (by unfold maxLen;omega) (by omega) (by simp;omega) (w6.heap.size+1) (by simp) ?_;intro g cap w7 aA O bP bQ;have F:=KS ay O (Nat.lt_succ_self _) r;have bL:=Ac F;have bM:=Ak F;have b2:=Ab F)
       |(go_simp;go_at_call 131;refine(Y.o _ ?_).mono ?_;(first|exact d.o.dr.ps|exact d.o.ps);rintro _ w6 ⟨rfl,J,h⟩;have l:PQ w1 w6 p b S G a9:=(by first|exact d.o.dr.call J h|exact d.o.call J h);have r:=h.at ae.o (by omega);have bK:=Ac r;have ay:=(by first|exact d.o.dr.own h Z.o (Nat.le_succ _)|exact d.o.own h Z.o (Nat.le_succ _));have b1:=Ab r;have b7:=l.pp.lt))
      all_goals(
       have H:=h.at ag.o (by omega);have M:=Aa (xZ (l.app ay O (wQ _) (Nat.le_succ _) 2 (.slice (some ⟨g,0,none⟩) (D.length+1) cap)) (xZ (AI F 2 (.slice (some ⟨g,0,none⟩) (D.length+1) cap)) (xZ (LM ay O (show w.heap.size<w1.heap.size+1 by omega) H (show w.heap.size≠w1.heap.size by omega) 2 (.slice (some ⟨g,0,none⟩) (D.length+1) cap)) (IE aA (Nat.lt_succ_self _) 2 (.slice (some ⟨g,0,none⟩) (D.length+1) cap)))));clear O aA J h ay r H l F;go_wp2;go_roundg (ln a9)
       case measure=>omega
       case rel=>exact⟨D++[m],_,a9,aw,wQ _,by omega,M.o.1,M.o.2.1,M.o.2.2.1,by rw[Oa,xJ];exact M.o.2.2.2,by simp;omega,by rw[aG.o];simp⟩)
 case rest=>
  obtain⟨x,q,z,i,A,bR⟩:=hcut;obtain⟨aZ,a0,rfl⟩:=An A;have aa:=Aa q;have am:=Aa z;have aq:=Aa i;have ao:=Aa A;have c3:=q.pp.c0;have bX:=q.pp.lt;clear q z i A E aJ aM aO c2 aK Q;go_wp2_with fail;refine(aX.o _ aa.o.ps).mono ?_;rintro _ w4 ⟨rfl,bl,aB⟩;have d:=Aa (aa.o.call bl aB);have V:=aB.at am.o (by omega);have ae:=Aa V;have ag:=Aa (aB.at aq.o (by omega));have Z:=Aa (aa.o.own aB ao.o (Nat.le_succ _));have bU:=Ab V;have c4:=d.o.pp.c0;have bY:=d.o.pp.lt;clear bl aB V aa am aq ao c3 aX
  go_upto_if 42 with fail
  go_cut [] (fun wc=>∃q,PQ w1 wc p b S G aj/\wc.heap[w1.heap.size]?=some (.cells #[.string n,.slice none 0 0,.slice aZ K.length a0,.pointer q] 149 (0,0))/\wc.heap[w.heap.size]?=some (.cells #[.string ⟨#[]⟩,.slice none 0 0,.slice none 0 0,.pointer none] 149 (0,0))/\wc.ownsRow (w1.heap.size+1) 9 1 (.slice aZ K.length a0) K.length (Bn K)/\Ho wc (w1.heap.size+1) (.pointer q) a8 b6)
  case first=>
   clear af aH;cases a1:Ae t 11
   ·rw[a1]at L d
    obtain⟨y,av⟩:a8=none/\aj=t:=by have:=L.o;simpa using this
    subst y av;go_wp2;go_meet;exact⟨none,d.o,ae.o,ag.o,Z.o,rfl⟩
   ·rw[a1]at L U d
    rw[xH rfl]at L U;have d:=Aa (show PQ w1 w4 p b S G (tl t)from d.o);have a5:=tH 802 (JM (tl t));rw[<-a5.1,<-a5.2,JM]at L;rw[JM]at U;clear a1 a5;generalize tl t=ak at*;have bJ:=Aa (fun W (j:PS W b G ak)=>Pw W b G ak Nd j);have bA:=Aa (fun W (j:PS W b G (mustT ak (Bu ak Nd)))=>Cj W b G _ 7 j);generalize mustT ak (Bu ak Nd)=aF at*;generalize (Ay aF 7).k=cB at*;generalize (Ay aF 7).n=cC at*;generalize (Ay aF 7).s=cD at*;generalize mustT aF (Ae aF 7)=ba at*;have au:=Aa (fun W (a2:PP W p b S) (j:PS W b G ba)=>tG W p b S G ba a2 j);generalize Of 802 ba=b3 at*;obtain⟨b5,ad⟩:=b3;simp only[]at L U au;have bC:=Aa (fun W (j:PS W b G ad)=>Cj W b G ad 8 j);generalize (Ay ad 8).k=mk at*;generalize (Ay ad 8).n=cz at*;generalize (Ay ad 8).s=cA at*;obtain⟨y,av⟩:a8=some (Dz b5)/\aj=mustT ad (Ae ad 8):=by have:=L.o;simpa using this
    subst y av;go_wp2_with fail;refine(bJ.o _ d.o.ps).mono ?_;rintro _ w5 ⟨rfl,bm,aC⟩;have C:=Aa (d.o.call bm aC);have Y:=Aa (aC.at ae.o (by omega));have ar:=Aa (aC.at ag.o (by omega));have ap:=Aa (d.o.own aC Z.o (Nat.le_succ _));have ca:=C.o.pp.c0;have cv:=C.o.pp.lt;clear bm aC ae ag Z;go_wp2_with fail;refine(bA.o _ C.o.ps).mono ?_;rintro _ w6 ⟨rfl,J,h⟩;have ah:=Aa (C.o.call J h);have aT:=Aa (h.at Y.o (by omega));have aN:=Aa (h.at ar.o (by omega));have aL:=Aa (C.o.own h ap.o (Nat.le_succ _));have bV:=Ab aT.o;clear J h Y ar ap;go_wp2_with fail;refine(au.o _ ah.o.pp ah.o.ps).mono ?_;rintro _ w7 ⟨u,rfl,P,ab⟩;obtain⟨aR,rfl⟩:=P.ptr;have bg:=Aa (ah.o.tr ab);have ax:=ab.kp.at aT.o (by omega);have bB:=Aa ax;have bF:=Aa (ab.kp.at aN.o (by omega));have bD:=Aa (ah.o.own ab.kp aL.o (Nat.le_succ _));have bH:=Aa (P.imp (R:=fun k=>w1.heap.size+1<=k) (fun k a4 _=>wV bV a4));have aO:=Ac ax;have fN:=Ak ax;have cm:=Ab ax;have cb:=ab.pp.c0;have cw:=ab.pp.lt;have cx:p<w1.heap.size:=bW;clear P ab ax aT aN aL;go_wp2_with fail;refine(bC.o _ (bg.o.st ⟨w1.heap.size,3,none⟩ (wQ _) (.pointer (some ⟨aR,0,none⟩))).ps).mono ?_;rintro _ w8 ⟨rfl,bO,aD⟩;go_wp2;go_meet;have a7:=(bg.o.st ⟨w1.heap.size,3,none⟩ (wQ _) (.pointer (some ⟨aR,0,none⟩)));have bs:∀T,Ap T (w1.heap.size+1) w7 (w7.setCell ⟨w1.heap.size,3,none⟩ (.pointer (some ⟨aR,0,none⟩))):=fun T=>Ap.set (Nat.lt_succ_self _) 3 _;refine⟨some ⟨aR,0,none⟩,a7.call bO aD,aD.at (AI bB.o 3 _) (by omega),aD.at ((xC _ _ _ _ (show w.heap.size≠w1.heap.size by omega)).trans bF.o) (by omega),a7.own aD (IE bD.o (Nat.lt_succ_self _) 3 _) (Nat.le_succ _),?_,by rw[U.o]⟩;rw[U.o];exact((bH.o.stays (bs _) (bs _)).keep a7.ps aD (fun k a4 _=>a4))
  case rest=>
   obtain⟨qr,q,z,i,A,br⟩:=hcut;have C:=Aa q;have Y:=Aa z;have ar:=Aa i;have ap:=Aa A;have au:=Aa br;have cl:=Ab z;have co:=Ab i;clear q z i A br d ae ag Z L U c4;go_wp2_with fail;refine(aH.o _ C.o.pp C.o.ps).mono ?_;rintro _ w6 ⟨v,rfl,a6,bZ,l⟩;obtain⟨bh,bi,rfl⟩:=a6.slice;have ah:=Aa (C.o.tr l);have r:=l.kp.at Y.o (by omega);have H:=l.kp.at ar.o (by omega);have aN:=Aa H;have aL:=Aa (C.o.own l.kp ap.o (Nat.le_succ _));have bG:=Aa (au.o.stays (C.o.stay l.kp) (C.o.stay l.kp));have bI:=Aa a6;have aO:=Ac r;have fN:=Ak r;have ce:=Ac H;have cf:=Ak H;have bT:=Ab r;have cn:=Ab H;clear a6 l r H Y ar ap au;go_wp2_with fail;rw[af.o];refine bodyPost_ret (v:=.agg #[.string n,.slice bh bj.length bi,.slice aZ K.length a0,.pointer qr]) (by simp[results,results133,go_sem, *]) rfl ⟨_,_,_,rfl,?_,bZ,?_,bR,?_,?_⟩
   ·refine(bI.o.stays ?_ ?_).mono (show w.heap.size<=wc.heap.size by omega)
    all_goals repeat' with_reducible first|exact Ap.refl _ _ _|refine Ap.set3 ?_ (show _<wc.heap.size by omega) _ _
   ·refine FE (B:=w1.heap.size+1) ?_ (by omega)
    repeat' with_reducible first|exact aL.o|refine IE ?_ (show _<w1.heap.size+1 by omega) _ _
   ·refine(bG.o.stays ?_ ?_).mono (show w.heap.size<=w1.heap.size+1 by omega)
    all_goals repeat' with_reducible first|exact Ap.refl _ _ _|refine Ap.set3 ?_ (show _<w1.heap.size+1 by omega) _ _
   ·exact((bz.o.pq (ah.o.st ⟨w1.heap.size,1,none⟩ (wQ _) (.slice bh bj.length bi))).off ((xC _ _ _ _ (show w.heap.size≠w1.heap.size by omega)).trans aN.o) (by decide) (wQ _) (((((Ag.refl _ _).setCell 0 _).setCell 1 _).setCell 2 _).setCell 3 _)).toDefPost
end
end Go.Proofs.YtogdodlibkckkaaGreatDoor
