import Derived.Test.YtogdodlibkckkaaGreatDoorZ07
import Derived.Deep.DeepCutAuto
namespace Go.Proofs.YtogdodlibkckkaaGreatDoor
set_option maxHeartbeats 20000000
set_option maxRecDepth 100000
open Go.RowKit Tryz
attribute [local go_sem ↓] Go.wp_at_zero Go.wp_at_succ
theorem DE.slice{w:World}{B:Nat}{v:Value}{l:List Am}(b:DE w B v l):∃a c,v=.slice a l.length c:=by
 obtain⟨g,e,d,_⟩:=b;obtain⟨a,c,f⟩:=An d;exact⟨a,c,by rw[f,<-e];simp⟩
structure DefPost(w w':World)(p b S G:Nat)(s':St)(vR vO vI vU:Value)(names:List yF):Prop where
 ps:PS w' b G s'
 pp:PP w' p b S
 ky:AZ b S w w'
 sc:∃vN',SC w' S vR vO vI vU vN'/\w'.ownsRow S 132 1 vN' names.length (Bn names)
structure KJ(w X:World)(p b S G:Nat)(s:St)(vR vO vI vU:Value)(names:List yF):Prop extends DefPost w X p b S G s vR vO vI vU names where
 hb:b<S
 hg:G<S
 hS:S<w.heap.size
 hp:p<w.heap.size
section
variable {w X Y:World} {p b S G F:Nat} {s s':St} {vR vO vI vU:Value} {names:List yF}
theorem KJ.pq(a:KJ w X p b S G s vR vO vI vU names)(q:PQ X Y p b S G s'):KJ w Y p b S G s' vR vO vI vU names:=by
 obtain⟨cs,e⟩:=a.ps.ty;obtain⟨f,c,d⟩:=a.sc;exact⟨⟨q.ps,q.pp,a.ky.trans (AZ.of_keep q.kp e),f,q.kp.at c (by have:=a.hb;omega),CE d (a.ps.stay q.kp)⟩,a.hb,a.hg,a.hS,a.hp⟩
theorem KJ.off{cs:Array Value}{T:TypeId}{m:Nat×Nat}(a:KJ w X p b S G s vR vO vI vU names)(hF:X.heap[F]?=some (.cells cs T m))(r:T≠132)(x:w.heap.size<=F)(d:Ag F X Y):KJ w Y p b S G s vR vO vI vU names:=by
 obtain⟨v,g,e⟩:=a.sc;have hb:=a.hb;have t:=a.hg;have q:=a.hS;have u:=a.hp;refine⟨⟨a.ps.move (d.block b a.ps.lt (by omega)) (d.block G a.ps.glt (by omega)) d.size,(d.block p a.pp.lt (by omega)).trans a.pp,?_,v,d.at g (by omega),CE e (Ap.of_keep d hF r)⟩,hb,t,q,u⟩;exact⟨wV a.ky.size d.size,fun k c T f h i j l=>d.at (a.ky.block k c T f h i j l) (by have:=Ab h;omega),d.os.trans a.ky.os,d.tape.trans a.ky.tape,d.output.trans a.ky.output,fun k g e n=>(d.block k (xA e a.ky.size) (by omega)).trans (a.ky.low k g e n)⟩
end
structure DC(w:World)(p b S G:Nat)(s:St)(vR vO vI vU:Value)(names:List yF):Prop where
 pp:PP w p b S
 ps:PS w b G s
 sc:∃vN,SC w S vR vO vI vU vN/\w.ownsRow S 132 1 vN names.length (Bn names)
 hb:b<S
 hg:G<S
 nl:names.length<=100000
section
variable {w:World} {p b S G:Nat} {s:St} {vR vO vI vU:Value} {names:List yF}
theorem Tf(a:DC w p b S G s vR vO vI vU names)(o:Obj):Calls prog 178 #[.pointer (some ⟨p,0,none⟩)] (w.alloc o) fun e w'=>e=.returned (.agg #[.string (nm s)])/\KJ w w' p b S G (nmT s) vR vO vI vU (names++[nm s])/\∀cs T,o=.cells cs T (0,0)->T≠215->T≠141->T≠132->w'.heap[w.heap.size]?=some o:=by
 obtain⟨q,d,k⟩:=a.sc;have f:=Ab d;refine(sJ (w.alloc o) p b S G s vR vO vI vU q names (a.pp.alloc o) (a.ps.alloc o) ((AJ _ _ _ f).trans d) (k.alloc o) a.hb a.hg a.nl).mono ?_;rintro _ w1 ⟨r,rfl,g,h,i,j,c⟩;refine⟨rfl,⟨⟨g,h,((AZ.refl b S w).alloc o).trans c,r,i,by rw[xJ];exact j⟩,a.hb,a.hg,f,a.pp.lt⟩,fun cs T e l m n=>?_⟩;subst e;exact c.block _ _ _ _ (wX w _) l m n
theorem sF(h:DC w p b S G s vR vO vI vU names):Calls prog 134 #[.pointer (some ⟨p,0,none⟩)] w fun e w'=>∃v,e=.returned (.agg #[.string (nm s),v])/\DE w' w.heap.size v (CL (nmT s)).1/\(CL (nmT s)).1.length<=802/\DefPost w w' p b S G (CL (nmT s)).2 vR vO vI vU (names++[nm s]):=by
 have l:=Aa (Tf h);have T:=h.pp.lt;have u:=Aa (fun W (F:PP W p b S) (hs:PS W b G (nmT s))=>Yp W p b S G (nmT s) F hs);clear h;generalize nm s=n at*;generalize CL (nmT s)=k at*;go_enter func134,ntmps134;go_wp2_with fail;refine(l.o _).mono ?_;rintro _ w1 ⟨rfl,a,r⟩;have i:=r _ _ rfl (by decide) (by decide) (by decide);have t:=Aa a;have B:=Aa i;have H:=Ab i;have g:=Aa ((a.pp.pq a.ps).al (.cells #[.string n,.slice none 0 0] 268));have O:=a.ps.lt;have P:=a.hb;have N:=a.hS;clear a r i l;go_wp2_with fail;refine(u.o _ g.o.pp g.o.ps).mono ?_;rintro _ w2 ⟨v,rfl,j,I,f⟩;obtain⟨m,q,rfl⟩:=j.slice;have E:=Aa (g.o.tr f);have c:=f.kp.at (wX w1 _) (by omega);have d:=f.kp.at ((AJ w1 _ _ H).trans B.o) (by omega);have J:=Aa c;have C:=Aa d;have D:=Aa j;have K:=Ac c;have fN:=Ak c;have L:=Ac d;have M:=Ak d;have Q:=Ab c;have R:=Ab d;clear j f c d;go_wp2_with fail;have A:Hi (∀x y z,Ag w.heap.size (w2.setCell ⟨w1.heap.size,1,none⟩ z) (((w2.setCell ⟨w1.heap.size,1,none⟩ z).setCell ⟨w.heap.size,0,none⟩ x).setCell ⟨w.heap.size,1,none⟩ y)):=Aa (fun x y z=>((Ag.refl _ _).setCell 0 x).setCell 1 y);refine bodyPost_ret (v:=.agg #[.string n,.slice m k.1.length q]) (by simp[results,results134,go_sem, *]) rfl ⟨_,rfl,?_,I,?_⟩
 ·refine(D.o.stays ?_ ?_).mono (show w.heap.size<=(w1.alloc _).heap.size by simp;omega)
  all_goals repeat' with_reducible first|exact Ap.refl _ _ _|refine Ap.set3 ?_ (show _<(w1.alloc _).heap.size by simp;try omega) _ _
 ·exact((t.o.pq (E.o.st ⟨w1.heap.size,1,none⟩ (wQ _) (.slice m k.1.length q))).off ((xC _ _ _ _ (show w.heap.size≠w1.heap.size by omega)).trans C.o) (by decide) (wQ _) (A.o _ _ _)).toDefPost
end
attribute [local go_sem ↓] Go.wp_at_zero Go.wp_at_succ
def DY:Nat->St->List yF×St
 |0,s=>([],s)
 |f+1,s=>if Ae s 16=true then(nm (tl s)::(DY f (nmT (tl s))).1,(DY f (nmT (tl s))).2)else([],s)
theorem qB(f:Nat)(s:St)(a:Ae s 16=false):DY f s=([],s):=by
 cases f with
 |zero=>rfl
 |succ f=>rw[DY,xG (by rw[a];simp)]
def EW(s:St):List yF×St:=(nm (mustT s (Ae s 10))::(DY 801 (nmT (mustT s (Ae s 10)))).1,(DY 801 (nmT (mustT s (Ae s 10)))).2)
section
variable {w:World} {p b S G:Nat} {s:St} {vR vO vI vU:Value} {names:List yF}
theorem sN(X:DC w p b S G s vR vO vI vU names):Calls prog 135 #[.pointer (some ⟨p,0,none⟩)] w fun e w'=>∃v,e=.returned (.agg #[.string (nm s),v])/\w'.ownsRow w.heap.size 9 1 v (EW (nmT s)).1.length (Bn (EW (nmT s)).1)/\(EW (nmT s)).1.length<=803/\DefPost w w' p b S G (EW (nmT s)).2 vR vO vI vU (names++[nm s]):=by
 obtain⟨aH,aC,aE,aF,aG⟩:=info_parts info9';have ak:=Aa (Tf X);have bi:=X.pp.lt;have au:=Aa (EW.eq_1 (nmT s));have a4:ln (mustT (nmT s) (Ae (nmT s) 10))<=801:=wV (DA _ _) (wV (Bg s) X.ps.len);clear X;generalize EW (nmT s)=aJ at*;generalize nm s=n at*;generalize nmT s=s1 at*;have am:=Aa (fun W (hs:PS W b G s1)=>Cj W b G s1 10 hs);generalize (Ay s1 10).k=bj at*;generalize (Ay s1 10).n=bk at*;generalize (Ay s1 10).s=bl at*;generalize mustT s1 (Ae s1 10)=aa at*;have ad:=Aa (fun W a (hs:PS W b G a)=>Eh W b G a hs);have ao:=Aa (ad.o · aa);have a5:=Bg aa;generalize nm aa=T at*;generalize nmT aa=A at*;go_enter func135,ntmps135;go_wp2_with fail;refine(ak.o _).mono ?_;rintro _ w1 ⟨rfl,r,z⟩;have ai:=z _ _ rfl (by decide) (by decide) (by decide);have aI:=Aa r;have aM:=Aa ai;have aU:=Ab ai;have ax:=Aa ((r.pp.pq r.ps).al (.cells #[.string n,.slice none 0 0] 271));have c1:=r.pp.c0;have bd:=r.pp.lt;have a2:=r.ps.lt;have a3:=r.hb;have a1:=r.hS;clear r z ai ak;go_wp2_with fail;refine(am.o _ ax.o.ps).mono ?_;rintro _ w2 ⟨rfl,aB,k2⟩;have Z:=ax.o.call aB k2;have H:=Aa Z;have Y:=k2.at (wX w1 _) (by omega);have ap:=Aa Y;have av:=Aa (k2.at ((AJ w1 _ _ aU).trans aM.o) (by omega));have aO:=Ac Y;have a6:=Ab Y;have c2:=Z.pp.c0;have bf:=Z.pp.lt;clear aB k2 Z Y am;go_upto_region 3 with fail;go_cut [] (fun wc=>∃vI,PQ w1 wc p b S G A/\wc.heap[w1.heap.size]?=some (.cells #[.string n,vI] 271 (0,0))/\wc.heap[w.heap.size]?=some (.cells #[.string ⟨#[]⟩,.slice none 0 0] 271 (0,0))/\wc.ownsRow (w1.heap.size+1) 9 1 vI 1 (Bn [T]))
 case first=>
  go_region_law (first
   |(refine step_append_lies _ (by rfl) _ _ _ (by rfl) (w1.heap.size+1) 9 aH _ 1 16 underlying42 aC aE aF aG rfl (by decide) _ _ _ (by rfl) ((xF w6 (w1.heap.size+1) 9 1).alloc _) ⟨w6.heap.size,0,none⟩ 1 1 [.string T] (by rfl) (by rfl) (cell_one_new _ _ _) (fun u R=>by simp at R;subst R;rfl) (by decide) (by unfold maxLen;omega) (by omega) (by simp;omega) (w6.heap.size+1) (by simp) ?_;intro g cap w7 Q x aS aT;have h:=KS (xF w6 (w1.heap.size+1) 9 1) x (Nat.lt_succ_self _) t;have aQ:=Ac h;have aR:=Ak h;have aX:=Ab h)
   |(go_simp;go_at_call 131;refine(ao.o _ ?_).mono ?_;(first|exact H.o.dr.ps|exact H.o.ps);rintro _ w6 ⟨rfl,D,d⟩;have E:PQ w1 w6 p b S G A:=(by first|exact H.o.dr.call D d|exact H.o.call D d);have t:=d.at ap.o (by omega);have aN:=Ac t;have aW:=Ab t;have aY:=E.pp.lt))
  all_goals(
   have O:=d.at av.o (by omega);have l:=Aa (xZ (E.app (xF w6 (w1.heap.size+1) 9 1) x (wQ _) (Nat.le_succ _) 1 (.slice (some ⟨g,0,none⟩) 1 cap)) (xZ (AI h 1 (.slice (some ⟨g,0,none⟩) 1 cap)) (xZ (LM (xF w6 (w1.heap.size+1) 9 1) x (show w.heap.size<w1.heap.size+1 by omega) O (show w.heap.size≠w1.heap.size by omega) 1 (.slice (some ⟨g,0,none⟩) 1 cap)) (IE Q (Nat.lt_succ_self _) 1 (.slice (some ⟨g,0,none⟩) 1 cap)))));clear x Q D d t O E h;go_wp2;go_meet;exact⟨_,l.o.1,l.o.2.1,l.o.2.2.1,l.o.2.2.2⟩)
 case rest=>
  obtain⟨vI,q,L,z,F⟩:=hcut;have ay:=Aa q;have aq:=Aa L;have aw:=Aa z;have ar:=Aa F;clear q L z F H ap av aO c2 ao;go_wp2;go_loopg [] (ln A) (fun k wr=>∃(c:List yF) (vI:Value) (a:St) (f:Nat),ln a<=k/\ln a<=f/\PQ w1 wr p b S G a/\wr.heap[w1.heap.size]?=some (.cells #[.string n,vI] 271 (0,0))/\wr.heap[w.heap.size]?=some (.cells #[.string ⟨#[]⟩,.slice none 0 0] 271 (0,0))/\wr.ownsRow (w1.heap.size+1) 9 1 vI c.length (Bn c)/\c.length+ln a<=803/\(T::(DY 801 A).1,(DY 801 A).2)=(c++(DY f a).1,(DY f a).2))
  case atStart=>exact⟨[T],_,A,801,wQ _,by omega,ay.o,aq.o,aw.o,ar.o,by simp;omega,rfl⟩
  case round=>
   obtain⟨c,vI,a,f,ba,a9,q,L,z,F,a8,aD⟩:=hrel;obtain⟨az,aA,rfl⟩:=An F;have I:=Aa q;have ae:=Aa L;have ah:=Aa z;have af:=Aa F;have U:=Aa aD;have c3:=q.pp.c0;have bg:=q.pp.lt;have P:=Aa (EG wr b G a 16 q.ps);clear q L z F aD ay aq aw ar;cases C:Ae a 16
   ·rw[C]at P
    have ab:=Aa (show aJ=(c,a)from by rw[au.o,U.o,qB f a C];simp);clear C U au;go_wp2_with fail;refine P.o.mono ?_;rintro _ w4 ⟨rfl,K,i⟩;have j:=Aa (show PQ w1 w4 p b S G a from I.o.call K i);have y:=i.at ae.o (by omega);have N:=i.at ah.o (by omega);have ag:=Aa N;have V:=Aa (I.o.own i af.o (Nat.le_succ _));have aP:=Ac y;have aZ:=Ac N;have a0:=Ak N;have aV:=Ab y;have a7:=Ab N;clear K i y N;go_wp2_with fail;rw[ab.o];refine bodyPost_ret (v:=.agg #[.string n,.slice az c.length aA]) (by simp[results,results135,go_sem, *]) rfl ⟨.slice az c.length aA,rfl,?_,by show c.length<=803;omega,?_⟩
    ·refine FE (B:=w1.heap.size+1) ?_ (by omega)
     repeat' with_reducible first|exact V.o|refine IE ?_ (show w.heap.size<w1.heap.size+1 by omega) _ _
    ·exact((aI.o.pq j.o).off ag.o (by decide) (wQ _) (((Ag.refl _ _).setCell 0 _).setCell 1 _)).toDefPost
   ·rw[C]at P
    have bb:=ET a 16 (by decide) C;have bc:=Bg (tl a);obtain⟨J,rfl⟩:∃J,f=J+1:=⟨f-1,by omega⟩;have ab:=Aa (show(T::(DY 801 A).1,(DY 801 A).2)=(c++(nm (tl a)::(DY J (nmT (tl a))).1),(DY J (nmT (tl a))).2)from by rw[U.o,DY,xH C]);have aL:=Aa (ad.o · (tl a));clear C U ad;generalize nm (tl a)=m at*;generalize nmT (tl a)=aj at*;go_wp2_with fail;refine P.o.mono ?_;rintro _ w4 ⟨rfl,K,i⟩;have j:=Aa (show PQ w1 w4 p b S G (tl a)from I.o.call K i);have y:=i.at ae.o (by omega);have aK:=Aa y;have ag:=Aa (i.at ah.o (by omega));have V:=Aa (I.o.own i af.o (Nat.le_succ _));have aP:=Ac y;have aV:=Ab y;have c4:=j.o.pp.c0;have bh:=j.o.pp.lt;clear K i y I ae ah af P c3;go_wp2;go_region_law (first
     |(refine step_append_lies _ (by rfl) _ _ _ (by rfl) (w1.heap.size+1) 9 aH _ 1 16 underlying42 aC aE aF aG rfl (by decide) _ _ _ (by rfl) (M.alloc _) ⟨w6.heap.size,0,none⟩ 1 1 [.string m] (by rfl) (by rfl) (cell_one_new _ _ _) (fun u R=>by simp at R;subst R;rfl) (by decide) (by unfold maxLen;omega) (by omega) (by simp;omega) (w6.heap.size+1) (by simp) ?_;intro g cap w7 Q x aS aT;have h:=KS M x (Nat.lt_succ_self _) t;have aQ:=Ac h;have aR:=Ak h;have aX:=Ab h)
     |(go_simp;go_at_call 131;refine(aL.o _ ?_).mono ?_;(first|exact j.o.dr.ps|exact j.o.ps);rintro _ w6 ⟨rfl,D,d⟩;have E:PQ w1 w6 p b S G aj:=(by first|exact j.o.dr.call D d|exact j.o.call D d);have t:=d.at aK.o (by omega);have aN:=Ac t;have M:=(by first|exact j.o.dr.own d V.o (Nat.le_succ _)|exact j.o.own d V.o (Nat.le_succ _));have aW:=Ab t;have aY:=E.pp.lt))
    all_goals(
     have O:=d.at ag.o (by omega);have l:=Aa (xZ (E.app M x (wQ _) (Nat.le_succ _) 1 (.slice (some ⟨g,0,none⟩) (c.length+1) cap)) (xZ (AI h 1 (.slice (some ⟨g,0,none⟩) (c.length+1) cap)) (xZ (LM M x (show w.heap.size<w1.heap.size+1 by omega) O (show w.heap.size≠w1.heap.size by omega) 1 (.slice (some ⟨g,0,none⟩) (c.length+1) cap)) (IE Q (Nat.lt_succ_self _) 1 (.slice (some ⟨g,0,none⟩) (c.length+1) cap)))));clear x Q D d M t O E h;go_wp2;go_roundg (ln aj)
     case measure=>omega
     case rel=>exact⟨c++[m],_,aj,J,wQ _,by omega,l.o.1,l.o.2.1,l.o.2.2.1,by rw[Oa,xJ];exact l.o.2.2.2,by simp;omega,by rw[ab.o];simp⟩)
end
attribute [local go_sem ↓] Go.wp_at_zero Go.wp_at_succ
def DX:Nat->St->List yF×St
 |0,s=>([],s)
 |f+1,s=>if Ae s 1=true then(nm s::(DX f (nmT s)).1,(DX f (nmT s)).2)else([],s)
theorem pY(f:Nat)(s:St)(a:Ae s 1=false):DX f s=([],s):=by
 cases f with
 |zero=>rfl
 |succ f=>rw[DX,xG (by rw[a];simp)]
def FI(s:St):List yF×St:=
 if Bu s Oz=true then(nm (tl s)::(DX 801 (nmT (tl s))).1,(DX 801 (nmT (tl s))).2)else([],s)
def JM(s:St):St:=mustT (mustT s (Bu s Nd)) (Ae (mustT s (Bu s Nd)) 7)
def Ih(s:St):Option (List Cx)×St:=
 if Ae s 11=true then(some (PU 802 (JM (tl s))).1,mustT (PU 802 (JM (tl s))).2 (Ae (PU 802 (JM (tl s))).2 8))else(none,s)
def Sr(s:St):Br:=if Ae s 11=true then(Of 802 (JM (tl s))).1 else .all
def Ho(w:World)(B:Nat)(v:Value):Option (List Cx)->Br->Prop
 |none,_=>v=.pointer none
 |some l,t=>BG w (fun k=>B<=k) v t/\Dz t=l
section
variable {w w':World} {B C:Nat} {v:Value} {o:Option (List Cx)} {t:Br}
theorem Ho.stays(a:Ho w B v o t)(b:Ap 206 B w w')(c:Ap 147 B w w'):Ho w' B v o t:=by
 cases o with
 |none=>exact a
 |some l=>exact⟨BG.stays b c a.1,a.2⟩
theorem Ho.ptr(a:Ho w B v o t):∃q,v=.pointer q:=by
 cases o with
 |none=>exact⟨none,a⟩
 |some l=>obtain⟨k,b⟩:=BG.ptr a.1;exact⟨_,b⟩
theorem Ho.mono(a:Ho w B v o t)(b:C<=B):Ho w C v o t:=by
 cases o with
 |none=>exact a
 |some l=>exact⟨a.1.imp (fun k c _=>wV b c),a.2⟩
end
structure Aq where
 name:yF
 fields:List Am
 impl:List yF
 rule:Option (List Cx)
 tree:Br
def CB(s:St):Aq×St:=
 (⟨nm s,(CL (Ih (FI (nmT s)).2).2).1,(FI (nmT s)).1,(Ih (FI (nmT s)).2).1,Sr (FI (nmT s)).2⟩,(CL (Ih (FI (nmT s)).2).2).2)
theorem Wl:∀(f:Nat) (s:St),ln (DX f s).2<=ln s
 |0,s=>wQ _
 |f+1,s=>by
  rw[DX];split
  ·exact wV (Wl f _) (Bg s)
  ·exact wQ _
section
variable {w:World} {p b S G:Nat} {s:St} {vR vO vI vU:Value} {names:List yF}
theorem sH(aO:DC w p b S G s vR vO vI vU names):Calls prog 133 #[.pointer (some ⟨p,0,none⟩)] w fun e w'=>∃bw t vL,e=.returned (.agg #[.string (CB s).1.name,bw,t,vL])/\DE w' w.heap.size bw (CB s).1.fields/\(CB s).1.fields.length<=802/\w'.ownsRow w.heap.size 9 1 t (CB s).1.impl.length (Bn (CB s).1.impl)/\(CB s).1.impl.length<=803/\Ho w' w.heap.size vL (CB s).1.rule (CB s).1.tree/\DefPost w w' p b S G (CB s).2 vR vO vI vU (names++[(CB s).1.name]):=by
 obtain⟨bv,bm,bs,bt,bu⟩:=info_parts info9';have ba:=Aa (Tf aO);have cx:=aO.pp.lt;have ae:=Aa (CB.eq_1 s);have ci:ln (nmT s)<=801:=wV (Bg s) aO.ps.len;clear aO;generalize CB s=b7 at*;generalize nm s=n at*;generalize nmT s=s1 at*;have bc:=Aa (fun W (hs:PS W b G s1)=>Lw W b G s1 Oz hs);have P:=Aa (FI.eq_1 s1);generalize FI s1=bZ at*;obtain⟨J,r⟩:=bZ;simp only[]at ae;have aW:=Aa (fun W (hs:PS W b G r)=>EG W b G r 11 hs);have K:=Aa (Ih.eq_1 r);have Q:=Aa (Sr.eq_1 r);generalize Sr r=b5 at*;generalize Ih r=b3 at*;obtain⟨a7,ai⟩:=b3;simp only[]at ae;have aG:=Aa (fun W (a1:PP W p b S) (hs:PS W b G ai)=>Yp W p b S G ai a1 hs);generalize CL ai=bM at*;obtain⟨bi,cD⟩:=bM;simp only[]at ae aG;have aJ:=Aa (fun W c (hs:PS W b G c)=>Eh W b G c hs);go_enter func133,ntmps133;go_wp2_with fail;refine(ba.o _).mono ?_;rintro _ w1 ⟨rfl,M,i⟩;have a2:=i _ _ rfl (by decide) (by decide) (by decide);have bx:=Aa M;have bD:=Aa a2;have bR:=Ab a2;have bd:=Aa ((M.pp.pq M.ps).al (.cells #[.string n,.slice none 0 0,.slice none 0 0,.pointer none] 149));have c1:=M.pp.c0;have bV:=M.pp.lt;have cg:=M.ps.lt;have ch:=M.hb;have cf:=M.hS;clear M i a2 ba;go_wp2_with fail;refine(bc.o _ bd.o.ps).mono ?_;rintro _ w2 ⟨rfl,bj,k2⟩;have aR:=bd.o.call bj k2;have D:=Aa aR;have aP:=k2.at (wX w1 _) (by omega);have aI:=Aa aP;have aL:=Aa (k2.at ((AJ w1 _ _ bR).trans bD.o) (by omega));have aN:=Ac aP;have bS:=Ab aP;have c2:=aR.pp.c0;have ct:=aR.pp.lt;clear bj k2 aR aP bc
 go_upto_if 12 with fail
 go_cut [] (fun wc=>∃t,PQ w1 wc p b S G r/\wc.heap[w1.heap.size]?=some (.cells #[.string n,.slice none 0 0,t,.pointer none] 149 (0,0))/\wc.heap[w.heap.size]?=some (.cells #[.string ⟨#[]⟩,.slice none 0 0,.slice none 0 0,.pointer none] 149 (0,0))/\wc.ownsRow (w1.heap.size+1) 9 1 t J.length (Bn J)/\J.length<=803)
 case first=>
  clear ae K Q aG aW;cases ah:Bu s1 Oz
  ·rw[ah]at D
   rw[ah]at P;obtain⟨x,au⟩:J=[]/\r=s1:=by have:=P.o;simpa using this
   subst x au;go_wp2;go_meet;exact⟨_,D.o,aI.o,aL.o,xF _ _ _ _,by simp⟩
  ·rw[ah]at D
   rw[ah]at P;rw[xH rfl]at P;have cr:=Mn s1 Oz ah;have D:=Aa (show PQ w1 w2 p b S G (tl s1)from D.o);have ak:=Aa (aJ.o · (tl s1));have cj:=Bg (tl s1);generalize nm (tl s1)=aD at*;generalize nmT (tl s1)=V at*;clear ah;go_wp2;go_upto_region 3 with fail;go_cut [] (fun wc=>∃t,PQ w1 wc p b S G V/\wc.heap[w1.heap.size]?=some (.cells #[.string n,.slice none 0 0,t,.pointer none] 149 (0,0))/\wc.heap[w.heap.size]?=some (.cells #[.string ⟨#[]⟩,.slice none 0 0,.slice none 0 0,.pointer none] 149 (0,0))/\wc.ownsRow (w1.heap.size+1) 9 1 t 1 (Bn [aD]))
   case first=>
    go_region_law (first
     |(refine step_append_lies _ (by rfl) _ _ _ (by rfl) (w1.heap.size+1) 9 bv _ 1 16 underlying42 bm bs bt bu rfl (by decide) _ _ _ (by rfl) ((xF w6 (w1.heap.size+1) 9 1).alloc _) ⟨w6.heap.size,0,none⟩ 1 1 [.string aD] (by rfl) (by rfl) (cell_one_new _ _ _) (fun u O=>by simp at O;subst O;rfl) (by decide) (by unfold maxLen;omega) (by omega) (by simp;omega) (w6.heap.size+1) (by simp) ?_;intro g cap w7 az N bO bP;have E:=KS (xF w6 (w1.heap.size+1) 9 1) N (Nat.lt_succ_self _) l;have bK:=Ac E;have bL:=Ak E;have b1:=Ab E)
     |(go_simp;go_at_call 131;refine(ak.o _ ?_).mono ?_;(first|exact D.o.dr.ps|exact D.o.ps);rintro _ w6 ⟨rfl,I,h⟩;have j:PQ w1 w6 p b S G V:=(by first|exact D.o.dr.call I h|exact D.o.call I h);have l:=h.at aI.o (by omega);have bJ:=Ac l;have b0:=Ab l;have b6:=j.pp.lt))
    all_goals(
     have F:=h.at aL.o (by omega);have L:=Aa (xZ (j.app (xF w6 (w1.heap.size+1) 9 1) N (wQ _) (Nat.le_succ _) 2 (.slice (some ⟨g,0,none⟩) 1 cap)) (xZ (AI E 2 (.slice (some ⟨g,0,none⟩) 1 cap)) (xZ (LM (xF w6 (w1.heap.size+1) 9 1) N (show w.heap.size<w1.heap.size+1 by omega) F (show w.heap.size≠w1.heap.size by omega) 2 (.slice (some ⟨g,0,none⟩) 1 cap)) (IE az (Nat.lt_succ_self _) 2 (.slice (some ⟨g,0,none⟩) 1 cap)))));clear N az I h l F j E;go_wp2;go_meet;exact⟨_,L.o.1,L.o.2.1,L.o.2.2.1,L.o.2.2.2⟩)
   case rest=>
    obtain⟨t,q,y,i,z⟩:=hcut;have Z:=Aa q;have bb:=Aa y;have ap:=Aa i;have am:=Aa z;clear q y i z D aI aL aN c2 ak;go_wp2;go_loopg [] (ln V) (fun k wr=>∃(C:List yF) (t:Value) (c:St) (f:Nat),ln c<=k/\ln c<=f/\PQ w1 wr p b S G c/\wr.heap[w1.heap.size]?=some (.cells #[.string n,.slice none 0 0,t,.pointer none] 149 (0,0))/\wr.heap[w.heap.size]?=some (.cells #[.string ⟨#[]⟩,.slice none 0 0,.slice none 0 0,.pointer none] 149 (0,0))/\wr.ownsRow (w1.heap.size+1) 9 1 t C.length (Bn C)/\C.length+ln c<=803/\(aD::(DX 801 V).1,(DX 801 V).2)=(C++(DX f c).1,(DX f c).2))
    case atStart=>exact⟨[aD],_,V,801,wQ _,by omega,Z.o,bb.o,ap.o,am.o,by simp;omega,rfl⟩
    case round=>
     obtain⟨C,t,c,f,cq,cp,q,y,i,z,co,bp⟩:=hrel;obtain⟨b8,cb,rfl⟩:=An z;have aX:=Aa q;have aT:=Aa y;have aV:=Aa i;have aU:=Aa z;have aH:=Aa bp;have c3:=q.pp.c0;have bW:=q.pp.lt;have bn:=Ab y;have bo:=Ab i;have ay:=Aa (Hg wr b G c 1 q.ps);clear q y i z bp Z bb ap am;cases x:Ae c 1
     ·rw[x]at ay
      have aF:=Aa (show J=C/\r=c from by
       have a:=P.o;have b:=aH.o;rw[pY f c x,List.append_nil]at b;rw[b]at a;simpa using a)
      clear x aH P;go_wp2_with fail;refine ay.o.mono ?_;rintro _ w4 ⟨rfl,H⟩;go_wp2;go_meet;rw[aF.o.1,aF.o.2];exact⟨_,aX.o.be H,(H.block _ bn).trans aT.o,(H.block _ bo).trans aV.o,AT aU.o H,by omega⟩
     ·rw[x]at ay
      have cs:=Li c x;obtain⟨av,rfl⟩:∃av,f=av+1:=⟨f-1,by omega⟩;have aF:=Aa (show(aD::(DX 801 V).1,(DX 801 V).2)=(C++(nm c::(DX av (nmT c)).1),(DX av (nmT c)).2)from by rw[aH.o,DX,xH x]);have X:=Aa (aJ.o · c);clear x aH aJ P;generalize nm c=m at*;generalize nmT c=a8 at*;go_wp2_with fail;refine ay.o.mono ?_;rintro _ w4 ⟨rfl,H⟩;have d:=Aa (aX.o.be H);have U:=(H.block _ bn).trans aT.o;have ad:=Aa U;have af:=Aa ((H.block _ bo).trans aV.o);have Y:=Aa (AT aU.o H);have cc:=Ac U;have bT:=Ab U;have c4:=d.o.pp.c0;have bX:=d.o.pp.lt;clear H U aX aT aV aU ay c3;go_wp2;go_region_law (first
       |(refine step_append_lies _ (by rfl) _ _ _ (by rfl) (w1.heap.size+1) 9 bv _ 1 16 underlying42 bm bs bt bu rfl (by decide) _ _ _ (by rfl) (ax.alloc _) ⟨w6.heap.size,0,none⟩ 1 1 [.string m] (by rfl) (by rfl) (cell_one_new _ _ _) (fun u O=>by simp at O;subst O;rfl) (by decide) (by unfold maxLen;omega) (by omega) (by simp;omega) (w6.heap.size+1) (by simp) ?_;intro g cap w7 az N bO bP;have E:=KS ax N (Nat.lt_succ_self _) l;have bK:=Ac E;have bL:=Ak E;have b1:=Ab E)
       |(go_simp;go_at_call 131;refine(X.o _ ?_).mono ?_;(first|exact d.o.dr.ps|exact d.o.ps);rintro _ w6 ⟨rfl,I,h⟩;have j:PQ w1 w6 p b S G a8:=(by first|exact d.o.dr.call I h|exact d.o.call I h);have l:=h.at ad.o (by omega);have bJ:=Ac l;have ax:=(by first|exact d.o.dr.own h Y.o (Nat.le_succ _)|exact d.o.own h Y.o (Nat.le_succ _));have b0:=Ab l;have b6:=j.pp.lt))
      all_goals(
       have F:=h.at af.o (by omega);have L:=Aa (xZ (j.app ax N (wQ _) (Nat.le_succ _) 2 (.slice (some ⟨g,0,none⟩) (C.length+1) cap)) (xZ (AI E 2 (.slice (some ⟨g,0,none⟩) (C.length+1) cap)) (xZ (LM ax N (show w.heap.size<w1.heap.size+1 by omega) F (show w.heap.size≠w1.heap.size by omega) 2 (.slice (some ⟨g,0,none⟩) (C.length+1) cap)) (IE az (Nat.lt_succ_self _) 2 (.slice (some ⟨g,0,none⟩) (C.length+1) cap)))));clear N az I h ax l F j E;go_wp2;go_roundg (ln a8)
       case measure=>omega
       case rel=>exact⟨C++[m],_,a8,av,wQ _,by omega,L.o.1,L.o.2.1,L.o.2.2.1,by rw[Oa,xJ];exact L.o.2.2.2,by simp;omega,by rw[aF.o];simp⟩)
 case rest=>
  obtain⟨t,q,y,i,z,bQ⟩:=hcut;obtain⟨aY,aZ,rfl⟩:=An z;have Z:=Aa q;have ak:=Aa y;have ap:=Aa i;have am:=Aa z;have c3:=q.pp.c0;have bW:=q.pp.lt;clear q y i z D aI aL aN c2 aJ P;go_wp2_with fail;refine(aW.o _ Z.o.ps).mono ?_;rintro _ w4 ⟨rfl,bk,aA⟩;have d:=Aa (Z.o.call bk aA);have U:=aA.at ak.o (by omega);have ad:=Aa U;have af:=Aa (aA.at ap.o (by omega));have Y:=Aa (Z.o.own aA am.o (Nat.le_succ _));have bT:=Ab U;have c4:=d.o.pp.c0;have bX:=d.o.pp.lt;clear bk aA U Z ak ap am c3 aW
  go_upto_if 42 with fail
  go_cut [] (fun wc=>∃q,PQ w1 wc p b S G ai/\wc.heap[w1.heap.size]?=some (.cells #[.string n,.slice none 0 0,.slice aY J.length aZ,.pointer q] 149 (0,0))/\wc.heap[w.heap.size]?=some (.cells #[.string ⟨#[]⟩,.slice none 0 0,.slice none 0 0,.pointer none] 149 (0,0))/\wc.ownsRow (w1.heap.size+1) 9 1 (.slice aY J.length aZ) J.length (Bn J)/\Ho wc (w1.heap.size+1) (.pointer q) a7 b5)
  case first=>
   clear ae aG;cases a0:Ae r 11
   ·rw[a0]at K d
    obtain⟨x,au⟩:a7=none/\ai=r:=by have:=K.o;simpa using this
    subst x au;go_wp2;go_meet;exact⟨none,d.o,ad.o,af.o,Y.o,rfl⟩
   ·rw[a0]at K Q d
    rw[xH rfl]at K Q;have d:=Aa (show PQ w1 w4 p b S G (tl r)from d.o);have a4:=tH 802 (JM (tl r));rw[<-a4.1,<-a4.2,JM]at K;rw[JM]at Q;clear a0 a4;generalize tl r=aj at*;have bI:=Aa (fun W (hs:PS W b G aj)=>Pw W b G aj Nd hs);have bz:=Aa (fun W (hs:PS W b G (mustT aj (Bu aj Nd)))=>Cj W b G _ 7 hs);generalize mustT aj (Bu aj Nd)=aE at*;generalize (Ay aE 7).k=cA at*;generalize (Ay aE 7).n=cB at*;generalize (Ay aE 7).s=cC at*;generalize mustT aE (Ae aE 7)=a9 at*;have ar:=Aa (fun W (a1:PP W p b S) (hs:PS W b G a9)=>tG W p b S G a9 a1 hs);generalize Of 802 a9=b2 at*;obtain⟨b4,ab⟩:=b2;simp only[]at K Q ar;have bB:=Aa (fun W (hs:PS W b G ab)=>Cj W b G ab 8 hs);generalize (Ay ab 8).k=mk at*;generalize (Ay ab 8).n=cy at*;generalize (Ay ab 8).s=cz at*;obtain⟨x,au⟩:a7=some (Dz b4)/\ai=mustT ab (Ae ab 8):=by have:=K.o;simpa using this
    subst x au;go_wp2_with fail;refine(bI.o _ d.o.ps).mono ?_;rintro _ w5 ⟨rfl,bl,aB⟩;have A:=Aa (d.o.call bl aB);have X:=Aa (aB.at ad.o (by omega));have aq:=Aa (aB.at af.o (by omega));have ao:=Aa (d.o.own aB Y.o (Nat.le_succ _));have b9:=A.o.pp.c0;have cu:=A.o.pp.lt;clear bl aB ad af Y;go_wp2_with fail;refine(bz.o _ A.o.ps).mono ?_;rintro _ w6 ⟨rfl,I,h⟩;have ag:=Aa (A.o.call I h);have aS:=Aa (h.at X.o (by omega));have aM:=Aa (h.at aq.o (by omega));have aK:=Aa (A.o.own h ao.o (Nat.le_succ _));have bU:=Ab aS.o;clear I h X aq ao;go_wp2_with fail;refine(ar.o _ ag.o.pp ag.o.ps).mono ?_;rintro _ w7 ⟨u,rfl,O,aa⟩;obtain⟨aQ,rfl⟩:=O.ptr;have bf:=Aa (ag.o.tr aa);have aw:=aa.kp.at aS.o (by omega);have bA:=Aa aw;have bE:=Aa (aa.kp.at aM.o (by omega));have bC:=Aa (ag.o.own aa.kp aK.o (Nat.le_succ _));have bG:=Aa (O.imp (R:=fun k=>w1.heap.size+1<=k) (fun k a3 _=>wV bU a3));have aN:=Ac aw;have fN:=Ak aw;have cl:=Ab aw;have ca:=aa.pp.c0;have cv:=aa.pp.lt;have cw:p<w1.heap.size:=bV;clear O aa aw aS aM aK;go_wp2_with fail;refine(bB.o _ (bf.o.st ⟨w1.heap.size,3,none⟩ (wQ _) (.pointer (some ⟨aQ,0,none⟩))).ps).mono ?_;rintro _ w8 ⟨rfl,bN,aC⟩;go_wp2;go_meet;have a6:=(bf.o.st ⟨w1.heap.size,3,none⟩ (wQ _) (.pointer (some ⟨aQ,0,none⟩)));have br:∀T,Ap T (w1.heap.size+1) w7 (w7.setCell ⟨w1.heap.size,3,none⟩ (.pointer (some ⟨aQ,0,none⟩))):=fun T=>Ap.set (Nat.lt_succ_self _) 3 _;refine⟨some ⟨aQ,0,none⟩,a6.call bN aC,aC.at (AI bA.o 3 _) (by omega),aC.at ((xC _ _ _ _ (show w.heap.size≠w1.heap.size by omega)).trans bE.o) (by omega),a6.own aC (IE bC.o (Nat.lt_succ_self _) 3 _) (Nat.le_succ _),?_,by rw[Q.o]⟩;rw[Q.o];exact((bG.o.stays (br _) (br _)).keep a6.ps aC (fun k a3 _=>a3))
  case rest=>
   obtain⟨qr,q,y,i,z,bq⟩:=hcut;have A:=Aa q;have X:=Aa y;have aq:=Aa i;have ao:=Aa z;have ar:=Aa bq;have ck:=Ab y;have cn:=Ab i;clear q y i z bq d ad af Y K Q c4;go_wp2_with fail;refine(aG.o _ A.o.pp A.o.ps).mono ?_;rintro _ w6 ⟨v,rfl,a5,bY,j⟩;obtain⟨bg,bh,rfl⟩:=a5.slice;have ag:=Aa (A.o.tr j);have l:=j.kp.at X.o (by omega);have F:=j.kp.at aq.o (by omega);have aM:=Aa F;have aK:=Aa (A.o.own j.kp ao.o (Nat.le_succ _));have bF:=Aa (ar.o.stays (A.o.stay j.kp) (A.o.stay j.kp));have bH:=Aa a5;have aN:=Ac l;have fN:=Ak l;have cd:=Ac F;have ce:=Ak F;have bS:=Ab l;have cm:=Ab F;clear a5 j l F X aq ao ar;go_wp2_with fail;rw[ae.o];refine bodyPost_ret (v:=.agg #[.string n,.slice bg bi.length bh,.slice aY J.length aZ,.pointer qr]) (by simp[results,results133,go_sem, *]) rfl ⟨_,_,_,rfl,?_,bY,?_,bQ,?_,?_⟩
   ·refine(bH.o.stays ?_ ?_).mono (show w.heap.size<=wc.heap.size by omega)
    all_goals repeat' with_reducible first|exact Ap.refl _ _ _|refine Ap.set3 ?_ (show _<wc.heap.size by omega) _ _
   ·refine FE (B:=w1.heap.size+1) ?_ (by omega)
    repeat' with_reducible first|exact aK.o|refine IE ?_ (show _<w1.heap.size+1 by omega) _ _
   ·refine(bF.o.stays ?_ ?_).mono (show w.heap.size<=w1.heap.size+1 by omega)
    all_goals repeat' with_reducible first|exact Ap.refl _ _ _|refine Ap.set3 ?_ (show _<w1.heap.size+1 by omega) _ _
   ·exact((bx.o.pq (ag.o.st ⟨w1.heap.size,1,none⟩ (wQ _) (.slice bg bi.length bh))).off ((xC _ _ _ _ (show w.heap.size≠w1.heap.size by omega)).trans aM.o) (by decide) (wQ _) (((((Ag.refl _ _).setCell 0 _).setCell 1 _).setCell 2 _).setCell 3 _)).toDefPost
end
end Go.Proofs.YtogdodlibkckkaaGreatDoor
