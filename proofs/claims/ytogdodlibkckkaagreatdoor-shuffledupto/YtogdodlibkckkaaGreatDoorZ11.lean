import Derived.Test.YtogdodlibkckkaaGreatDoorZ10
import Derived.Maps.OwnSet
import Derived.Maps.OwnOps
import Derived.Maps.Views
import Derived.StringKeys
namespace Go.Proofs.YtogdodlibkckkaaGreatDoor
set_option maxHeartbeats 20000000
set_option maxRecDepth 100000
open Go.RowKit Tryz
open Go.Maps Tryz
open Go.ChangeMaps Tryz
def kl(x:yF):Lit:=.string x.data.toList
theorem Lg{x y:yF}(a:kl x=kl y):x=y:=by
 unfold kl at a;simp only[Lit.string.injEq]at a;apply ByteArray.ext;exact Array.toList_inj.1 a
theorem Ie(x:yF):WideAt.IsKeyLit (kl x):=by unfold kl;trivial
theorem Ci:Keyed prog 9:=string_keyed underlying9
theorem GL(w:World):(zeroValue 3).run prog w=.ok (.int .i64 0) w:=by kernel_rfl
theorem Ic(x:yF)(a:x.size<=4000):keyOf prog 9 (.string x)=some (kl x):=Go.WideMaps.keyOf_string_mk underlying9 (by unfold maxLen;omega)
def Dq:List yF->Bool
 |[]=>true
 |x::r=>!AS x r&&Dq r
theorem JI:∀l:List yF,Dq l=true↔l.Nodup
 |[]=>by simp[Dq]
 |x::r=>by
  rw[Dq,List.nodup_cons,xQ,JI r];constructor
  ·rintro⟨a,b⟩;refine⟨fun c=>?_,b⟩;rw[(FD x r).2 c]at a;cases a
  ·rintro⟨a,b⟩;exact⟨by rw[NM x r a];rfl,b⟩
theorem NN(n:Int)(w:World):(Instr.makeMap 65 (some (.int .i64 n))).run prog w=.ok (.map (some w.heap.size)) (w.alloc (.map #[] 0)):=by
 unfold Instr.makeMap;simp[go_sem]
structure PM(l:List yF)(D:DataW Unit):Prop where
 tidy:Tidy D
 hasP:∀x,Maps.has D (kl x)=AS x l
 val:∀x,x∈l->∃j:Nat,l[j]?=some x/\∀z,D.atKey (kl x) z=.lit (.int .i64 j)
 le:Maps.size D<=l.length
 eq:Maps.size D=l.length↔l.Nodup
theorem PM.nil:PM [] (.map []):=⟨tidy_empty,fun x=>by simp[Maps.has,AS],fun x a=>by simp at a,by simp[Maps.size],by simp[Maps.size]⟩
theorem Py(l:List yF)(x:yF):(l++[x]).Nodup↔l.Nodup/\x∉l:=by
 rw[List.nodup_append];constructor
 ·rintro⟨c,_,f⟩;exact⟨c,fun h=>f x h x (by simp) rfl⟩
 ·rintro⟨c,d⟩;refine⟨c,by simp,fun a g b hb e=>?_⟩
  simp at hb;subst hb;subst e;exact d g
theorem PM.snoc{l:List yF}{D:DataW Unit}(a:PM l D)(x:yF):PM (l++[x]) (D.put (kl x) (.lit (.int .i64 l.length))):=by
 have d:=size_put (k:=kl x) a.tidy (.lit (.int .i64 l.length));rw[a.hasP x]at d;refine⟨a.tidy.put (Ie x) _,fun y=>?_,fun y i=>?_,?_,?_⟩
 ·rw[WH]
  by_cases e:y=x
  ·subst e;rw[has_put_same a.tidy.isMap (Ie y)];simp
  ·rw[has_put_other (fun c=>e (Lg c)),a.hasP y,wY (fun g=>e g.symm)];simp
 ·by_cases e:y=x
  ·subst e;exact⟨l.length,by simp,fun z=>atKey_put_same a.tidy.isMap (Ie y) _ z⟩
  ·have m:y∈l:=by simpa [e]using i
   obtain⟨j,f,h⟩:=a.val y m;exact⟨j,by rw[xN (wU.1 f).1];exact f,fun z=>by rw[atKey_put_other (fun c=>e (Lg c))];exact h z⟩
 ·rw[d];have:=a.le;simp;split<;>omega
 ·rw[d,Py,<-a.eq]
  have:=a.le;by_cases b:x∈l
  ·rw[(FD x l).2 b];simp[b];omega
  ·rw[NM x l b];simp[b]
def Hq(P:Nat->Value->Prop)(w:World)(v:Value)(size:Nat)(l:List yF):Prop:=∃a cap,v=.slice a l.length cap/\(l=[]\/∃g,a=some ⟨g,0,none⟩/\∀(j:Nat) (x:yF),l[j]?=some x->w.cell? ⟨g,j*size,none⟩=some (.string x)/\∀k,0<k->k<size->∃u,w.cell? ⟨g,j*size+k,none⟩=some u/\P k u)
theorem Hq.below{P:Nat->Value->Prop}{w w':World}{v:Value}{size:Nat}{l:List yF}(d:Hq P w v size l)(hb:yG w w'):Hq P w' v size l:=by
 obtain⟨a,cap,c,b⟩:=d;refine⟨a,cap,c,?_⟩;rcases b with b|⟨g,b,f⟩
 ·exact Or.inl b
 ·refine Or.inr ⟨g,b,fun j x h=>?_⟩
  obtain⟨c0,cs⟩:=f j x h;exact⟨Ah hb c0,fun k c e=>by obtain⟨u,m,i⟩:=cs k c e;exact⟨u,Ah hb m,i⟩⟩
theorem BV.shaped{β:Type}{w:World}{B e size:Nat}{v:Value}{flat:β->List Value}{ok:World->β->Prop}{b:List β}(P:Nat->Value->Prop)(f:BV w B e size v flat ok b)(r:β->yF)(h:∀x,(flat x).length=size)(s:∀x,(flat x)[0]?=some (.string (r x)))(t:∀x∈b,∀k u,0<k->(flat x)[k]?=some u->P k u):Hq P w v size (b.map r):=by
 obtain⟨a,cap,i⟩:=An f.own;refine⟨a,cap,by simpa using i,?_⟩;cases m:b with
 |nil=>left;rfl
 |cons y l=>
  right;obtain⟨g,D,p,_⟩:=f.cell h 0 y (by rw[m];rfl);rw[i]at p;cases p;refine⟨g,rfl,fun j x c=>?_⟩;rw[<-m,xI]at c;cases d:b[j]? with
  |none=>rw[d]at c;cases c
  |some z=>
   rw[d]at c;cases c;obtain⟨F,E,q,n⟩:=f.cell h j z d;rw[i]at q;cases q;refine⟨by have:=n 0 _ (s z);simpa using this,fun k C A=>?_⟩;have:k<(flat z).length:=by rw[h];exact A
   exact⟨_,n k _ (wS this),t z (wT d) k _ C (wS this)⟩
def Qi(_:Nat)(u:Value):Prop:=∃a n c,u=.slice a n c
def NZ(_:Nat)(_:Value):Prop:=True
def NY(k:Nat)(u:Value):Prop:=(k<5->∃s,u=.string s)/\(k=5->∃q,u=.pointer q)
abbrev BS(w:World)(M n:Nat)(D:DataW Unit):Prop:=w.ownsMap prog 9 (plainElem prog 3) M n D
theorem nQ(n:yF)(W:World):Sem.run prog (method 511 132 (.agg #[.string n]) "veil/schemas.called") W=.ok (304,.agg #[.string n]) W:=by kernel_rfl
theorem XL(w:World)(v:Value)(l:List yF)(q:Hq Qi w v 2 l)(ah:l.length<=100000)(G:∀x∈l,x.size<=4000):
 Calls prog 56 #[v] w fun e w'=>∃d D,e=.returned (.map (some d))/\w.heap.size<=d/\BS w' d l.length D/\PM l D/\yG w w':=by
 have ak:=NN;have K:=Aa q;have O:=Aa G;obtain⟨a,cap,rfl,_⟩:=q;clear G;go_enter func56,ntmps56;go_wp2;go_loopg [4,5,11] l.length (fun m v4 v5 v11 wr=>∃k:Nat,v11=.int .i64 k/\k<=l.length/\l.length-k<=m/\∃D,BS wr w.heap.size k D/\PM (l.take k) D/\yG w wr)
 case atStart=>exact⟨0,rfl,wZ _,by omega,.map [],World.ownsMap_made _ _ _ _,PM.nil,(wR _ _).alloc (wQ _) _⟩
 case round=>
  obtain⟨k,rfl,V,ai,D,n,C,hb⟩:=hrel;have p:=Aa C;clear C;by_cases h:k<l.length
  ·obtain⟨ad,ae,Q,r⟩:=K.o.below hb
   cases Q;obtain⟨g,R,s⟩:∃g,a=some ⟨g,0,none⟩/\∀(j:Nat) (x:yF),l[j]?=some x->wr.cell? ⟨g,j*2,none⟩=some (.string x)/\∀k,0<k->k<2->∃u,wr.cell? ⟨g,j*2+k,none⟩=some u/\Qi k u:=by
    rcases r with e|e
    ·rw[e]at h;simp at h
    ·exact e
   subst R;have c:=wS h;obtain⟨ag,F⟩:=s k _ c;obtain⟨u1,al,aa⟩:=F 1 (by decide) (by decide);obtain⟨H,J,I,rfl⟩:=aa;have Z:=O.o _ (wT c);have P:=Aa c;clear s c F r;generalize l[k]=y at*;have Y:=Ic y Z;have aj:=fun W=>WK y (.slice H J I) W;have t:=Ke (wr.alloc (.cells #[.string y,.slice H J I] 134)) y;have af:=hb.size;have ab:(Lit.int .i64 (k:Int)).wf=true:=WalkArith.wf_i64 (by omega);have M:=Aa n;clear n;go_wp2_with fail;refine t.mono ?_;clear t;rintro e w1 ⟨rfl,b⟩;have A:BS w1 w.heap.size k D:=World.ownsMap.kept (M.o.alloc _) ⟨b.os,b.tape,b.output,b.size,fun i T _=>b.block i T⟩ (by simp:some w.heap.size≠none);have f:yG w w1:=(hb.alloc hb.size _).trans (b.mono (by simp;omega));clear b;go_wp2_with (first|(at_mapUpdate;refine wpList_mapUpdate_own _ rfl _ _ _ 65 rfl 9 3 Ci underlying65 _ w.heap.size k D rfl A (by unfold maxLen;omega) _ _ _ rfl rfl Y _ [] (plainElem_int underlying3 ab) ?_;intro w2 B z)|go_in);have S:yG w w2:=f.grown z f.size (fun j U=>by cases U;exact wQ _);have E:PM (l.take (k+1)) (D.put (kl y) (.lit (.int .i64 k))):=by
    have:=p.o.snoc y;rw[List.length_take,Nat.min_eq_left V]at this;rw[xL,P.o];exact this
   have L:=Aa B;have N:=Aa E;clear A z f B E;go_wp2;go_roundg (l.length-(k+1))
   case measure=>omega
   case rel=>exact⟨k+1,by go_num,by omega,wQ _,_,L.o,N.o,S⟩
  ·go_wp2
   go_ret;have X:k=l.length:=by omega
   subst X;exact⟨_,D,rfl,wQ _,n,by have:=p.o;rw[xB (wQ _)]at this;exact this,hb⟩
theorem qT(w:World)(v:Value)(l:List yF)(q:Hq NZ w v 1 l)(ad:l.length<=100000)(F:∀x∈l,x.size<=4000):
 Calls prog 181 #[v] w fun e w'=>∃d D,e=.returned (.map (some d))/\w.heap.size<=d/\BS w' d l.length D/\PM l D/\yG w w':=by
 have ag:=NN;have G:=Aa q;have K:=Aa F;obtain⟨a,cap,rfl,_⟩:=q;clear F;go_enter func181,ntmps181;go_wp2;go_loopg [4,5,11] l.length (fun m v4 v5 v11 wr=>∃k:Nat,v11=.int .i64 k/\k<=l.length/\l.length-k<=m/\∃D,BS wr w.heap.size k D/\PM (l.take k) D/\yG w wr)
 case atStart=>exact⟨0,rfl,wZ _,by omega,.map [],World.ownsMap_made _ _ _ _,PM.nil,(wR _ _).alloc (wQ _) _⟩
 case round=>
  obtain⟨k,rfl,S,ae,D,n,C,hb⟩:=hrel;have p:=Aa C;clear C;by_cases h:k<l.length
  ·obtain⟨Z,aa,M,r⟩:=G.o.below hb
   cases M;obtain⟨g,N,s⟩:∃g,a=some ⟨g,0,none⟩/\∀(j:Nat) (x:yF),l[j]?=some x->wr.cell? ⟨g,j*1,none⟩=some (.string x)/\∀k,0<k->k<1->∃u,wr.cell? ⟨g,j*1+k,none⟩=some u/\NZ k u:=by
    rcases r with e|e
    ·rw[e]at h;simp at h
    ·exact e
   subst N;have c:=wS h;obtain⟨P,X⟩:=s k _ c;simp only[Nat.mul_one]at P;have V:=K.o _ (wT c);have L:=Aa c;clear s c X r;generalize l[k]=y at*;have U:=Ic y V;have af:=fun W=>nQ y W;have t:=Ke (wr.alloc (.cells #[.string y] 132)) y;have ab:=hb.size;have Y:(Lit.int .i64 (k:Int)).wf=true:=WalkArith.wf_i64 (by omega);have I:=Aa n;clear n;go_wp2_with fail;refine t.mono ?_;clear t;rintro e w1 ⟨rfl,b⟩;have A:BS w1 w.heap.size k D:=World.ownsMap.kept (I.o.alloc _) ⟨b.os,b.tape,b.output,b.size,fun i Q _=>b.block i Q⟩ (by simp:some w.heap.size≠none);have f:yG w w1:=(hb.alloc hb.size _).trans (b.mono (by simp;omega));clear b;go_wp2_with (first|(at_mapUpdate;refine wpList_mapUpdate_own _ rfl _ _ _ 65 rfl 9 3 Ci underlying65 _ w.heap.size k D rfl A (by unfold maxLen;omega) _ _ _ rfl rfl U _ [] (plainElem_int underlying3 Y) ?_;intro w2 B z)|go_in);have O:yG w w2:=f.grown z f.size (fun j R=>by cases R;exact wQ _);have E:PM (l.take (k+1)) (D.put (kl y) (.lit (.int .i64 k))):=by
    have:=p.o.snoc y;rw[List.length_take,Nat.min_eq_left S]at this;rw[xL,L.o];exact this
   have H:=Aa B;have J:=Aa E;clear A z f B E;go_wp2;go_roundg (l.length-(k+1))
   case measure=>omega
   case rel=>exact⟨k+1,by go_num,by omega,wQ _,_,H.o,J.o,O⟩
  ·go_wp2
   go_ret;have T:k=l.length:=by omega
   subst T;exact⟨_,D,rfl,wQ _,n,by have:=p.o;rw[xB (wQ _)]at this;exact this,hb⟩
theorem qS(w:World)(v:Value)(l:List yF)(B:Hq NY w v 6 l)(ao:l.length<=100000)(Q:∀x∈l,x.size<=4000):
 Calls prog 230 #[v] w fun e w'=>∃f D,e=.returned (.map (some f))/\w.heap.size<=f/\BS w' f l.length D/\PM l D/\yG w w':=by
 have ar:=NN;have R:=Aa B;have V:=Aa Q;obtain⟨a,cap,rfl,_⟩:=B;clear Q;go_enter func230,ntmps230;go_wp2;go_loopg [4,5,11] l.length (fun m v4 v5 v11 wr=>∃k:Nat,v11=.int .i64 k/\k<=l.length/\l.length-k<=m/\∃D,BS wr w.heap.size k D/\PM (l.take k) D/\yG w wr)
 case atStart=>exact⟨0,rfl,wZ _,by omega,.map [],World.ownsMap_made _ _ _ _,PM.nil,(wR _ _).alloc (wQ _) _⟩
 case round=>
  obtain⟨k,rfl,ae,ap,D,p,O,hb⟩:=hrel;have q:=Aa O;clear O;by_cases n:k<l.length
  ·obtain⟨aj,ak,Y,C⟩:=R.o.below hb
   cases Y;obtain⟨g,Z,E⟩:∃g,a=some ⟨g,0,none⟩/\∀(j:Nat) (x:yF),l[j]?=some x->wr.cell? ⟨g,j*6,none⟩=some (.string x)/\∀k,0<k->k<6->∃u,wr.cell? ⟨g,j*6+k,none⟩=some u/\NY k u:=by
    rcases C with e|e
    ·rw[e]at n;simp at n
    ·exact e
   subst Z;have d:=wS n;obtain⟨am,c⟩:=E k _ d;obtain⟨u1,au,J⟩:=c 1 (by decide) (by decide);obtain⟨s,rfl⟩:=J.1 (by decide);obtain⟨u2,av,K⟩:=c 2 (by decide) (by decide);obtain⟨t,rfl⟩:=K.1 (by decide);obtain⟨u3,aw,L⟩:=c 3 (by decide) (by decide);obtain⟨z,rfl⟩:=L.1 (by decide);obtain⟨u4,ax,M⟩:=c 4 (by decide) (by decide);obtain⟨A,rfl⟩:=M.1 (by decide);obtain⟨u5,ay,N⟩:=c 5 (by decide) (by decide);obtain⟨r,rfl⟩:=N.2 rfl;clear J K L M N;have ah:=V.o _ (wT d);have X:=Aa d;clear E d c C;generalize l[k]=y at*;have ag:=Ic y ah;have aq:=fun W=>WJ y (.string s) (.string t) (.string z) (.string A) (.pointer r) W;have F:=Ke (wr.alloc (.cells #[.string y,.string s,.string t,.string z,.string A,.pointer r] 166)) y;have al:=hb.size;have ai:(Lit.int .i64 (k:Int)).wf=true:=WalkArith.wf_i64 (by omega);have T:=Aa p;clear p;go_wp2_with fail;refine F.mono ?_;clear F;rintro e w1 ⟨rfl,b⟩;have H:BS w1 w.heap.size k D:=World.ownsMap.kept (T.o.alloc _) ⟨b.os,b.tape,b.output,b.size,fun i ab _=>b.block i ab⟩ (by simp:some w.heap.size≠none);have h:yG w w1:=(hb.alloc hb.size _).trans (b.mono (by simp;omega));clear b;go_wp2_with (first|(at_mapUpdate;refine wpList_mapUpdate_own _ rfl _ _ _ 65 rfl 9 3 Ci underlying65 _ w.heap.size k D rfl H (by unfold maxLen;omega) _ _ _ rfl rfl ag _ [] (plainElem_int underlying3 ai) ?_;intro w2 I G)|go_in);have aa:yG w w2:=h.grown G h.size (fun j ad=>by cases ad;exact wQ _);have P:PM (l.take (k+1)) (D.put (kl y) (.lit (.int .i64 k))):=by
    have:=q.o.snoc y;rw[List.length_take,Nat.min_eq_left ae]at this;rw[xL,X.o];exact this
   have S:=Aa I;have U:=Aa P;clear H G h I P;go_wp2;go_roundg (l.length-(k+1))
   case measure=>omega
   case rel=>exact⟨k+1,by go_num,by omega,wQ _,_,S.o,U.o,aa⟩
  ·go_wp2
   go_ret;have af:k=l.length:=by omega
   subst af;exact⟨_,D,rfl,wQ _,p,by have:=q.o;rw[xB (wQ _)]at this;exact this,hb⟩
theorem dY(w:World)(v:Value)(l:List yF)(g:Hq NZ w v 1 l)(m:l.length<=100000)(n:∀x∈l,x.size<=4000):
 Calls prog 136 #[v] w fun e w'=>e=.returned (.bool (Dq l))/\yG w w':=by
 have h:=qT w v l g m n;obtain⟨a,cap,rfl,_⟩:=g;go_enter func136,ntmps136;go_wp2_with fail;refine h.mono ?_;clear h;rintro e w1 ⟨f,D,rfl,q,i,b,hb⟩;have d:=Aa (show Dq l=decide (Maps.size D=l.length)from by rw[Bool.eq_iff_iff,JI,<-b.eq];simp);have r:=b.le;generalize k:Maps.size D=c at*;clear b;by_cases j:c=l.length
 ·have p:((c:Int)==(l.length:Int))=true:=by simp;omega
  go_wp2_with (first|(at_len;refine wpList_len_own _ rfl _ 65 rfl 9 3 underlying65 _ f _ D rfl i ?_;rw[k])|go_in);go_ret;exact⟨Al (by rw[d.o];simp[j]),hb⟩
 ·have p:((c:Int)==(l.length:Int))=false:=by simp;omega
  go_wp2_with (first|(at_len;refine wpList_len_own _ rfl _ 65 rfl 9 3 underlying65 _ f _ D rfl i ?_;rw[k])|go_in);go_ret;exact⟨Al (by rw[d.o];simp[j]),hb⟩
theorem dX(w:World)(v:Value)(l:List yF)(g:Hq NY w v 6 l)(m:l.length<=100000)(n:∀x∈l,x.size<=4000):
 Calls prog 183 #[v] w fun e w'=>e=.returned (.bool (Dq l))/\yG w w':=by
 have h:=qS w v l g m n;obtain⟨a,cap,rfl,_⟩:=g;go_enter func183,ntmps183;go_wp2_with fail;refine h.mono ?_;clear h;rintro e w1 ⟨f,D,rfl,q,i,b,hb⟩;have d:=Aa (show Dq l=decide (Maps.size D=l.length)from by rw[Bool.eq_iff_iff,JI,<-b.eq];simp);have r:=b.le;generalize k:Maps.size D=c at*;clear b;by_cases j:c=l.length
 ·have p:((c:Int)==(l.length:Int))=true:=by simp;omega
  go_wp2_with (first|(at_len;refine wpList_len_own _ rfl _ 65 rfl 9 3 underlying65 _ f _ D rfl i ?_;rw[k])|go_in);go_ret;exact⟨Al (by rw[d.o];simp[j]),hb⟩
 ·have p:((c:Int)==(l.length:Int))=false:=by simp;omega
  go_wp2_with (first|(at_len;refine wpList_len_own _ rfl _ 65 rfl 9 3 underlying65 _ f _ D rfl i ?_;rw[k])|go_in);go_ret;exact⟨Al (by rw[d.o];simp[j]),hb⟩
structure CM(l:List yF)(D:DataW Unit):Prop where
 tidy:Tidy D
 hasP:∀x,Maps.has D (kl x)=AS x l
 one:∀x,x∈l->∀z,D.atKey (kl x) z=.lit (.int .i64 1)
theorem CM.nil:CM [] (.map []):=⟨tidy_empty,fun x=>by simp[Maps.has,AS],fun x a=>by simp at a⟩
theorem CM.snoc{l:List yF}{D:DataW Unit}(a:CM l D)(x:yF):CM (l++[x]) (D.put (kl x) (.lit (.int .i64 1))):=by
 refine⟨a.tidy.put (Ie x) _,fun y=>?_,fun y d=>?_⟩
 ·rw[WH]
  by_cases e:y=x
  ·subst e;rw[has_put_same a.tidy.isMap (Ie y)];simp
  ·rw[has_put_other (fun b=>e (Lg b)),a.hasP y,wY (fun c=>e c.symm)];simp
 ·by_cases e:y=x
  ·subst e;intro z;exact atKey_put_same a.tidy.isMap (Ie y) _ z
  ·have f:y∈l:=by simpa [e]using d
   intro z;rw[atKey_put_other (fun b=>e (Lg b))];exact a.one y f z
def El(kind:yF->Nat)(K:Nat)(l:List yF):Bool:=Dq l&&l.all fun x=>decide (kind x=K)
theorem oQ(l:List yF)(k:Nat)(y:yF)(g:l[k]?=some y)(b:AS y (l.take k)=true):Dq l=false:=by
 rw[Bool.eq_false_iff];intro a;rw[JI]at a;rw[FD]at b;have e:l=l.take k++y::l.drop (k+1):=by
  have f:=(wU.1 g);obtain⟨c,d⟩:=f;rw[<-d,<-xX c,List.take_append_drop]
 rw[e,List.nodup_append]at a;exact a.2.2 y b y (by simp) rfl
theorem Uc(w:World)(S:Nat)(ao am ak ap al:Value)(U:List (Au×Value))(f:List (Aq×Value×Value×Value))(d:List (At×Value))(h:List (Aw×Value))(names:List yF)(v:Value)(l:List yF)(K:Nat)(V:SV w S ao am ak ap al U f d h names)(ai:DU w v l)(aQ:l.length<=100000)(ah:∀x∈l,x.size<=4000):
 Calls prog 140 #[.pointer (some ⟨S,0,none⟩),v,.int .i64 K] w fun e w'=>e=.returned (.bool (El (AB (f.map oN) (d.map iN) (h.map uN)) K l))/\yG w w':=by
 have aS:=NN;have aq:=Aa V;have ax:=Aa ai;have aw:=Aa ah;obtain⟨a,cap,rfl,_⟩:=ai;have C:=Aa (show El (AB (f.map oN) (d.map iN) (h.map uN)) K l=(Dq l&&l.all fun x=>decide ((AB (f.map oN) (d.map iN) (h.map uN)) x=K))from rfl);generalize El (AB (f.map oN) (d.map iN) (h.map uN)) K l=Q at*;clear V ah;go_enter func140,ntmps140;go_wp2;go_loopg [9,15] l.length (fun m v9 v15 wr=>∃k:Nat,v15=.int .i64 k/\k<=l.length/\l.length-k<=m/\(∃D,BS wr w.heap.size k D/\CM (l.take k) D)/\yG w wr/\(l.take k).Nodup/\∀x∈l.take k,(AB (f.map oN) (d.map iN) (h.map uN)) x=K)
 case atStart=>exact⟨0,rfl,wZ _,by omega,⟨.map [],World.ownsMap_made _ _ _ _,CM.nil⟩,(wR _ _).alloc (wQ _) _,by simp,by simp⟩
 case round=>
  obtain⟨k,rfl,aP,aR,⟨D,J,ad⟩,hb,ae,ab⟩:=hrel;have B:=Aa ad;have T:=Aa ae;have R:=Aa ab;clear ad ae ab;by_cases O:k<l.length
  ·obtain⟨aL,aM,ay,_,Y⟩:=ax.o.below hb
   cases ay;obtain⟨g,P,az,Z⟩:∃g P,a=some ⟨g,P,none⟩/\∀(j:Nat) (x:yF),l[j]?=some x->wr.cell? ⟨g,P+j,none⟩=some (.string x):=by
    rcases Y with e|e
    ·rw[e]at O;simp at O
    ·exact e
   subst az;have n:=wS O;have aO:=Z k _ n;have aG:=aw.o _ (wT n);have E:=Aa n;clear Z n Y;generalize l[k]=y at*;have u:=Ic y aG;obtain⟨c,aT,r,_⟩:=J.lookup_int Ci underlying65 underlying3 (GL _) u;have aN:=hb.size;cases A:AS y (l.take k)
   ·have aB:c=0:=by
     have:=atKey_of_not_has (D:=D) (k:=kl y) (by rw[B.o.hasP];exact A) (.lit (.int .i64 0));rw[this]at r;simp only[DataW.lit.injEq,Lit.int.injEq,true_and]at r;exact r.symm
    subst aB;clear r;have H:=Aa (fun w' aA=>Pg w' S ao am ak ap al U f d h names y (aq.o.below aA));have af:¬y∈l.take k:=fun aE=>by rw[(FD y _).2 aE]at A;cases A
    have au:=Aa af;clear af A;have aj:(Lit.int .i64 1).wf=true:=by decide
    by_cases I:(AB (f.map oN) (d.map iN) (h.map uN)) y=K
    ·have aK:(((AB (f.map oN) (d.map iN) (h.map uN)) y:Int)==(K:Int))=true:=by simp;omega
     have ar:=Aa (show∀z,z=y->(AB (f.map oN) (d.map iN) (h.map uN)) z=K from fun z aI=>by rw[aI];exact I);clear I;generalize (AB (f.map oN) (d.map iN) (h.map uN)) y=aJ at*;go_wp2_with (at_mapUpdate;refine wpList_mapUpdate_own _ rfl _ _ _ 65 rfl 9 3 Ci underlying65 _ w.heap.size k D rfl J (by unfold maxLen;omega) _ _ _ rfl rfl u _ [] (plainElem_int underlying3 aj) ?_;intro w2 s t;obtain⟨c2,L,b,_⟩:=s.lookup_int Ci underlying65 underlying3 (GL _) u;have F:c2=1:=(by rw[atKey_put_same B.o.tidy.isMap (Ie y)]at b;simp only[DataW.lit.injEq,Lit.int.injEq,true_and]at b;exact b.symm);subst F;clear b);have p:yG w w2:=hb.grown t hb.size (fun j G=>by cases G;exact wQ _);refine(H.o w2 p).mono ?_;rintro e w3 ⟨rfl,q⟩;have ag:BS w3 w.heap.size (k+1) _:=World.ownsMap.kept s ⟨q.os,q.tape,q.output,q.size,fun i aD _=>q.block i aD⟩ (by simp:some w.heap.size≠none);have N:yG w w3:=p.trans (q.mono p.size);have av:=Aa ag;clear s t p q ag L H;go_wp2;go_roundg (l.length-(k+1))
     case measure=>omega
     case rel=>exact⟨k+1,by go_num,by omega,wQ _,⟨_,av.o,by rw[xL,E.o];exact B.o.snoc y⟩,N,by
      rw[xL,E.o];exact(Py _ y).2 ⟨T.o,au.o⟩,by
      rw[xL,E.o];intro x n;rcases yD.1 n with n|n
      ·exact R.o x n
      ·exact ar.o x (by simpa using n)⟩
    ·have aK:(((AB (f.map oN) (d.map iN) (h.map uN)) y:Int)==(K:Int))=false:=by simp;omega
     have M:=Aa (show Q=false from by
      rw[C.o,Bool.and_eq_false_iff];right;rw[Bool.eq_false_iff];intro aa;rw[xP]at aa;have:=aa y (wT E.o);simp only[xK]at this;exact I this)
     clear I C;generalize (AB (f.map oN) (d.map iN) (h.map uN)) y=aJ at*;go_wp2_with (at_mapUpdate;refine wpList_mapUpdate_own _ rfl _ _ _ 65 rfl 9 3 Ci underlying65 _ w.heap.size k D rfl J (by unfold maxLen;omega) _ _ _ rfl rfl u _ [] (plainElem_int underlying3 aj) ?_;intro w2 s t;obtain⟨c2,L,b,_⟩:=s.lookup_int Ci underlying65 underlying3 (GL _) u;have F:c2=1:=(by rw[atKey_put_same B.o.tidy.isMap (Ie y)]at b;simp only[DataW.lit.injEq,Lit.int.injEq,true_and]at b;exact b.symm);subst F;clear b);have p:yG w w2:=hb.grown t hb.size (fun j G=>by cases G;exact wQ _);refine(H.o w2 p).mono ?_;rintro e w3 ⟨rfl,q⟩;have N:yG w w3:=p.trans (q.mono p.size);clear s t p q L H;go_wp2;go_ret;exact⟨Al (by rw[M.o]),N⟩
   ·have aC:c=1:=by
     have:=B.o.one y ((FD y _).1 A) (.lit (.int .i64 0));rw[this]at r;simp only[DataW.lit.injEq,Lit.int.injEq,true_and]at r;exact r.symm
    subst aC;have M:=Aa (show Q=false from by rw[C.o,oQ l k y E.o A];rfl);have aH:(Lit.int .i64 2).wf=true:=by decide
    clear r A C;go_wp2_with (at_mapUpdate;refine wpList_mapUpdate_own _ rfl _ _ _ 65 rfl 9 3 Ci underlying65 _ w.heap.size k D rfl J (by unfold maxLen;omega) _ _ _ rfl rfl u _ [] (plainElem_int underlying3 aH) ?_;intro w2 s t;obtain⟨c2,L,b,_⟩:=s.lookup_int Ci underlying65 underlying3 (GL _) u;have F:c2=2:=(by rw[atKey_put_same B.o.tidy.isMap (Ie y)]at b;simp only[DataW.lit.injEq,Lit.int.injEq,true_and]at b;exact b.symm);subst F;clear b);have p:yG w w2:=hb.grown t hb.size (fun j G=>by cases G;exact wQ _);go_ret;exact⟨Al (by rw[M.o]),p⟩
  ·go_wp2
   go_ret;have aF:l.take k=l:=xB (by omega);exact⟨Al (by
    rw[C.o];have W:=T.o;have X:=R.o;rw[aF]at W X;rw[(JI l).2 W];simp only[Bool.true_and];symm;rw[xP];intro x n;simp[X x n]),hb⟩
def Ee(roles:List yF)(kind:yF->Nat)(l:List Am):Bool:=l.all (Hx roles kind)&&Dq (l.map Am.name)
theorem DE.shaped{w:World}{B:Nat}{v:Value}{b:List (Am×Value)}(c:BV w B 166 6 v Nu (PI B) b):Hq NY w v 6 (b.map fN):=
 c.shaped NY fN (fun _=>rfl) (fun _=>rfl) (fun x g k u d a=>by
  obtain⟨q,f⟩:=(c.ok x g).ptr;have:Nu x=[.string x.1.name,.string x.1.auth,.string x.1.hide_,.string x.1.arg,.string x.1.scalar,x.2]:=rfl;rw[this]at a
  match k,d,a with
  |1,_,a=>simp at a;exact⟨fun _=>⟨_,a.symm⟩,fun e=>by omega⟩
  |2,_,a=>simp at a;exact⟨fun _=>⟨_,a.symm⟩,fun e=>by omega⟩
  |3,_,a=>simp at a;exact⟨fun _=>⟨_,a.symm⟩,fun e=>by omega⟩
  |4,_,a=>simp at a;exact⟨fun _=>⟨_,a.symm⟩,fun e=>by omega⟩
  |5,_,a=>simp at a;exact⟨fun e=>by omega,fun _=>⟨_,by rw[<-a];exact f⟩⟩
  |k+6,_,a=>simp at a)
theorem UZ(w:World)(S:Nat)(Z Y W aa X:Value)(h:List (Au×Value))(d:List (Aq×Value×Value×Value))(c:List (At×Value))(i:List (Aw×Value))(names:List yF)(v:Value)(B:Nat)(l:List Am)(H:SV w S Z Y W aa X h d c i names)(hF:DE w B v l)(af:l.length<=100000)(M:∀f∈l,f.name.size<=4000):
 Calls prog 137 #[.pointer (some ⟨S,0,none⟩),v] w fun e w'=>e=.returned (.bool (Ee (h.map rN) (AB (d.map oN) (c.map iN) (i.map uN)) l))/\yG w w':=by
 obtain⟨b,u,A⟩:=hF.row;have T:b.length=l.length:=by rw[<-u];simp
 have O:=Aa H;have F:=Aa A;have P:=Aa M;have r:=Aa u;have Q:b.length<=100000:=by omega
 obtain⟨a,cap,rfl⟩:=An A.own;have E:=Aa (show Ee (h.map rN) (AB (d.map oN) (c.map iN) (i.map uN)) l=(l.all (Hx (h.map rN) (AB (d.map oN) (c.map iN) (i.map uN)))&&Dq (l.map Am.name))from rfl);generalize Ee (h.map rN) (AB (d.map oN) (c.map iN) (i.map uN)) l=C at*;clear H hF M A u T;go_enter func137,ntmps137;go_wp2;go_loopg [5,8] b.length (fun m v5 v8 wr=>∃k:Nat,v8=.int .i64 k/\k<=b.length/\b.length-k<=m/\yG w wr/\(b.take k).all (fun x=>Hx (h.map rN) (AB (d.map oN) (c.map iN) (i.map uN)) x.1)=true)
 case atStart=>exact⟨0,rfl,wZ _,by omega,wR _ _,by simp⟩
 case round=>
  obtain⟨k,rfl,ae,ag,hb,K⟩:=hrel;have D:=Aa K;clear K;by_cases U:k<b.length
  ·have p:=wS U
   obtain⟨g,ad,V,L,N⟩:=F.o.fldAt k _ p;cases V;have j:=fV wr S _ _ _ _ _ h d c i names g (k*6) B _ _ (O.o.below hb) (L.below hb) (N.stays (Ap.of_below hb));have G:=Aa p;clear p L N;generalize b[k]=y at*;have t:=Aa (show(b.take (k+1)).all (fun x=>Hx (h.map rN) (AB (d.map oN) (c.map iN) (i.map uN)) x.1)=Hx (h.map rN) (AB (d.map oN) (c.map iN) (i.map uN)) y.1 from by
    rw[xL,G.o,List.all_append,D.o];simp)
   cases q:Hx (h.map rN) (AB (d.map oN) (c.map iN) (i.map uN)) y.1
   ·rw[q]at j
    have s:=Aa (show C=false from by
     rw[E.o,Bool.and_eq_false_iff];left;rw[Bool.eq_false_iff];intro J;rw[xP]at J;have:=J y.1 (by rw[<-r.o];exact List.mem_map_of_mem (wT G.o));rw[q]at this;cases this)
    clear q t;go_wp2_with fail;refine j.mono ?_;clear j;rintro e w1 ⟨rfl,n⟩;have z:=hb.trans (n.mono hb.size);clear n;go_wp2;go_ret;exact⟨Al (by rw[s.o]),z⟩
   ·rw[q]at j t
    clear q;go_wp2_with fail;refine j.mono ?_;clear j;rintro e w1 ⟨rfl,n⟩;have z:=hb.trans (n.mono hb.size);clear n;go_wp2;go_roundg (b.length-(k+1))
    case measure=>omega
    case rel=>exact⟨k+1,by go_num,by omega,wQ _,z,t.o⟩
  ·have j:=dX wr _ (b.map fN) ((DE.shaped F.o).below hb) (by simpa using Q) (by
    intro x p;rw[Ku b l r.o]at p;obtain⟨f,R,rfl⟩:=List.mem_map.1 p;exact P.o f R)
   have s:=Aa (show C=Dq (b.map fN)from by
    rw[E.o,Ku b l r.o];have:l.all (Hx (h.map rN) (AB (d.map oN) (c.map iN) (i.map uN)))=true:=by
     have I:=D.o;rw[xB (by omega)]at I;rw[<-r.o,List.all_map];exact I
    rw[this];rfl)
   generalize Dq (b.map fN)=ab at*;go_wp2_with fail;refine j.mono ?_;clear j;rintro e w1 ⟨rfl,n⟩;go_wp2;go_ret;exact⟨Al (by rw[s.o]),hb.trans (n.mono hb.size)⟩
theorem jR(w:World)(S:Nat)(V U R W T:Value)(d:List (Au×Value))(c:List (Aq×Value×Value×Value))(b:List (At×Value))(h:List (Aw×Value))(names:List yF)(l:SV w S V U R W T d c b h names)(s:∀x∈b,∀f∈x.1.fields,f.name.size<=4000):
 Calls prog 87 #[.pointer (some ⟨S,0,none⟩)] w fun e w'=>e=.returned (.bool (b.all fun x=>Ee (d.map rN) (AB (c.map oN) (b.map iN) (h.map uN)) x.1.fields))/\yG w w':=by
 have K:=Aa l;have M:=Aa s;have ad:=l.li;obtain⟨a,cap,B⟩:=An l.i.own;subst B;have c0:w.cell? ⟨S,2,none⟩=some (.slice a b.length cap):=Ac l.sc 2;generalize G:(b.all fun x=>Ee (d.map rN) (AB (c.map oN) (b.map iN) (h.map uN)) x.1.fields)=J at*;have D:=Aa G;clear l s G;go_enter func87,ntmps87;go_wp2;go_loopg [4,10] b.length (fun m v4 v10 wr=>∃k:Nat,v10=.int .i64 k/\k<=b.length/\b.length-k<=m/\yG w wr/\((b.take k).all fun x=>Ee (d.map rN) (AB (c.map oN) (b.map iN) (h.map uN)) x.1.fields)=true)
 case atStart=>exact⟨0,rfl,wZ _,by omega,wR _ _,by simp⟩
 case round=>
  obtain⟨k,rfl,ab,ae,hb,I⟩:=hrel;have C:=Aa I;clear I;by_cases P:k<b.length
  ·have q:=wS P
   have r:=K.o.below hb;obtain⟨g,Y,B,z⟩:=r.i.cell (fun _=>rfl) k _ q;cases B;have Q:=r.i.ok _ (wT q);have Z:wr.cell? ⟨g,k*2,none⟩=some (.string b[k].1.name):=by simpa using z 0 _ rfl
   have aa:wr.cell? ⟨g,k*2+1,none⟩=some b[k].2:=z 1 _ rfl;have s:=M.o _ (wT q);have E:=Aa q;clear q z;generalize b[k]=y at*;obtain⟨⟨X,t⟩,ag⟩:=y;obtain⟨A,af⟩:=Q;simp only[]at*;obtain⟨N,O,rfl⟩:=A.slice;have j:=UZ (wr.alloc (.cells #[.string X,.slice N t.length O] 268)) S _ _ _ _ _ d c b h names _ S t (r.below ((wR _ _).alloc (wQ _) _)) (A.stays (Ap.alloc _) (Ap.alloc _)) (by omega) s;clear r A;have u:=Aa (show((b.take (k+1)).all fun x=>Ee (d.map rN) (AB (c.map oN) (b.map iN) (h.map uN)) x.1.fields)=Ee (d.map rN) (AB (c.map oN) (b.map iN) (h.map uN)) t from by
    rw[xL,E.o,List.all_append,C.o];simp)
   cases p:Ee (d.map rN) (AB (c.map oN) (b.map iN) (h.map uN)) t
   ·rw[p]at j
    have L:=Aa (show J=false from by
     rw[<-D.o,Bool.eq_false_iff];intro H;rw[xP]at H;have:=H _ (wT E.o);simp only[]at this;rw[p]at this;cases this)
    clear p u;go_wp2_with fail;refine j.mono ?_;clear j;rintro e w1 ⟨rfl,n⟩;have v:yG w w1:=(hb.alloc hb.size _).trans (n.mono (by have:=hb.size;simp;omega));clear n;go_wp2;go_ret;exact⟨Al (by rw[L.o]),v⟩
   ·rw[p]at j u
    clear p;go_wp2_with fail;refine j.mono ?_;clear j;rintro e w1 ⟨rfl,n⟩;have v:yG w w1:=(hb.alloc hb.size _).trans (n.mono (by have:=hb.size;simp;omega));clear n;go_wp2;go_roundg (b.length-(k+1))
    case measure=>omega
    case rel=>exact⟨k+1,by go_num,by omega,wQ _,v,u.o⟩
  ·go_wp2
   go_ret;exact⟨Al (by
    rw[<-D.o];have F:=C.o;rw[xB (by omega)]at F;exact F.symm),hb⟩
theorem vD(w:World)(S:Nat)(U T Q V R:Value)(D:List (Au×Value))(d:List (Aq×Value×Value×Value))(c:List (At×Value))(b:List (Aw×Value))(names:List yF)(h:SV w S U T Q V R D d c b names)(p:∀x∈b,∀y∈x.1.members,y.size<=4000):
 Calls prog 88 #[.pointer (some ⟨S,0,none⟩)] w fun e w'=>e=.returned (.bool (b.all fun x=>El (AB (d.map oN) (c.map iN) (b.map uN)) 2 x.1.members))/\yG w w':=by
 have J:=Aa h;have L:=Aa p;have ab:=h.lu;obtain⟨a,cap,z⟩:=An h.u.own;subst z;have c0:w.cell? ⟨S,3,none⟩=some (.slice a b.length cap):=Ac h.sc 3;generalize F:(b.all fun x=>El (AB (d.map oN) (c.map iN) (b.map uN)) 2 x.1.members)=I at*;have B:=Aa F;clear h p F;go_enter func88,ntmps88;go_wp2;go_loopg [4,10] b.length (fun m v4 v10 wr=>∃k:Nat,v10=.int .i64 k/\k<=b.length/\b.length-k<=m/\yG w wr/\((b.take k).all fun x=>El (AB (d.map oN) (c.map iN) (b.map uN)) 2 x.1.members)=true)
 case atStart=>exact⟨0,rfl,wZ _,by omega,wR _ _,by simp⟩
 case round=>
  obtain⟨k,rfl,aa,ad,hb,H⟩:=hrel;have A:=Aa H;clear H;by_cases O:k<b.length
  ·have l:=wS O
   have n:=J.o.below hb;obtain⟨g,X,z,t⟩:=n.u.cell (fun _=>rfl) k _ l;cases z;have P:=n.u.ok _ (wT l);have Y:wr.cell? ⟨g,k*2,none⟩=some (.string b[k].1.name):=by simpa using t 0 _ rfl
   have Z:wr.cell? ⟨g,k*2+1,none⟩=some b[k].2:=t 1 _ rfl;have p:=L.o _ (wT l);have C:=Aa l;clear l t;generalize b[k]=y at*;obtain⟨⟨W,q⟩,af⟩:=y;obtain⟨v,ae⟩:=P;simp only[]at*;obtain⟨M,N,rfl⟩:=An v;have f:=Uc (wr.alloc (.cells #[.string W,.slice M q.length N] 271)) S _ _ _ _ _ D d c b names _ q 2 (n.below ((wR _ _).alloc (wQ _) _)) ((DU.of_own v).below ((wR _ _).alloc (wQ _) _)) (by omega) p;clear n v;have r:=Aa (show((b.take (k+1)).all fun x=>El (AB (d.map oN) (c.map iN) (b.map uN)) 2 x.1.members)=El (AB (d.map oN) (c.map iN) (b.map uN)) 2 q from by
    rw[xL,C.o,List.all_append,A.o];simp)
   cases j:El (AB (d.map oN) (c.map iN) (b.map uN)) 2 q
   ·rw[j]at f
    have K:=Aa (show I=false from by
     rw[<-B.o,Bool.eq_false_iff];intro G;rw[xP]at G;have:=G _ (wT C.o);simp only[]at this;rw[j]at this;cases this)
    clear j r;go_wp2_with fail;refine f.mono ?_;clear f;rintro e w1 ⟨rfl,i⟩;have s:yG w w1:=(hb.alloc hb.size _).trans (i.mono (by have:=hb.size;simp;omega));clear i;go_wp2;go_ret;exact⟨Al (by rw[K.o]),s⟩
   ·rw[j]at f r
    clear j;go_wp2_with fail;refine f.mono ?_;clear f;rintro e w1 ⟨rfl,i⟩;have s:yG w w1:=(hb.alloc hb.size _).trans (i.mono (by have:=hb.size;simp;omega));clear i;go_wp2;go_roundg (b.length-(k+1))
    case measure=>omega
    case rel=>exact⟨k+1,by go_num,by omega,wQ _,s,r.o⟩
  ·go_wp2
   go_ret;exact⟨Al (by
    rw[<-B.o];have E:=A.o;rw[xB (by omega)]at E;exact E.symm),hb⟩
def Ll(l:List yF):Bool:=(l.all fun x=>!Ep x)&&Dq l
theorem SV.shapedN{w:World}{S:Nat}{u t s v i:Value}{p:List (Au×Value)}{m:List (Aq×Value×Value×Value)}{l:List (At×Value)}{q:List (Aw×Value)}{names:List yF}(b:SV w S u t s v i p m l q names):Hq NZ w i 1 names:=by
 obtain⟨a,cap,c⟩:=An b.n;refine⟨a,cap,c,?_⟩;rcases b.n.2 with⟨e,r⟩|⟨g,y,z,f,_⟩
 ·left;exact xE r
 ·right
  rw[c]at f;cases f;refine⟨g,rfl,fun j x h=>⟨?_,fun k A B=>by omega⟩⟩;have d:=b.n;rw[c]at d;have C:=(wU.1 h).1;have:=d.cellAt j (by omega);rw[Nat.mul_one];simpa [Bn,h]using this
theorem oH(w:World)(S:Nat)(V U R W T:Value)(J:List (Au×Value))(I:List (Aq×Value×Value×Value))(H:List (At×Value))(K:List (Aw×Value))(names:List yF)(c:SV w S V U R W T J I H K names)(E:∀x∈names,x.size<=4000):
 Calls prog 85 #[.pointer (some ⟨S,0,none⟩)] w fun e w'=>e=.returned (.bool (Ll names))/\yG w w':=by
 have F:=Aa c;have G:=Aa E;have ad:=c.ln;obtain⟨a,cap,Q⟩:=An c.n;subst Q;have c0:w.cell? ⟨S,4,none⟩=some (.slice a names.length cap):=Ac c.sc 4;have s:=Aa (show Ll names=((names.all fun x=>!Ep x)&&Dq names)from rfl);generalize Ll names=q at*;clear c E;go_enter func85,ntmps85;go_wp2;go_loopg [4,10] names.length (fun m v4 v10 wr=>∃k:Nat,v10=.int .i64 k/\k<=names.length/\names.length-k<=m/\yG w wr/\((names.take k).all fun x=>!Ep x)=true)
 case atStart=>exact⟨0,rfl,wZ _,by omega,wR _ _,by simp⟩
 case round=>
  obtain⟨k,rfl,ab,ae,hb,C⟩:=hrel;have r:=Aa C;clear C;have f:=F.o.below hb;have Z:wr.cell? ⟨S,4,none⟩=some (.slice a names.length cap):=Ac f.sc 4;by_cases l:k<names.length
  ·have p:=wS l
   obtain⟨Y,aa,L,z⟩:=f.shapedN;cases L;obtain⟨g,M,A⟩:∃g,a=some ⟨g,0,none⟩/\∀(j:Nat) (x:yF),names[j]?=some x->wr.cell? ⟨g,j*1,none⟩=some (.string x)/\∀k,0<k->k<1->∃u,wr.cell? ⟨g,j*1+k,none⟩=some u/\NZ k u:=by
    rcases z with e|e
    ·rw[e]at l;simp at l
    ·exact e
   subst M;have P:=(A k _ p).1;simp only[Nat.mul_one]at P;have t:=Aa p;clear p A z f;generalize names[k]=y at*;have hs:=Nz y;have i:=Aa (show((names.take (k+1)).all fun x=>!Ep x)=!Ep y from by
    rw[xL,t.o,List.all_append,r.o];simp)
   cases d:Ep y
   ·rw[d]at hs i
    clear d;go_wp2_with fail;refine(hs _).mono ?_;rintro e w1 ⟨rfl,b⟩;have b:=b.symm;subst b;have O:yG w (wr.alloc (.cells #[.string y] 132)):=hb.alloc hb.size _;go_wp2;go_roundg (names.length-(k+1))
    case measure=>omega
    case rel=>exact⟨k+1,by go_num,by omega,wQ _,O,i.o⟩
   ·rw[d]at hs
    have h:=Aa (show q=false from by
     rw[s.o,Bool.and_eq_false_iff];left;rw[Bool.eq_false_iff];intro B;rw[xP]at B;have:=B _ (wT t.o);rw[d]at this;cases this)
    clear d i;go_wp2_with fail;refine(hs _).mono ?_;rintro e w1 ⟨rfl,b⟩;have b:=b.symm;subst b;go_wp2;go_ret;exact⟨Al (by rw[h.o]),hb.alloc hb.size _⟩
  ·have D:=dY wr _ names f.shapedN (by omega) G.o
   have h:=Aa (show q=Dq names from by
    rw[s.o];have v:=r.o;rw[xB (by omega)]at v;rw[v];rfl)
   generalize Dq names=X at*;clear f;go_wp2_with fail;refine D.mono ?_;clear D;rintro e w1 ⟨rfl,N⟩;go_wp2;go_ret;exact⟨Al (by rw[h.o]),hb.trans (N.mono hb.size)⟩
def Iu:yF:=⟨#[81,117,101,114,121]⟩
def IJ(l:List Aq):Bool:=if Af (l.map Aq.name) Iu<0 then false else match l[(Af (l.map Aq.name) Iu).toNat]? with
 |some o=>o.rule.isNone
 |none=>false
theorem rY(w:World)(S:Nat)(D r B E C:Value)(t:List (Au×Value))(a:List (Aq×Value×Value×Value))(s:List (At×Value))(u:List (Aw×Value))(names:List yF)(d:SV w S D r B E C t a s u names):
 Calls prog 89 #[.pointer (some ⟨S,0,none⟩)] w fun e w'=>e=.returned (.bool (IJ (a.map Prod.fst)))/\yG w w':=by
 have b:=NX w S D r B E C t a s u names Iu d;have q:=Hc d.rowObject Iu;have l:(a.map Prod.fst).map Aq.name=a.map oN:=by rw[List.map_map];rfl
 have i:=Ib (a.map oN) Iu;by_cases f:Af (a.map oN) Iu<0
 ·rw[q.1 f]at b
  have h:=Aa (show IJ (a.map Prod.fst)=false from by unfold IJ;rw[l,xH f]);generalize IJ (a.map Prod.fst)=F at*;clear d q l i f;go_enter func89,ntmps89;go_wp2_with fail;refine b.mono ?_;clear b;rintro e w1 ⟨rfl,c⟩;go_wp2;go_ret;exact⟨Al (by rw[h.o]),c⟩
 ·obtain⟨j,k⟩:∃j:Nat,Af (a.map oN) Iu=j:=⟨(Af (a.map oN) Iu).toNat,by omega⟩
  have H:j<a.length:=by rw[k]at i;simp at i;omega
  have n:=wS H;obtain⟨g,cap,A,x⟩:=d.o.cell (fun _=>rfl) j _ n;have v:w.cell? ⟨g,j*4+3,none⟩=some a[j].2.2.2:=x 3 _ rfl;have z:=d.o.ok _ (wT n);have m:=z.2.2.2.2;have h:=Aa (show IJ (a.map Prod.fst)=a[j].1.rule.isNone from by
   unfold IJ;rw[l,xG f,k];simp only[xS];rw[xI,n];rfl)
  rw[show AC r 4 (Af (a.map oN) Iu)=.pointer (some ⟨g,j*4,none⟩)from by unfold AC;rw[xG f,k,A];simp]at b;generalize IJ (a.map Prod.fst)=F at*;clear d q l i f x A n z k;generalize a[j]=y at*;obtain⟨⟨Q,O,P,J⟩,M,N,I⟩:=y;simp only[]at*;cases J with
  |none=>
   have p:I=.pointer none:=m;subst p;clear m;go_enter func89,ntmps89;go_wp2_with fail;refine b.mono ?_;clear b;rintro e w1 ⟨rfl,c⟩;have G:=Ah c v;go_wp2;go_ret;exact⟨Al (by rw[h.o];rfl),c⟩
  |some L=>
   obtain⟨K,p⟩:=BG.ptr (And.left m);subst p;clear m;go_enter func89,ntmps89;go_wp2_with fail;refine b.mono ?_;clear b;rintro e w1 ⟨rfl,c⟩;have G:=Ah c v;go_wp2;go_ret;exact⟨Al (by rw[h.o];rfl),c⟩
theorem tS:∀(t u:Bv) (w:World) (B C:Nat) (v v':Value),Bx w B v t->Bx w C v' u->
 Calls prog 232 #[v,v'] w fun e w'=>e=.returned (.bool (EF t u))/\∃m,w'=w.drewN m:=by
 intro t
 induction t with
 |one n s=>
  intro u w B C v v' q g;obtain⟨k,rfl,_,hb⟩:=q;have c0:w.cell? ⟨k,0,none⟩=some (.string n):=Ac hb 0;have c1:w.cell? ⟨k,1,none⟩=some (.int .i64 0):=Ac hb 1;have c3:w.cell? ⟨k,3,none⟩=some (.bool s):=Ac hb 3;clear hb;cases u with
  |one m r=>
   obtain⟨d,rfl,_,c⟩:=g;have L:w.cell? ⟨d,0,none⟩=some (.string m):=Ac c 0;have l:w.cell? ⟨d,1,none⟩=some (.int .i64 0):=Ac c 1;have p:w.cell? ⟨d,3,none⟩=some (.bool r):=Ac c 3;clear c;have f:=Aa (show EF (.one n s) (.one m r)=((s==r)&&(n.toList==m.toList))from by rw[EF,Cy]);generalize EF (.one n s) (.one m r)=E at*;cases s<;>cases r;all_goals(
    go_enter func232,ntmps232;go_wp2;go_quiet (fail);go_wp2_with fail;try(go_quiet (fail);go_wp2_with fail)
    go_ret;exact⟨Al (by rw[f.o];simp),by first|exact⟨_,World.drewN_drewN _ _ _⟩|exact⟨_,rfl⟩⟩)
  |list b r=>
   obtain⟨d,u1,rfl,_,c,_⟩:=g;have l:w.cell? ⟨d,1,none⟩=some (.int .i64 1):=Ac c 1;have p:w.cell? ⟨d,3,none⟩=some (.bool r):=Ac c 3;clear c;rw[show EF (.one n s) (.list b r)=false from rfl];go_enter func232,ntmps232;go_wp2;go_quiet (fail);go_wp2;go_ret;exact⟨rfl,_,rfl⟩
 |list a s D=>
  intro u w B C v v' q g;obtain⟨k,M,rfl,_,hb,x⟩:=q;obtain⟨I,rfl⟩:=x.ptr;have c1:w.cell? ⟨k,1,none⟩=some (.int .i64 1):=Ac hb 1;have c2:w.cell? ⟨k,2,none⟩=some (.pointer (some ⟨I,0,none⟩)):=Ac hb 2;have c3:w.cell? ⟨k,3,none⟩=some (.bool s):=Ac hb 3;clear hb;cases u with
  |one m r=>
   obtain⟨d,rfl,_,c⟩:=g;have l:w.cell? ⟨d,1,none⟩=some (.int .i64 0):=Ac c 1;have p:w.cell? ⟨d,3,none⟩=some (.bool r):=Ac c 3;clear c;rw[show EF (.list a s) (.one m r)=false from rfl];go_enter func232,ntmps232;go_wp2;go_quiet (fail);go_wp2;go_ret;exact⟨rfl,_,rfl⟩
  |list b r=>
   obtain⟨d,N,rfl,_,c,y⟩:=g;obtain⟨J,rfl⟩:=y.ptr;have l:w.cell? ⟨d,1,none⟩=some (.int .i64 1):=Ac c 1;have A:w.cell? ⟨d,2,none⟩=some (.pointer (some ⟨J,0,none⟩)):=Ac c 2;have p:w.cell? ⟨d,3,none⟩=some (.bool r):=Ac c 3;clear c;have h:=Aa (fun(n m:Nat)=>D b ((w.drewN n).drewN m) B C _ _ (x.stays (Ap.of_below (below_drewN (below_drewN (wR _ _) n) m))) (y.stays (Ap.of_below (below_drewN (below_drewN (wR _ _) n) m))));have f:=Aa (show EF (.list a s) (.list b r)=((s==r)&&EF a b)from rfl);generalize EF (.list a s) (.list b r)=E at*;generalize EF a b=K at*;clear D x y;cases s<;>cases r
   ·go_enter func232,ntmps232
    go_wp2;go_quiet (fail);go_wp2_with fail;have G:=Ah (below_drewN (wR _ _) nq) c2;have H:=Ah (below_drewN (wR _ _) nq) A;have i:=Aa (fun m=>h.o nq m);have j:=Aa (show∀m,∃z,(w.drewN nq).drewN m=w.drewN z from fun m=>⟨_,World.drewN_drewN _ _ _⟩);clear h;generalize w.drewN nq=F at*;go_quiet (first|(go_at_call 232;refine Calls.quiet_of (i.o _)));go_wp2;go_ret;exact⟨Al (by rw[f.o];simp),j.o _⟩
   ·go_enter func232,ntmps232
    go_wp2;go_quiet (fail);go_wp2;go_ret;exact⟨Al (by rw[f.o];simp),_,rfl⟩
   ·go_enter func232,ntmps232
    go_wp2;go_quiet (fail);go_wp2;go_ret;exact⟨Al (by rw[f.o];simp),_,rfl⟩
   ·go_enter func232,ntmps232
    go_wp2;go_quiet (fail);go_wp2_with fail;have G:=Ah (below_drewN (wR _ _) nq) c2;have H:=Ah (below_drewN (wR _ _) nq) A;have i:=Aa (fun m=>h.o nq m);have j:=Aa (show∀m,∃z,(w.drewN nq).drewN m=w.drewN z from fun m=>⟨_,World.drewN_drewN _ _ _⟩);clear h;generalize w.drewN nq=F at*;go_quiet (first|(go_at_call 232;refine Calls.quiet_of (i.o _)));go_wp2;go_ret;exact⟨Al (by rw[f.o];simp),j.o _⟩
def LX(f g:Am):Bool:=(f.name.toList==g.name.toList)&&((f.auth.toList==g.auth.toList)&&((f.hide_.toList==g.hide_.toList)&&((f.arg.toList==g.arg.toList)&&((f.scalar.toList==g.scalar.toList)&&EF f.ty g.ty))))
theorem iE(w:World)(g o m p B C:Nat)(f a:Am)(u l:Value)(H:Cn w g o f u)(I:Cn w m p a l)(i:Bx w B u f.ty)(j:Bx w C l a.ty):
 Calls prog 185 #[.pointer (some ⟨g,o,none⟩),.pointer (some ⟨m,p,none⟩)] w fun e w'=>e=.returned (.bool (LX f a))/\yG w w':=by
 obtain⟨c0,c1,c2,c3,c4,L⟩:=H;obtain⟨M,N,O,P,Q,R⟩:=I;have r:=Aa (fun(n:Nat)=>tS f.ty a.ty (w.drewN n) B C u l (i.stays (Ap.of_below (below_drewN (wR _ _) n))) (j.stays (Ap.of_below (below_drewN (wR _ _) n))));obtain⟨S,rfl⟩:=i.ptr;obtain⟨T,rfl⟩:=j.ptr;have b:=Aa (show LX f a=((f.name.toList==a.name.toList)&&((f.auth.toList==a.auth.toList)&&((f.hide_.toList==a.hide_.toList)&&((f.arg.toList==a.arg.toList)&&((f.scalar.toList==a.scalar.toList)&&EF f.ty a.ty)))))from rfl);generalize LX f a=J at*;clear i j;obtain⟨v,s,t,y,fs,x⟩:=f;obtain⟨D,z,A,G,E,F⟩:=a;simp only[]at*;generalize EF x F=K at*;cases c:(v.toList==D.toList)
 ·rw[c]at b
  go_enter func185,ntmps185;go_wp2;go_quiet (fail);go_wp2;go_ret;exact⟨Al (by rw[b.o];rfl),below_drewN (wR _ _) _⟩
 ·skip
  cases d:(s.toList==z.toList)
  ·rw[c,d]at b
   go_enter func185,ntmps185;go_wp2;go_quiet (fail);go_wp2;go_ret;exact⟨Al (by rw[b.o];rfl),below_drewN (wR _ _) _⟩
  ·skip
   cases h:(t.toList==A.toList)
   ·rw[c,d,h]at b
    go_enter func185,ntmps185;go_wp2;go_quiet (fail);go_wp2;go_ret;exact⟨Al (by rw[b.o];rfl),below_drewN (wR _ _) _⟩
   ·skip
    cases k:(y.toList==G.toList)
    ·rw[c,d,h,k]at b
     go_enter func185,ntmps185;go_wp2;go_quiet (fail);go_wp2;go_ret;exact⟨Al (by rw[b.o];rfl),below_drewN (wR _ _) _⟩
    ·skip
     cases q:(fs.toList==E.toList)
     ·rw[c,d,h,k,q]at b
      go_enter func185,ntmps185;go_wp2;go_quiet (fail);go_wp2;go_ret;exact⟨Al (by rw[b.o];rfl),below_drewN (wR _ _) _⟩
     ·skip
      rw[c,d,h,k,q]at b;go_enter func185,ntmps185;go_wp2;go_quiet (first|(go_at_call 232;refine Calls.quiet_of (r.o _)));go_wp2;go_ret;exact⟨Al (by rw[b.o];simp),below_drewN (wR _ _) _⟩
def JF(ifs:List At)(n:yF):List Am:=match ifs[(Af (ifs.map At.name) n).toNat]? with
 |some i=>i.fields
 |none=>[]
def Fr(l:List Am)(f:Am):Bool:=if Af (l.map Am.name) f.name<0 then false else match l[(Af (l.map Am.name) f.name).toNat]? with
 |some g=>LX f g
 |none=>false
def JG(kind:yF->Nat)(ifs:List At)(a:List yF)(l:List Am):Bool:=El kind 3 a&&a.all fun n=>(JF ifs n).all (Fr l)
theorem VK{objs ifs uns:List yF}{x:yF}(a:AB objs ifs uns x=3):¬Af ifs x<0:=by
 unfold AB at a;split at a
 ·cases a
 ·split at a
  ·cases a
  ·split at a
   ·rename_i b;unfold has at b;simpa using b
   ·split at a<;>cases a
theorem tR(w:World)(B:Nat)(c:Value)(a:List (Am×Value))(l:List Am)(e:a.map Prod.fst=l)(k:BV w B 166 6 c Nu (PI B) a)(f:Am):
 (AC c 6 (Af (l.map Am.name) f.name)=.pointer none/\Fr l f=false)\/∃g o d u,AC c 6 (Af (l.map Am.name) f.name)=.pointer (some ⟨g,o,none⟩)/\Cn w g o d u/\Bx w B u d.ty/\Fr l f=LX f d:=by
 have r:Dc w c 6 (l.map Am.name):=by rw[<-Ku a l e];exact k.rowed fN (fun _=>rfl) (fun _=>rfl)
 have v:a.length=l.length:=by rw[<-e];simp
 by_cases b:Af (l.map Am.name) f.name<0
 ·left;exact⟨(Hc r f.name).1 b,by unfold Fr;rw[xH b]⟩
 ·right
  have i:=Ib (l.map Am.name) f.name;obtain⟨j,h⟩:∃j:Nat,Af (l.map Am.name) f.name=j:=⟨(Af (l.map Am.name) f.name).toNat,by omega⟩;have p:j<a.length:=by rw[h]at i;simp at i;omega
  have m:=wS p;obtain⟨g,cap,t,n,s⟩:=k.fldAt j _ m;have q:l[j]?=some a[j].1:=by rw[<-e,xI,m];rfl
  refine⟨g,j*6,a[j].1,a[j].2,?_,n,s,?_⟩
  ·unfold AC;rw[xG b,h,t];simp
  ·unfold Fr;rw[xG b,h];simp only[xS];rw[q]
theorem jJ(w:World)(S:Nat)(aA az ae aB ay:Value)(ah:List (Au×Value))(t:List (Aq×Value×Value×Value))(a:List (At×Value))(u:List (Aw×Value))(names:List yF)(M T:Nat)(I ax:Value)(l:List Am)(b:List yF)(ak:SV w S aA az ae aB ay ah t a u names)(bz:w.cell? ⟨M,T+1,none⟩=some I)(bw:w.cell? ⟨M,T+2,none⟩=some ax)(hF:DE w S I l)(X:w.ownsRow S 9 1 ax b.length (Bn b))(bW:l.length<=802)(bV:b.length<=803)(a8:∀x∈b,x.size<=4000):
 Calls prog 138 #[.pointer (some ⟨S,0,none⟩),.pointer (some ⟨M,T,none⟩)] w fun e w'=>e=.returned (.bool (JG (AB (t.map oN) (a.map iN) (u.map uN)) (a.map Prod.fst) b l))/\yG w w':=by
 have bf:=Aa ak;obtain⟨aL,aU,a6⟩:=hF.row;have aG:=Aa aU;have aI:=Aa a6;have bl:=Aa (DU.of_own X);have C:=Uc w S aA az ae aB ay ah t a u names ax b 3 ak (DU.of_own X) (by omega) a8;obtain⟨bp,bI,rfl⟩:=An X;have L:=Aa (show JG (AB (t.map oN) (a.map iN) (u.map uN)) (a.map Prod.fst) b l=(El (AB (t.map oN) (a.map iN) (u.map uN)) 3 b&&b.all fun n=>(JF (a.map Prod.fst) n).all (Fr l))from rfl);generalize JG (AB (t.map oN) (a.map iN) (u.map uN)) (a.map Prod.fst) b l=bd at*;have ag:=Aa (show El (AB (t.map oN) (a.map iN) (u.map uN)) 3 b=true->∀x∈b,(AB (t.map oN) (a.map iN) (u.map uN)) x=3 from fun E x H=>by
  unfold El at E;rw[xQ,xP]at E;simpa using E.2 x H)
 have bh:=Aa bz;have bg:=Aa bw;clear ak hF X a8 a6 aU;cases Q:El (AB (t.map oN) (a.map iN) (u.map uN)) 3 b
 ·rw[Q]at C L
  clear ag Q;go_enter func138,ntmps138;go_wp2_with fail;refine C.mono ?_;clear C;rintro e w1 ⟨rfl,N⟩;go_wp2;go_ret;exact⟨Al (by rw[L.o];rfl),N⟩
 ·rw[Q]at C L
  have bj:=Aa (ag.o Q);clear ag Q;go_enter func138,ntmps138;go_wp2_with fail;refine C.mono ?_;clear C;rintro e w1 ⟨rfl,N⟩;have bx:=Ah N bg.o;go_wp2;go_loopg [6,8,9,22,32,33,34] b.length (fun m v6 v8 v9 v22 v32 v33 v34 wr=>∃k:Nat,v22=.int .i64 k/\k<=b.length/\b.length-k<=m/\yG w wr/\((b.take k).all fun n=>(JF (a.map Prod.fst) n).all (Fr l))=true)
  case atStart=>exact⟨0,rfl,wZ _,by omega,N,by simp⟩
  case round=>
   clear N bx;obtain⟨D,rfl⟩:∃D:World,D=wr:=⟨_,rfl⟩;obtain⟨k,rfl,C,bY,hb,aW⟩:=hrel;have aC:=Aa aW;clear aW;by_cases aq:k<b.length
   ·have H:=wS aq
    obtain⟨bG,bJ,aN,_,aR⟩:=bl.o.below hb;cases aN;obtain⟨g,aw,bt,aS⟩:∃g aw,bp=some ⟨g,aw,none⟩/\∀(j:Nat) (x:yF),b[j]?=some x->D.cell? ⟨g,aw+j,none⟩=some (.string x):=by
     rcases aR with e|e
     ·rw[e]at aq;simp at aq
     ·exact e
    subst bt;have bT:=aS k _ H;have a3:=bj.o _ (wT H);have aJ:=Aa H;clear H aS aR;generalize b[k]=y at*;have ab:=bf.o.below hb;have ap:=SL D S aA az ae aB ay ah t a u names y ab;have a4:=VK a3;have am:=Ib (a.map iN) y;obtain⟨j,aa⟩:∃j:Nat,Af (a.map iN) y=j:=⟨(Af (a.map iN) y).toNat,by omega⟩;have bB:j<a.length:=by rw[aa]at am;simp at am;omega
    have ad:=wS bB;obtain⟨aP,bK,bE,aZ⟩:=ab.i.cell (fun _=>rfl) j _ ad;have bD:=ab.i.ok _ (wT ad);rw[show AC ae 2 (Af (a.map iN) y)=.pointer (some ⟨aP,j*2,none⟩)from by unfold AC;rw[xG a4,aa,bE];simp]at ap;have aM:D.cell? ⟨aP,j*2+1,none⟩=some a[j].2:=aZ 1 _ rfl;have aF:=Aa (show JF (a.map Prod.fst) y=a[j].1.fields from by
     unfold JF;rw[show(a.map Prod.fst).map At.name=a.map iN from by rw[List.map_map];rfl,aa];simp only[xS];rw[xI,ad];rfl)
    clear aZ ad a4 a3 aa am;generalize a[j]=z at*;obtain⟨⟨b2,bc⟩,b3⟩:=z;obtain⟨ba,b0⟩:=bD;simp only[]at*;obtain⟨v,al,ar⟩:=ba.row;have bX:v.length=bc.length:=by rw[<-al];simp
    obtain⟨bH,bM,rfl⟩:=An ar.own;have aH:=Aa al;have bk:=Aa ar;have bo:=Aa (show((b.take (k+1)).all fun n=>(JF (a.map Prod.fst) n).all (Fr l))=bc.all (Fr l)from by
     rw[xL,aJ.o,List.all_append,aC.o];simp[aF.o])
    clear ba al ar ab;go_wp2_with fail;refine ap.mono ?_;clear ap;rintro e w2 ⟨rfl,Y⟩;have bq:=Ah Y aM;have bu:yG w w2:=hb.trans (Y.mono hb.size);go_wp2;go_loopg [8,9,34] v.length (fun m v8 v9 v34 wr=>∃i:Nat,v34=.int .i64 i/\i<=v.length/\v.length-i<=m/\yG D wr/\((v.take i).all fun x=>Fr l x.1)=true)
    case atStart=>exact⟨0,rfl,wZ _,by omega,Y,by simp⟩
    case round=>
     obtain⟨i,rfl,bU,bZ,O,aX⟩:=hrel;have aD:=Aa aX;clear aX;have ao:yG w wr:=hb.trans (O.mono hb.size);clear Y bu aM bq;by_cases bC:i<v.length
     ·have av:=wS bC
      obtain⟨bS,bL,bF,a0,a9⟩:=bk.o.fldAt i _ av;cases bF;have bA:=a0.below O;have au:=a9.stays (Ap.of_below O);have aK:=Aa av;clear av a0 a9;generalize v[i]=q at*;obtain⟨⟨c,d,f,p,h,qt⟩,b1⟩:=q;simp only[]at*;obtain⟨r,rfl⟩:=au.ptr;obtain⟨bN,aN,bO,bP,bQ,bR⟩:=bA;simp only[]at*;have aT:Cn (wr.alloc (.cells #[.string c,.string d,.string f,.string p,.string h,.pointer (some ⟨r,0,none⟩)] 166)) wr.heap.size 0 ⟨c,d,f,p,h,qt⟩ (.pointer (some ⟨r,0,none⟩)):=⟨by simp,by simp,by simp,by simp,by simp,by simp⟩;have aV:=au.stays (Ap.alloc (.cells #[.string c,.string d,.string f,.string p,.string h,.pointer (some ⟨r,0,none⟩)] 166));have G:yG w (wr.alloc (.cells #[.string c,.string d,.string f,.string p,.string h,.pointer (some ⟨r,0,none⟩)] 166)):=ao.alloc ao.size _;have aY:yG D (wr.alloc (.cells #[.string c,.string d,.string f,.string p,.string h,.pointer (some ⟨r,0,none⟩)] 166)):=O.alloc O.size _;have a5:Dc w I 6 (l.map Am.name):=by rw[<-Ku aL l aG.o];exact aI.o.rowed fN (fun _=>rfl) (fun _=>rfl)
      have J:=Aa (show∀W,Below (wr.alloc (.cells #[.string c,.string d,.string f,.string p,.string h,.pointer (some ⟨r,0,none⟩)] 166)).heap.size (wr.alloc (.cells #[.string c,.string d,.string f,.string p,.string h,.pointer (some ⟨r,0,none⟩)] 166)) W->Calls prog 142 #[.pointer (some ⟨M,T,none⟩),.string c] W fun e w'=>e=.returned (AC I 6 (Af (l.map Am.name) c))/\Below (wr.alloc (.cells #[.string c,.string d,.string f,.string p,.string h,.pointer (some ⟨r,0,none⟩)] 166)).heap.size (wr.alloc (.cells #[.string c,.string d,.string f,.string p,.string h,.pointer (some ⟨r,0,none⟩)] 166)) w' from fun W s=>
       (OT W M T I c (l.map Am.name) (Ah (G.trans (s.mono G.size)) bh.o) (a5.below (G.trans (s.mono G.size))) (by simp;omega)).mono (fun e w' ⟨ai,aj⟩=>⟨ai,s.trans (aj.mono s.size)⟩))
      have a7:=tR w S I aL l aG.o aI.o ⟨c,d,f,p,h,qt⟩;simp only[]at a7;have V:=Aa (show((v.take (i+1)).all fun x=>Fr l x.1)=Fr l ⟨c,d,f,p,h,qt⟩from by
       rw[xL,aK.o,List.all_append,aD.o];simp)
      have K:=Aa (show Fr l ⟨c,d,f,p,h,qt⟩=false->bd=false from fun hF=>by
       rw[L.o,Bool.true_and,Bool.eq_false_iff];intro E;rw[xP]at E;have B:=E y (wT aJ.o);rw[aF.o,xP]at B;have aQ:=B ⟨c,d,f,p,h,qt⟩ (by rw[<-aH.o];exact List.mem_map_of_mem (wT aK.o));rw[hF]at aQ;cases aQ)
      have A:=Aa G;have aE:=Aa aY;have bi:=Aa aT;have bm:=Aa aV;clear G aY aT aV a5 au;rcases a7 with⟨P,hs⟩|⟨aO,bb,br,bs,P,a1,a2,hs⟩
      ·rw[P]at J
       have af:=Aa (K.o hs);clear P hs K V;go_wp2;go_region_with (go_at_call 142;refine(J.o _ ?_).mono ?_;(first|exact(wR _ _).drew|exact wR _ _);rintro e w3 ⟨rfl,F⟩);all_goals(
        go_wp2;go_ret;exact⟨Al (by rw[af.o]),A.o.trans (F.mono A.o.size)⟩)
      ·rw[P]at J
       have U:=Aa (show∀W,Below (wr.alloc (.cells #[.string c,.string d,.string f,.string p,.string h,.pointer (some ⟨r,0,none⟩)] 166)).heap.size (wr.alloc (.cells #[.string c,.string d,.string f,.string p,.string h,.pointer (some ⟨r,0,none⟩)] 166)) W->Calls prog 185 #[.pointer (some ⟨wr.heap.size,0,none⟩),.pointer (some ⟨aO,bb,none⟩)] W fun e w'=>e=.returned (.bool (Fr l ⟨c,d,f,p,h,qt⟩))/\Below (wr.alloc (.cells #[.string c,.string d,.string f,.string p,.string h,.pointer (some ⟨r,0,none⟩)] 166)).heap.size (wr.alloc (.cells #[.string c,.string d,.string f,.string p,.string h,.pointer (some ⟨r,0,none⟩)] 166)) w' from fun W s=>by
        rw[hs];exact(iE W wr.heap.size 0 aO bb S S ⟨c,d,f,p,h,qt⟩ br _ bs (bi.o.below s) (a1.below (A.o.trans (s.mono A.o.size))) (bm.o.stays (Ap.of_below s)) (a2.stays (Ap.of_below (A.o.trans (s.mono A.o.size))))).mono (fun e w' ⟨ai,aj⟩=>⟨ai,s.trans (aj.mono s.size)⟩))
       clear P hs a1 a2;cases R:Fr l ⟨c,d,f,p,h,qt⟩
       ·rw[R]at U
        have af:=Aa (K.o R);clear R K V;go_wp2;go_region_with (go_at_call 142;refine(J.o _ ?_).mono ?_;(first|exact(wR _ _).drew|exact wR _ _);rintro e w3 ⟨rfl,F⟩);all_goals(
         go_wp2_with fail;refine(U.o w3 F).mono ?_;rintro e w4 ⟨rfl,Z⟩;go_wp2;go_ret;exact⟨Al (by rw[af.o]),A.o.trans (Z.mono A.o.size)⟩)
       ·rw[R]at U V
        clear R K;go_wp2;go_region_with (go_at_call 142;refine(J.o _ ?_).mono ?_;(first|exact(wR _ _).drew|exact wR _ _);rintro e w3 ⟨rfl,F⟩);all_goals(
         go_wp2_with fail;refine(U.o w3 F).mono ?_;rintro e w4 ⟨rfl,Z⟩;have bv:=aE.o.trans (Z.mono aE.o.size);clear F Z;go_wp2;go_roundg (v.length-(i+1))
         case measure=>omega
         case rel=>exact⟨i+1,by go_num,by omega,wQ _,bv,V.o⟩)
     ·have bn:=Aa (show((b.take (k+1)).all fun n=>(JF (a.map Prod.fst) n).all (Fr l))=true from by
       rw[bo.o,<-aH.o,List.all_map];have B:=aD.o;rw[xB (by omega)]at B;exact B)
      go_wp2;go_roundg (b.length-(k+1))
      case measure=>omega
      case rel=>exact⟨k+1,by go_num,by omega,wQ _,ao,bn.o⟩
   ·go_wp2
    go_ret;exact⟨Al (by
     rw[L.o];have B:=aC.o;rw[xB (by omega)]at B;rw[B];rfl),hb⟩
def NU(roles:List yF)(l:List Am):Option (List Cx)->Bool
 |none=>true
 |some a=>a.all (ES roles l)
def Gf(roles:List yF)(kind:yF->Nat)(ifs:List At)(o:Aq):Bool:=Ee roles kind o.fields&&(JG kind ifs o.impl o.fields&&NU roles o.fields o.rule)
theorem pE(w:World)(S:Nat)(ax aw au ay av:Value)(h:List (Au×Value))(b:List (Aq×Value×Value×Value))(d:List (At×Value))(i:List (Aw×Value))(names:List yF)(D:SV w S ax aw au ay av h b d i names)(G:∀x∈b,(∀f∈x.1.fields,f.name.size<=4000)/\∀y∈x.1.impl,y.size<=4000):
 Calls prog 86 #[.pointer (some ⟨S,0,none⟩)] w fun e w'=>e=.returned (.bool (b.all fun x=>Gf (h.map rN) (AB (b.map oN) (d.map iN) (i.map uN)) (d.map Prod.fst) x.1))/\yG w w':=by
 have ah:=Aa D;have ai:=Aa G;have aF:=D.lo;obtain⟨a,cap,P⟩:=An D.o.own;subst P;have c0:w.cell? ⟨S,1,none⟩=some (.slice a b.length cap):=Ac D.sc 1;generalize aa:(b.all fun x=>Gf (h.map rN) (AB (b.map oN) (d.map iN) (i.map uN)) (d.map Prod.fst) x.1)=U at*;have Y:=Aa aa;clear D G aa;go_enter func86,ntmps86;go_wp2;go_loopg [3,4,10] b.length (fun m v3 v4 v10 wr=>∃k:Nat,v10=.int .i64 k/\k<=b.length/\b.length-k<=m/\yG w wr/\((b.take k).all fun x=>Gf (h.map rN) (AB (b.map oN) (d.map iN) (i.map uN)) (d.map Prod.fst) x.1)=true)
 case atStart=>exact⟨0,rfl,wZ _,by omega,wR _ _,by simp⟩
 case round=>
  obtain⟨k,rfl,aE,aG,hb,ad⟩:=hrel;have X:=Aa ad;clear ad;by_cases am:k<b.length
  ·have H:=wS am
   have q:=ah.o.below hb;have aC:wr.cell? ⟨S,1,none⟩=some (.slice a b.length cap):=Ac q.sc 1;obtain⟨g,aD,P,J⟩:=q.o.cell (fun _=>rfl) k _ H;cases P;have ao:=q.o.ok _ (wT H);have c1:wr.cell? ⟨g,k*4+1,none⟩=some b[k].2.1:=J 1 _ rfl;have c2:wr.cell? ⟨g,k*4+2,none⟩=some b[k].2.2.1:=J 2 _ rfl;have c3:wr.cell? ⟨g,k*4+3,none⟩=some b[k].2.2.2:=J 3 _ rfl;have G:=ai.o _ (wT H);have Z:=Aa H;clear H J;generalize b[k]=y at*;obtain⟨⟨aI,j,K,T⟩,af,az,ag⟩:=y;obtain⟨s,ak,F,al,t⟩:=ao;simp only[]at*;have p:=Aa (show((b.take (k+1)).all fun x=>Gf (h.map rN) (AB (b.map oN) (d.map iN) (i.map uN)) (d.map Prod.fst) x.1)=(Ee (h.map rN) (AB (b.map oN) (d.map iN) (i.map uN)) j&&(JG (AB (b.map oN) (d.map iN) (i.map uN)) (d.map Prod.fst) K j&&NU (h.map rN) j T))from by
    rw[xL,Z.o,List.all_append,X.o];simp[Gf])
   have u:=Aa (show(Ee (h.map rN) (AB (b.map oN) (d.map iN) (i.map uN)) j&&(JG (AB (b.map oN) (d.map iN) (i.map uN)) (d.map Prod.fst) K j&&NU (h.map rN) j T))=false->U=false from fun hF=>by
    rw[<-Y.o,Bool.eq_false_iff];intro ab;rw[xP]at ab;have:=ab _ (wT Z.o);simp only[Gf]at this;rw[hF]at this;cases this)
   have l:=UZ wr S _ _ _ _ _ h b d i names af S j q s (by omega) G.1;have A:=Aa (fun w' (z:yG wr w')=>jJ w' S _ _ _ _ _ h b d i names g (k*4) af az j K (q.below z) (Ah z c1) (Ah z c2) (s.stays (Ap.of_below z) (Ap.of_below z)) (AT F z) ak al G.2);obtain⟨aA,aB,rfl⟩:=s.slice;generalize Ee (h.map rN) (AB (b.map oN) (d.map iN) (i.map uN)) j=ap at*;generalize JG (AB (b.map oN) (d.map iN) (i.map uN)) (d.map Prod.fst) K j=aq at*;cases ap
   ·have B:=Aa (u.o rfl)
    clear u p q s F t A;go_wp2_with fail;refine l.mono ?_;clear l;rintro e w1 ⟨rfl,c⟩;have E:=hb.trans (c.mono hb.size);go_wp2;go_ret;exact⟨Al (by rw[B.o]),E⟩
   ·cases aq
    ·have B:=Aa (u.o rfl)
     clear u p q s F t;go_wp2_with fail;refine l.mono ?_;clear l;rintro e w1 ⟨rfl,c⟩;have E:=hb.trans (c.mono hb.size);have Q:=Ah c c3;go_wp2_with fail;refine(A.o w1 c).mono ?_;rintro e w2 ⟨rfl,v⟩;have n:=c.trans (v.mono c.size);have r:=hb.trans (n.mono hb.size);have R:=Ah n c3;go_wp2;go_ret;exact⟨Al (by rw[B.o]),r⟩
    ·cases T with
     |none=>
      have M:ag=.pointer none:=t;subst M;have C:=Aa (p.o.trans (by rfl:_=true));clear u p q s F t;have p:=C;clear C;go_wp2_with fail;refine l.mono ?_;clear l;rintro e w1 ⟨rfl,c⟩;have E:=hb.trans (c.mono hb.size);have Q:=Ah c c3;go_wp2_with fail;refine(A.o w1 c).mono ?_;rintro e w2 ⟨rfl,v⟩;have n:=c.trans (v.mono c.size);have r:=hb.trans (n.mono hb.size);have R:=Ah n c3;go_wp2;go_roundg (b.length-(k+1))
      case measure=>omega
      case rel=>exact⟨k+1,by go_num,by omega,wQ _,r,p.o⟩
     |some I=>
      have ae:JX wr (fun k=>S<=k) ag I:=by rw[<-And.right t];exact BG.leaves (And.left t)
      obtain⟨aH,M⟩:=BG.ptr (And.left t);subst M;have V:=Aa (fun W (aj:yG wr W)=>tF wr S _ _ _ _ _ h b d i names g (k*4) S _ j (fun k=>S<=k) q c1 s (by omega) _ I ae W aj);have C:=Aa (p.o.trans (by simp[NU]:_=I.all (ES (h.map rN) j)));have L:=Aa (show I.all (ES (h.map rN) j)=false->U=false from fun hF=>u.o (by simp only[NU,hF];rfl));clear u p q s F t ae;generalize I.all (ES (h.map rN) j)=ar at*;have p:=C;clear C;cases ar
      ·have B:=Aa (L.o rfl)
       clear L p;go_wp2_with fail;refine l.mono ?_;clear l;rintro e w1 ⟨rfl,c⟩;have E:=hb.trans (c.mono hb.size);have Q:=Ah c c3;go_wp2_with fail;refine(A.o w1 c).mono ?_;rintro e w2 ⟨rfl,v⟩;have n:=c.trans (v.mono c.size);have r:=hb.trans (n.mono hb.size);have R:=Ah n c3;go_wp2_with fail;refine(V.o w2 n).mono ?_;rintro e w3 ⟨rfl,O⟩;have N:=r.trans (O.mono r.size);go_wp2;go_ret;exact⟨Al (by rw[B.o]),N⟩
      ·clear L
       go_wp2_with fail;refine l.mono ?_;clear l;rintro e w1 ⟨rfl,c⟩;have E:=hb.trans (c.mono hb.size);have Q:=Ah c c3;go_wp2_with fail;refine(A.o w1 c).mono ?_;rintro e w2 ⟨rfl,v⟩;have n:=c.trans (v.mono c.size);have r:=hb.trans (n.mono hb.size);have R:=Ah n c3;go_wp2_with fail;refine(V.o w2 n).mono ?_;rintro e w3 ⟨rfl,O⟩;have N:=r.trans (O.mono r.size);go_wp2;go_roundg (b.length-(k+1))
       case measure=>omega
       case rel=>exact⟨k+1,by go_num,by omega,wQ _,N,p.o⟩
  ·go_wp2
   go_ret;exact⟨Al (by
    rw[<-Y.o];have l:=X.o;rw[xB (by omega)]at l;exact l.symm),hb⟩
end Go.Proofs.YtogdodlibkckkaaGreatDoor
