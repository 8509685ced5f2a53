import Derived.Test.YtogdodlibkckkaaGreatDoorZ09
import Derived.BigQuiet
namespace Go.Proofs.YtogdodlibkckkaaGreatDoor
set_option maxHeartbeats 20000000
set_option maxRecDepth 100000
open Go.RowKit Tryz
def Dc(w:World)(v:Value)(size:Nat)(l:List yF):Prop:=∃a cap,v=.slice a l.length cap/\(l=[]\/∃g,a=some ⟨g,0,none⟩/\∀(j:Nat) (x:yF),l[j]?=some x->w.cell? ⟨g,j*size,none⟩=some (.string x)/\∀k,0<k->k<size->∃u,w.cell? ⟨g,j*size+k,none⟩=some u)
theorem Dc.below{w w':World}{v:Value}{size:Nat}{l:List yF}(d:Dc w v size l)(hb:yG w w'):Dc w' v size l:=by
 obtain⟨a,cap,c,b⟩:=d;refine⟨a,cap,c,?_⟩;rcases b with b|⟨g,b,f⟩
 ·exact Or.inl b
 ·refine Or.inr ⟨g,b,fun j x h=>?_⟩
  obtain⟨c0,cs⟩:=f j x h;exact⟨Ah hb c0,fun k c e=>by obtain⟨u,i⟩:=cs k c e;exact⟨u,Ah hb i⟩⟩
theorem Ke(w:World)(n:yF):
 Calls prog 304 #[.agg #[.string n]] w fun e w'=>e=.returned (.string n)/\yG w w':=by
 go_enter func304,ntmps304;go_wp2;go_ret;exact⟨rfl,(wR _ _).alloc (wQ _) _⟩
theorem World.size_alloc_drew(w:World)(o:Obj):(w.alloc o).drew.heap.size=w.heap.size+1:=by
 show(w.alloc o).heap.size=_;simp
def AC(v:Value)(size:Nat)(q:Int):Value:=
 if q<0 then .pointer none else match v with
  | .slice (some a) _ _=>.pointer (some ⟨a.block,q.toNat*size,none⟩)
  |_=>.pointer none
theorem Vo:∀(l:List yF) (x:yF) (n:Nat), -1<=Fm l x n/\Fm l x n<n+l.length
 |[],_,n=>⟨by simp[Fm],by simp[Fm];omega⟩
 |y::l,x,n=>by
  rw[Fm];split
  ·simp;omega
  ·have:=Vo l x (n+1)
   simp at*;omega
theorem Ib(l:List yF)(x:yF): -1<=Af l x/\Af l x<l.length:=by
 have:=Vo l x 0;unfold Af;simpa using this
theorem WK(n:yF)(u1:Value)(W:World):Sem.run prog (method 511 134 (.agg #[.string n,u1]) "veil/schemas.called") W=.ok (304,.agg #[.string n]) W:=by kernel_rfl
theorem dK(w:World)(Z:Nat)(x n:yF)(u1:Value)(b:w.cell? ⟨Z,0,none⟩=some (.string x)):
 Calls prog 259 #[.agg #[.string n,u1],.pointer (some ⟨Z,0,none⟩)] w fun e w'=>e=.returned (.bool (n.toList==x.toList))/\yG w w':=by
 have f:=wW w _ b;simp only at f;have c:=Aa (fun W=>Ke W n);have g:=fun W=>WK n u1 W;go_enter func259,ntmps259;go_wp2_with fail;have d:(w.alloc (.cells #[.string n,u1] 134)).cell? ⟨Z,0,none⟩=some (.string x):=Ah ((wR _ _).alloc (wQ _) _) b;go_region_with (go_at_call 304;refine(c.o _).mono ?_;rintro e w1 ⟨rfl,a⟩;have h:w1.cell? ⟨Z,0,none⟩=some (.string x):=(a.cell (by simp;omega)).trans d);all_goals(
  go_wp2;go_ret;exact⟨rfl,(((wR w.heap.size w).alloc (wQ _) (.cells #[.string n,u1] 134)).drew).trans (a.mono (by have:=World.size_alloc_drew w (.cells #[.string n,u1] 134);omega))⟩)
theorem jE(w:World)(v:Value)(Z:Nat)(x:yF)(l:List yF)(A:Dc w v 2 l)(P:l.length<=100000)(b:w.cell? ⟨Z,0,none⟩=some (.string x)):
 Calls prog 258 #[v,.func (Fn.func 259) #[] #[.pointer (some ⟨Z,0,none⟩)]] w fun e w'=>e=.returned (.int .i64 (Af l x))/\yG w w':=by
 have G:=Aa A;have H:=Aa b;obtain⟨a,cap,rfl,_⟩:=A;have K:=wW w _ b;simp only at K;generalize E:Af l x=q;have s:=Aa E;clear E b;go_enter func258,ntmps258;go_wp2;go_loopg [5,8] l.length (fun m v5 v8 wr=>∃k:Nat,v8=.int .i64 k/\k<=l.length/\l.length-k<=m/\yG w wr/\∀y∈l.take k,y≠x)
 case atStart=>exact⟨0,rfl,wZ _,by omega,wR _ _,by simp⟩
 case round=>
  obtain⟨k,rfl,O,Q,hb,D⟩:=hrel;have h:=Aa D;clear D;have b:=Ah hb H.o;by_cases p:k<l.length
  ·obtain⟨L,M,I,B⟩:=G.o.below hb
   cases I;obtain⟨g,J,C⟩:∃g,a=some ⟨g,0,none⟩/\∀(j:Nat) (x:yF),l[j]?=some x->wr.cell? ⟨g,j*2,none⟩=some (.string x)/\∀k,0<k->k<2->∃u,wr.cell? ⟨g,j*2+k,none⟩=some u:=by
    rcases B with e|e
    ·rw[e]at p;simp at p
    ·exact e
   subst J;have r:=wS p;obtain⟨N,F⟩:=C k _ r;obtain⟨u1,R⟩:=F 1 (by decide) (by decide);have t:=Aa r;clear C r F B;generalize l[k]=y at*;have d:=dK wr Z x y u1 b;cases c:(y.toList==x.toList)
   ·rw[c]at d
    have i:=Aa c;clear c;go_wp2_with fail;refine d.mono ?_;clear d;rintro e w1 ⟨rfl,f⟩;have n:=hb.trans (f.mono hb.size);clear f;go_wp2;go_roundg (l.length-(k+1))
    case measure=>omega
    case rel=>exact⟨k+1,by go_num,by omega,wQ _,n,by
     rw[xL,t.o];intro z b;rcases yD.1 b with b|b
     ·exact h.o z b
     ·simp at b;subst b;have:=i.o;rw[Cy]at this;simpa using this⟩
   ·rw[c]at d
    have i:=Aa c;clear c;go_wp2_with fail;refine d.mono ?_;clear d;rintro e w1 ⟨rfl,f⟩;have n:=hb.trans (f.mono hb.size);clear f;go_wp2;go_ret;exact⟨CN (by rw[<-s.o];have c:=i.o;rw[Cy]at c;simp only[xK]at c;subst c;unfold Af;rw[JE l y 0 k h.o t.o];simp),n⟩
  ·go_wp2
   go_ret;exact⟨CN (by
    rw[<-s.o];have:=h.o;rw[xB (by omega)]at this;unfold Af;rw[Kk l x 0 this]),hb⟩
theorem gE(w:World)(v:Value)(x:yF)(l:List yF)(d:Dc w v 2 l)(m:l.length<=100000):
 Calls prog 233 #[v,.string x] w fun e w'=>e=.returned (AC v 2 (Af l x))/\yG w w':=by
 have b:=jE (w.alloc (.cells #[.string x] 9)) v w.heap.size x l (d.below ((wR _ _).alloc (wQ _) _)) m (by simp);have n:=Ib l x;obtain⟨a,cap,rfl,f⟩:=d;generalize Af l x=q at*;by_cases i:q<0
 ·rw[show AC (.slice a l.length cap) 2 q=.pointer none from by unfold AC;rw[xH i]]
  go_enter func233,ntmps233;go_wp2_with fail;refine b.mono ?_;clear b;rintro e w1 ⟨rfl,c⟩;go_wp2;go_ret;exact⟨rfl,((wR _ _).alloc (wQ _) _).trans (c.mono (by simp))⟩
 ·obtain⟨k,rfl⟩:∃k:Nat,q=k:=⟨q.toNat,by omega⟩
  have h:k<l.length:=by omega
  obtain⟨g,j⟩:∃g,a=some ⟨g,0,none⟩:=by
   rcases f with e|⟨g,e,_⟩
   ·rw[e]at h;simp at h
   ·exact⟨g,e⟩
  subst j;rw[show AC (.slice (some ⟨g,0,none⟩) l.length cap) 2 (k:Int)=.pointer (some ⟨g,k*2,none⟩)from by unfold AC;rw[xG i];simp];clear f;go_enter func233,ntmps233;go_wp2_with fail;refine b.mono ?_;clear b;rintro e w1 ⟨rfl,c⟩;go_wp2;go_ret;exact⟨rfl,((wR _ _).alloc (wQ _) _).trans (c.mono (by simp))⟩
theorem nR(n:yF)(u1 u2 u3:Value)(W:World):Sem.run prog (method 511 149 (.agg #[.string n,u1,u2,u3]) "veil/schemas.called") W=.ok (304,.agg #[.string n]) W:=by kernel_rfl
theorem dJ(w:World)(Z:Nat)(x n:yF)(u1 u2 u3:Value)(b:w.cell? ⟨Z,0,none⟩=some (.string x)):
 Calls prog 163 #[.agg #[.string n,u1,u2,u3],.pointer (some ⟨Z,0,none⟩)] w fun e w'=>e=.returned (.bool (n.toList==x.toList))/\yG w w':=by
 have f:=wW w _ b;simp only at f;have c:=Aa (fun W=>Ke W n);have g:=fun W=>nR n u1 u2 u3 W;go_enter func163,ntmps163;go_wp2_with fail;have d:(w.alloc (.cells #[.string n,u1,u2,u3] 149)).cell? ⟨Z,0,none⟩=some (.string x):=Ah ((wR _ _).alloc (wQ _) _) b;go_region_with (go_at_call 304;refine(c.o _).mono ?_;rintro e w1 ⟨rfl,a⟩;have h:w1.cell? ⟨Z,0,none⟩=some (.string x):=(a.cell (by simp;omega)).trans d);all_goals(
  go_wp2;go_ret;exact⟨rfl,(((wR w.heap.size w).alloc (wQ _) (.cells #[.string n,u1,u2,u3] 149)).drew).trans (a.mono (by have:=World.size_alloc_drew w (.cells #[.string n,u1,u2,u3] 149);omega))⟩)
theorem jD(w:World)(v:Value)(Z:Nat)(x:yF)(l:List yF)(B:Dc w v 4 l)(P:l.length<=100000)(b:w.cell? ⟨Z,0,none⟩=some (.string x)):
 Calls prog 162 #[v,.func (Fn.func 163) #[] #[.pointer (some ⟨Z,0,none⟩)]] w fun e w'=>e=.returned (.int .i64 (Af l x))/\yG w w':=by
 have G:=Aa B;have H:=Aa b;obtain⟨a,cap,rfl,_⟩:=B;have K:=wW w _ b;simp only at K;generalize F:Af l x=q;have t:=Aa F;clear F b;go_enter func162,ntmps162;go_wp2;go_loopg [5,8] l.length (fun m v5 v8 wr=>∃k:Nat,v8=.int .i64 k/\k<=l.length/\l.length-k<=m/\yG w wr/\∀y∈l.take k,y≠x)
 case atStart=>exact⟨0,rfl,wZ _,by omega,wR _ _,by simp⟩
 case round=>
  obtain⟨k,rfl,O,Q,hb,E⟩:=hrel;have i:=Aa E;clear E;have b:=Ah hb H.o;by_cases r:k<l.length
  ·obtain⟨L,M,I,C⟩:=G.o.below hb
   cases I;obtain⟨g,J,D⟩:∃g,a=some ⟨g,0,none⟩/\∀(j:Nat) (x:yF),l[j]?=some x->wr.cell? ⟨g,j*4,none⟩=some (.string x)/\∀k,0<k->k<4->∃u,wr.cell? ⟨g,j*4+k,none⟩=some u:=by
    rcases C with e|e
    ·rw[e]at r;simp at r
    ·exact e
   subst J;have s:=wS r;obtain⟨N,h⟩:=D k _ s;obtain⟨u1,R⟩:=h 1 (by decide) (by decide);obtain⟨u2,S⟩:=h 2 (by decide) (by decide);obtain⟨u3,T⟩:=h 3 (by decide) (by decide);have A:=Aa s;clear D s h C;generalize l[k]=y at*;have d:=dJ wr Z x y u1 u2 u3 b;cases c:(y.toList==x.toList)
   ·rw[c]at d
    have n:=Aa c;clear c;go_wp2_with fail;refine d.mono ?_;clear d;rintro e w1 ⟨rfl,f⟩;have p:=hb.trans (f.mono hb.size);clear f;go_wp2;go_roundg (l.length-(k+1))
    case measure=>omega
    case rel=>exact⟨k+1,by go_num,by omega,wQ _,p,by
     rw[xL,A.o];intro z b;rcases yD.1 b with b|b
     ·exact i.o z b
     ·simp at b;subst b;have:=n.o;rw[Cy]at this;simpa using this⟩
   ·rw[c]at d
    have n:=Aa c;clear c;go_wp2_with fail;refine d.mono ?_;clear d;rintro e w1 ⟨rfl,f⟩;have p:=hb.trans (f.mono hb.size);clear f;go_wp2;go_ret;exact⟨CN (by rw[<-t.o];have c:=n.o;rw[Cy]at c;simp only[xK]at c;subst c;unfold Af;rw[JE l y 0 k i.o A.o];simp),p⟩
  ·go_wp2
   go_ret;exact⟨CN (by
    rw[<-t.o];have:=i.o;rw[xB (by omega)]at this;unfold Af;rw[Kk l x 0 this]),hb⟩
theorem gD(w:World)(v:Value)(x:yF)(l:List yF)(d:Dc w v 4 l)(m:l.length<=100000):
 Calls prog 115 #[v,.string x] w fun e w'=>e=.returned (AC v 4 (Af l x))/\yG w w':=by
 have b:=jD (w.alloc (.cells #[.string x] 9)) v w.heap.size x l (d.below ((wR _ _).alloc (wQ _) _)) m (by simp);have n:=Ib l x;obtain⟨a,cap,rfl,f⟩:=d;generalize Af l x=q at*;by_cases i:q<0
 ·rw[show AC (.slice a l.length cap) 4 q=.pointer none from by unfold AC;rw[xH i]]
  go_enter func115,ntmps115;go_wp2_with fail;refine b.mono ?_;clear b;rintro e w1 ⟨rfl,c⟩;go_wp2;go_ret;exact⟨rfl,((wR _ _).alloc (wQ _) _).trans (c.mono (by simp))⟩
 ·obtain⟨k,rfl⟩:∃k:Nat,q=k:=⟨q.toNat,by omega⟩
  have h:k<l.length:=by omega
  obtain⟨g,j⟩:∃g,a=some ⟨g,0,none⟩:=by
   rcases f with e|⟨g,e,_⟩
   ·rw[e]at h;simp at h
   ·exact⟨g,e⟩
  subst j;rw[show AC (.slice (some ⟨g,0,none⟩) l.length cap) 4 (k:Int)=.pointer (some ⟨g,k*4,none⟩)from by unfold AC;rw[xG i];simp];clear f;go_enter func115,ntmps115;go_wp2_with fail;refine b.mono ?_;clear b;rintro e w1 ⟨rfl,c⟩;go_wp2;go_ret;exact⟨rfl,((wR _ _).alloc (wQ _) _).trans (c.mono (by simp))⟩
theorem nP(n:yF)(u1:Value)(W:World):Sem.run prog (method 511 268 (.agg #[.string n,u1]) "veil/schemas.called") W=.ok (304,.agg #[.string n]) W:=by kernel_rfl
theorem dG(w:World)(Z:Nat)(x n:yF)(u1:Value)(b:w.cell? ⟨Z,0,none⟩=some (.string x)):
 Calls prog 257 #[.agg #[.string n,u1],.pointer (some ⟨Z,0,none⟩)] w fun e w'=>e=.returned (.bool (n.toList==x.toList))/\yG w w':=by
 have f:=wW w _ b;simp only at f;have c:=Aa (fun W=>Ke W n);have g:=fun W=>nP n u1 W;go_enter func257,ntmps257;go_wp2_with fail;have d:(w.alloc (.cells #[.string n,u1] 268)).cell? ⟨Z,0,none⟩=some (.string x):=Ah ((wR _ _).alloc (wQ _) _) b;go_region_with (go_at_call 304;refine(c.o _).mono ?_;rintro e w1 ⟨rfl,a⟩;have h:w1.cell? ⟨Z,0,none⟩=some (.string x):=(a.cell (by simp;omega)).trans d);all_goals(
  go_wp2;go_ret;exact⟨rfl,(((wR w.heap.size w).alloc (wQ _) (.cells #[.string n,u1] 268)).drew).trans (a.mono (by have:=World.size_alloc_drew w (.cells #[.string n,u1] 268);omega))⟩)
theorem jB(w:World)(v:Value)(Z:Nat)(x:yF)(l:List yF)(A:Dc w v 2 l)(P:l.length<=100000)(b:w.cell? ⟨Z,0,none⟩=some (.string x)):
 Calls prog 256 #[v,.func (Fn.func 257) #[] #[.pointer (some ⟨Z,0,none⟩)]] w fun e w'=>e=.returned (.int .i64 (Af l x))/\yG w w':=by
 have G:=Aa A;have H:=Aa b;obtain⟨a,cap,rfl,_⟩:=A;have K:=wW w _ b;simp only at K;generalize E:Af l x=q;have s:=Aa E;clear E b;go_enter func256,ntmps256;go_wp2;go_loopg [5,8] l.length (fun m v5 v8 wr=>∃k:Nat,v8=.int .i64 k/\k<=l.length/\l.length-k<=m/\yG w wr/\∀y∈l.take k,y≠x)
 case atStart=>exact⟨0,rfl,wZ _,by omega,wR _ _,by simp⟩
 case round=>
  obtain⟨k,rfl,O,Q,hb,D⟩:=hrel;have h:=Aa D;clear D;have b:=Ah hb H.o;by_cases p:k<l.length
  ·obtain⟨L,M,I,B⟩:=G.o.below hb
   cases I;obtain⟨g,J,C⟩:∃g,a=some ⟨g,0,none⟩/\∀(j:Nat) (x:yF),l[j]?=some x->wr.cell? ⟨g,j*2,none⟩=some (.string x)/\∀k,0<k->k<2->∃u,wr.cell? ⟨g,j*2+k,none⟩=some u:=by
    rcases B with e|e
    ·rw[e]at p;simp at p
    ·exact e
   subst J;have r:=wS p;obtain⟨N,F⟩:=C k _ r;obtain⟨u1,R⟩:=F 1 (by decide) (by decide);have t:=Aa r;clear C r F B;generalize l[k]=y at*;have d:=dG wr Z x y u1 b;cases c:(y.toList==x.toList)
   ·rw[c]at d
    have i:=Aa c;clear c;go_wp2_with fail;refine d.mono ?_;clear d;rintro e w1 ⟨rfl,f⟩;have n:=hb.trans (f.mono hb.size);clear f;go_wp2;go_roundg (l.length-(k+1))
    case measure=>omega
    case rel=>exact⟨k+1,by go_num,by omega,wQ _,n,by
     rw[xL,t.o];intro z b;rcases yD.1 b with b|b
     ·exact h.o z b
     ·simp at b;subst b;have:=i.o;rw[Cy]at this;simpa using this⟩
   ·rw[c]at d
    have i:=Aa c;clear c;go_wp2_with fail;refine d.mono ?_;clear d;rintro e w1 ⟨rfl,f⟩;have n:=hb.trans (f.mono hb.size);clear f;go_wp2;go_ret;exact⟨CN (by rw[<-s.o];have c:=i.o;rw[Cy]at c;simp only[xK]at c;subst c;unfold Af;rw[JE l y 0 k h.o t.o];simp),n⟩
  ·go_wp2
   go_ret;exact⟨CN (by
    rw[<-s.o];have:=h.o;rw[xB (by omega)]at this;unfold Af;rw[Kk l x 0 this]),hb⟩
theorem gB(w:World)(v:Value)(x:yF)(l:List yF)(d:Dc w v 2 l)(m:l.length<=100000):
 Calls prog 231 #[v,.string x] w fun e w'=>e=.returned (AC v 2 (Af l x))/\yG w w':=by
 have b:=jB (w.alloc (.cells #[.string x] 9)) v w.heap.size x l (d.below ((wR _ _).alloc (wQ _) _)) m (by simp);have n:=Ib l x;obtain⟨a,cap,rfl,f⟩:=d;generalize Af l x=q at*;by_cases i:q<0
 ·rw[show AC (.slice a l.length cap) 2 q=.pointer none from by unfold AC;rw[xH i]]
  go_enter func231,ntmps231;go_wp2_with fail;refine b.mono ?_;clear b;rintro e w1 ⟨rfl,c⟩;go_wp2;go_ret;exact⟨rfl,((wR _ _).alloc (wQ _) _).trans (c.mono (by simp))⟩
 ·obtain⟨k,rfl⟩:∃k:Nat,q=k:=⟨q.toNat,by omega⟩
  have h:k<l.length:=by omega
  obtain⟨g,j⟩:∃g,a=some ⟨g,0,none⟩:=by
   rcases f with e|⟨g,e,_⟩
   ·rw[e]at h;simp at h
   ·exact⟨g,e⟩
  subst j;rw[show AC (.slice (some ⟨g,0,none⟩) l.length cap) 2 (k:Int)=.pointer (some ⟨g,k*2,none⟩)from by unfold AC;rw[xG i];simp];clear f;go_enter func231,ntmps231;go_wp2_with fail;refine b.mono ?_;clear b;rintro e w1 ⟨rfl,c⟩;go_wp2;go_ret;exact⟨rfl,((wR _ _).alloc (wQ _) _).trans (c.mono (by simp))⟩
theorem nS(n:yF)(u1:Value)(W:World):Sem.run prog (method 511 271 (.agg #[.string n,u1]) "veil/schemas.called") W=.ok (304,.agg #[.string n]) W:=by kernel_rfl
theorem dL(w:World)(Z:Nat)(x n:yF)(u1:Value)(b:w.cell? ⟨Z,0,none⟩=some (.string x)):
 Calls prog 271 #[.agg #[.string n,u1],.pointer (some ⟨Z,0,none⟩)] w fun e w'=>e=.returned (.bool (n.toList==x.toList))/\yG w w':=by
 have f:=wW w _ b;simp only at f;have c:=Aa (fun W=>Ke W n);have g:=fun W=>nS n u1 W;go_enter func271,ntmps271;go_wp2_with fail;have d:(w.alloc (.cells #[.string n,u1] 271)).cell? ⟨Z,0,none⟩=some (.string x):=Ah ((wR _ _).alloc (wQ _) _) b;go_region_with (go_at_call 304;refine(c.o _).mono ?_;rintro e w1 ⟨rfl,a⟩;have h:w1.cell? ⟨Z,0,none⟩=some (.string x):=(a.cell (by simp;omega)).trans d);all_goals(
  go_wp2;go_ret;exact⟨rfl,(((wR w.heap.size w).alloc (wQ _) (.cells #[.string n,u1] 271)).drew).trans (a.mono (by have:=World.size_alloc_drew w (.cells #[.string n,u1] 271);omega))⟩)
theorem jH(w:World)(v:Value)(Z:Nat)(x:yF)(l:List yF)(A:Dc w v 2 l)(P:l.length<=100000)(b:w.cell? ⟨Z,0,none⟩=some (.string x)):
 Calls prog 270 #[v,.func (Fn.func 271) #[] #[.pointer (some ⟨Z,0,none⟩)]] w fun e w'=>e=.returned (.int .i64 (Af l x))/\yG w w':=by
 have G:=Aa A;have H:=Aa b;obtain⟨a,cap,rfl,_⟩:=A;have K:=wW w _ b;simp only at K;generalize E:Af l x=q;have s:=Aa E;clear E b;go_enter func270,ntmps270;go_wp2;go_loopg [5,8] l.length (fun m v5 v8 wr=>∃k:Nat,v8=.int .i64 k/\k<=l.length/\l.length-k<=m/\yG w wr/\∀y∈l.take k,y≠x)
 case atStart=>exact⟨0,rfl,wZ _,by omega,wR _ _,by simp⟩
 case round=>
  obtain⟨k,rfl,O,Q,hb,D⟩:=hrel;have h:=Aa D;clear D;have b:=Ah hb H.o;by_cases p:k<l.length
  ·obtain⟨L,M,I,B⟩:=G.o.below hb
   cases I;obtain⟨g,J,C⟩:∃g,a=some ⟨g,0,none⟩/\∀(j:Nat) (x:yF),l[j]?=some x->wr.cell? ⟨g,j*2,none⟩=some (.string x)/\∀k,0<k->k<2->∃u,wr.cell? ⟨g,j*2+k,none⟩=some u:=by
    rcases B with e|e
    ·rw[e]at p;simp at p
    ·exact e
   subst J;have r:=wS p;obtain⟨N,F⟩:=C k _ r;obtain⟨u1,R⟩:=F 1 (by decide) (by decide);have t:=Aa r;clear C r F B;generalize l[k]=y at*;have d:=dL wr Z x y u1 b;cases c:(y.toList==x.toList)
   ·rw[c]at d
    have i:=Aa c;clear c;go_wp2_with fail;refine d.mono ?_;clear d;rintro e w1 ⟨rfl,f⟩;have n:=hb.trans (f.mono hb.size);clear f;go_wp2;go_roundg (l.length-(k+1))
    case measure=>omega
    case rel=>exact⟨k+1,by go_num,by omega,wQ _,n,by
     rw[xL,t.o];intro z b;rcases yD.1 b with b|b
     ·exact h.o z b
     ·simp at b;subst b;have:=i.o;rw[Cy]at this;simpa using this⟩
   ·rw[c]at d
    have i:=Aa c;clear c;go_wp2_with fail;refine d.mono ?_;clear d;rintro e w1 ⟨rfl,f⟩;have n:=hb.trans (f.mono hb.size);clear f;go_wp2;go_ret;exact⟨CN (by rw[<-s.o];have c:=i.o;rw[Cy]at c;simp only[xK]at c;subst c;unfold Af;rw[JE l y 0 k h.o t.o];simp),n⟩
  ·go_wp2
   go_ret;exact⟨CN (by
    rw[<-s.o];have:=h.o;rw[xB (by omega)]at this;unfold Af;rw[Kk l x 0 this]),hb⟩
theorem gG(w:World)(v:Value)(x:yF)(l:List yF)(d:Dc w v 2 l)(m:l.length<=100000):
 Calls prog 260 #[v,.string x] w fun e w'=>e=.returned (AC v 2 (Af l x))/\yG w w':=by
 have b:=jH (w.alloc (.cells #[.string x] 9)) v w.heap.size x l (d.below ((wR _ _).alloc (wQ _) _)) m (by simp);have n:=Ib l x;obtain⟨a,cap,rfl,f⟩:=d;generalize Af l x=q at*;by_cases i:q<0
 ·rw[show AC (.slice a l.length cap) 2 q=.pointer none from by unfold AC;rw[xH i]]
  go_enter func260,ntmps260;go_wp2_with fail;refine b.mono ?_;clear b;rintro e w1 ⟨rfl,c⟩;go_wp2;go_ret;exact⟨rfl,((wR _ _).alloc (wQ _) _).trans (c.mono (by simp))⟩
 ·obtain⟨k,rfl⟩:∃k:Nat,q=k:=⟨q.toNat,by omega⟩
  have h:k<l.length:=by omega
  obtain⟨g,j⟩:∃g,a=some ⟨g,0,none⟩:=by
   rcases f with e|⟨g,e,_⟩
   ·rw[e]at h;simp at h
   ·exact⟨g,e⟩
  subst j;rw[show AC (.slice (some ⟨g,0,none⟩) l.length cap) 2 (k:Int)=.pointer (some ⟨g,k*2,none⟩)from by unfold AC;rw[xG i];simp];clear f;go_enter func260,ntmps260;go_wp2_with fail;refine b.mono ?_;clear b;rintro e w1 ⟨rfl,c⟩;go_wp2;go_ret;exact⟨rfl,((wR _ _).alloc (wQ _) _).trans (c.mono (by simp))⟩
theorem WJ(n:yF)(u1 u2 u3 u4 u5:Value)(W:World):Sem.run prog (method 511 166 (.agg #[.string n,u1,u2,u3,u4,u5]) "veil/schemas.called") W=.ok (304,.agg #[.string n]) W:=by kernel_rfl
theorem dF(w:World)(Z:Nat)(x n:yF)(u1 u2 u3 u4 u5:Value)(b:w.cell? ⟨Z,0,none⟩=some (.string x)):
 Calls prog 236 #[.agg #[.string n,u1,u2,u3,u4,u5],.pointer (some ⟨Z,0,none⟩)] w fun e w'=>e=.returned (.bool (n.toList==x.toList))/\yG w w':=by
 have f:=wW w _ b;simp only at f;have c:=Aa (fun W=>Ke W n);have g:=fun W=>WJ n u1 u2 u3 u4 u5 W;go_enter func236,ntmps236;go_wp2_with fail;have d:(w.alloc (.cells #[.string n,u1,u2,u3,u4,u5] 166)).cell? ⟨Z,0,none⟩=some (.string x):=Ah ((wR _ _).alloc (wQ _) _) b;go_region_with (go_at_call 304;refine(c.o _).mono ?_;rintro e w1 ⟨rfl,a⟩;have h:w1.cell? ⟨Z,0,none⟩=some (.string x):=(a.cell (by simp;omega)).trans d);all_goals(
  go_wp2;go_ret;exact⟨rfl,(((wR w.heap.size w).alloc (wQ _) (.cells #[.string n,u1,u2,u3,u4,u5] 166)).drew).trans (a.mono (by have:=World.size_alloc_drew w (.cells #[.string n,u1,u2,u3,u4,u5] 166);omega))⟩)
theorem jA(w:World)(v:Value)(Z:Nat)(x:yF)(l:List yF)(B:Dc w v 6 l)(P:l.length<=100000)(b:w.cell? ⟨Z,0,none⟩=some (.string x)):
 Calls prog 235 #[v,.func (Fn.func 236) #[] #[.pointer (some ⟨Z,0,none⟩)]] w fun e w'=>e=.returned (.int .i64 (Af l x))/\yG w w':=by
 have G:=Aa B;have H:=Aa b;obtain⟨a,cap,rfl,_⟩:=B;have K:=wW w _ b;simp only at K;generalize F:Af l x=q;have t:=Aa F;clear F b;go_enter func235,ntmps235;go_wp2;go_loopg [5,8] l.length (fun m v5 v8 wr=>∃k:Nat,v8=.int .i64 k/\k<=l.length/\l.length-k<=m/\yG w wr/\∀y∈l.take k,y≠x)
 case atStart=>exact⟨0,rfl,wZ _,by omega,wR _ _,by simp⟩
 case round=>
  obtain⟨k,rfl,O,Q,hb,E⟩:=hrel;have i:=Aa E;clear E;have b:=Ah hb H.o;by_cases r:k<l.length
  ·obtain⟨L,M,I,C⟩:=G.o.below hb
   cases I;obtain⟨g,J,D⟩:∃g,a=some ⟨g,0,none⟩/\∀(j:Nat) (x:yF),l[j]?=some x->wr.cell? ⟨g,j*6,none⟩=some (.string x)/\∀k,0<k->k<6->∃u,wr.cell? ⟨g,j*6+k,none⟩=some u:=by
    rcases C with e|e
    ·rw[e]at r;simp at r
    ·exact e
   subst J;have s:=wS r;obtain⟨N,f⟩:=D k _ s;obtain⟨u1,R⟩:=f 1 (by decide) (by decide);obtain⟨u2,S⟩:=f 2 (by decide) (by decide);obtain⟨u3,T⟩:=f 3 (by decide) (by decide);obtain⟨u4,U⟩:=f 4 (by decide) (by decide);obtain⟨u5,V⟩:=f 5 (by decide) (by decide);have A:=Aa s;clear D s f C;generalize l[k]=y at*;have d:=dF wr Z x y u1 u2 u3 u4 u5 b;cases c:(y.toList==x.toList)
   ·rw[c]at d
    have n:=Aa c;clear c;go_wp2_with fail;refine d.mono ?_;clear d;rintro e w1 ⟨rfl,h⟩;have p:=hb.trans (h.mono hb.size);clear h;go_wp2;go_roundg (l.length-(k+1))
    case measure=>omega
    case rel=>exact⟨k+1,by go_num,by omega,wQ _,p,by
     rw[xL,A.o];intro z b;rcases yD.1 b with b|b
     ·exact i.o z b
     ·simp at b;subst b;have:=n.o;rw[Cy]at this;simpa using this⟩
   ·rw[c]at d
    have n:=Aa c;clear c;go_wp2_with fail;refine d.mono ?_;clear d;rintro e w1 ⟨rfl,h⟩;have p:=hb.trans (h.mono hb.size);clear h;go_wp2;go_ret;exact⟨CN (by rw[<-t.o];have c:=n.o;rw[Cy]at c;simp only[xK]at c;subst c;unfold Af;rw[JE l y 0 k i.o A.o];simp),p⟩
  ·go_wp2
   go_ret;exact⟨CN (by
    rw[<-t.o];have:=i.o;rw[xB (by omega)]at this;unfold Af;rw[Kk l x 0 this]),hb⟩
theorem Rs(w:World)(v:Value)(x:yF)(l:List yF)(d:Dc w v 6 l)(m:l.length<=100000):
 Calls prog 190 #[v,.string x] w fun e w'=>e=.returned (AC v 6 (Af l x))/\yG w w':=by
 have b:=jA (w.alloc (.cells #[.string x] 9)) v w.heap.size x l (d.below ((wR _ _).alloc (wQ _) _)) m (by simp);have n:=Ib l x;obtain⟨a,cap,rfl,f⟩:=d;generalize Af l x=q at*;by_cases i:q<0
 ·rw[show AC (.slice a l.length cap) 6 q=.pointer none from by unfold AC;rw[xH i]]
  go_enter func190,ntmps190;go_wp2_with fail;refine b.mono ?_;clear b;rintro e w1 ⟨rfl,c⟩;go_wp2;go_ret;exact⟨rfl,((wR _ _).alloc (wQ _) _).trans (c.mono (by simp))⟩
 ·obtain⟨k,rfl⟩:∃k:Nat,q=k:=⟨q.toNat,by omega⟩
  have h:k<l.length:=by omega
  obtain⟨g,j⟩:∃g,a=some ⟨g,0,none⟩:=by
   rcases f with e|⟨g,e,_⟩
   ·rw[e]at h;simp at h
   ·exact⟨g,e⟩
  subst j;rw[show AC (.slice (some ⟨g,0,none⟩) l.length cap) 6 (k:Int)=.pointer (some ⟨g,k*6,none⟩)from by unfold AC;rw[xG i];simp];clear f;go_enter func190,ntmps190;go_wp2_with fail;refine b.mono ?_;clear b;rintro e w1 ⟨rfl,c⟩;go_wp2;go_ret;exact⟨rfl,((wR _ _).alloc (wQ _) _).trans (c.mono (by simp))⟩
structure SV(w:World)(S:Nat)(vR vO vI vU vN:Value)(LR:List (Au×Value))(LO:List (Aq×Value×Value×Value))(LI:List (At×Value))(LU:List (Aw×Value))(names:List yF):Prop where
 sc:SC w S vR vO vI vU vN
 r:BV w S 134 2 vR Nv (DP S) LR
 o:BV w S 149 4 vO OX (DO S) LO
 i:BV w S 268 2 vI OW (DN S) LI
 u:BV w S 271 2 vU OY (DQ S) LU
 n:w.ownsRow S 132 1 vN names.length (Bn names)
 lr:LR.length<=804
 lo:LO.length<=804
 li:LI.length<=804
 lu:LU.length<=804
 ln:names.length<=804
theorem SV.below{w w':World}{S:Nat}{m l j p k:Value}{g:List (Au×Value)}{f:List (Aq×Value×Value×Value)}{e:List (At×Value)}{h:List (Aw×Value)}{names:List yF}(a:SV w S m l j p k g f e h names)(hb:yG w w'):SV w' S m l j p k g f e h names:=by
 have d:Ek S w w':=(AZ.of_below (b:=0) (S:=0) hb).inner;exact⟨(hb.block S (Ab a.sc)).trans a.sc,a.r.stays (Ap.of_below hb) (fun x c=>DP.stays d c),a.o.stays (Ap.of_below hb) (fun x c=>DO.stays d c),a.i.stays (Ap.of_below hb) (fun x c=>DN.stays d c),a.u.stays (Ap.of_below hb) (fun x c=>DQ.stays d c),AT a.n hb,a.lr,a.lo,a.li,a.lu,a.ln⟩
theorem Ru{β:Type}(flat:β->List Value)(size:Nat)(c:∀x,(flat x).length=size):∀(b:List β) (j k:Nat) (x:β),b[j]?=some x->k<size->(b.flatMap flat)[j*size+k]?=(flat x)[k]?
 |[],j,k,x,a,_=>by simp at a
 |y::b,0,k,x,a,d=>by
  simp at a;subst a;rw[List.flatMap_cons,xN (by rw[c];omega)];simp
 |y::b,j+1,k,x,a,d=>by
  rw[List.flatMap_cons,xO (by rw[c,Nat.succ_mul];omega),c];rw[show(j+1)*size+k-size=j*size+k by rw[Nat.succ_mul];omega];exact Ru flat size c b j k x (by simpa using a) d
theorem BV.cell{β:Type}{w:World}{B e size:Nat}{v:Value}{flat:β->List Value}{ok:World->β->Prop}{b:List β}(h:BV w B e size v flat ok b)(c:∀x,(flat x).length=size)(j:Nat)(x:β)(f:b[j]?=some x):∃g cap,v=.slice (some ⟨g,0,none⟩) b.length cap/\∀k u,(flat x)[k]?=some u->w.cell? ⟨g,j*size+k,none⟩=some u:=by
 have r:=(wU.1 f).1;rcases h.own.2 with⟨_,y⟩|⟨g,cap,p,n,q,i,s,_,hs,m⟩
 ·omega
 ·refine⟨g,cap,n,fun k u d=>?_⟩
  have l:k<size:=by have:=(wU.1 d).1;rw[c]at this;exact this
  have a:=Ru flat size c b j k x f l;rw[<-m,d]at a;rw[Ac i];rw[List.getElem?_take]at a;split at a
  ·simpa using a
  ·cases a
theorem BV.rowed{β:Type}{w:World}{B e size:Nat}{v:Value}{flat:β->List Value}{ok:World->β->Prop}{c:List β}(d:BV w B e size v flat ok c)(r:β->yF)(f:∀x,(flat x).length=size)(s:∀x,(flat x)[0]?=some (.string (r x))):Dc w v size (c.map r):=by
 obtain⟨a,cap,h⟩:=An d.own;refine⟨a,cap,by simpa using h,?_⟩;cases m:c with
 |nil=>left;rfl
 |cons y l=>
  right;obtain⟨g,u,p,_⟩:=d.cell f 0 y (by rw[m];rfl);rw[h]at p;cases p;refine⟨g,rfl,fun j x b=>?_⟩;rw[<-m,xI]at b;cases i:c[j]? with
  |none=>rw[i]at b;cases b
  |some z=>
   rw[i]at b;cases b;obtain⟨C,A,q,n⟩:=d.cell f j z i;rw[h]at q;cases q;refine⟨by have:=n 0 _ (s z);simpa using this,fun k _ t=>?_⟩;have:k<(flat z).length:=by rw[f];exact t
   exact⟨_,n k _ (wS this)⟩
def rN(x:Au×Value):yF:=x.1.name
def oN(x:Aq×Value×Value×Value):yF:=x.1.name
def iN(x:At×Value):yF:=x.1.name
def uN(x:Aw×Value):yF:=x.1.name
theorem Hc{w:World}{v:Value}{size:Nat}{l:List yF}(c:Dc w v size l)(x:yF):(Af l x<0->AC v size (Af l x)=.pointer none)/\(¬Af l x<0->∃a,AC v size (Af l x)=.pointer (some a)):=by
 obtain⟨a,cap,rfl,d⟩:=c;refine⟨fun b=>by unfold AC;rw[xH b],fun b=>?_⟩;have hb:=Ib l x;rcases d with e|⟨g,e,_⟩
 ·subst e;simp at hb;omega
 ·subst e;unfold AC;rw[xG b];exact⟨_,rfl⟩
theorem Nz(x:yF)(w:World):Calls prog 109 #[.string x] w fun e w'=>e=.returned (.bool (Ep x))/\w'=w:=by
 have a:=Aa (tT x);cases b:(x.toList==[73,110,116])
 ·cases c:(x.toList==[83,116,114,105,110,103])
  ·cases d:(x.toList==[66,111,111,108,101,97,110])
   ·cases f:(x.toList==[73,68])
    ·go_enter func109,ntmps109
     go_wp2
     go_ret;exact⟨Al (by rw[a.o,b,c,d,f];rfl),rfl⟩
    ·go_enter func109,ntmps109
     go_wp2
     go_ret;exact⟨Al (by rw[a.o,b,c,d,f];rfl),rfl⟩
   ·go_enter func109,ntmps109
    go_wp2
    go_ret;exact⟨Al (by rw[a.o,b,c,d];rfl),rfl⟩
  ·go_enter func109,ntmps109
   go_wp2
   go_ret;exact⟨Al (by rw[a.o,b,c];rfl),rfl⟩
 ·go_enter func109,ntmps109
  go_wp2
  go_ret;exact⟨Al (by rw[a.o,b];rfl),rfl⟩
theorem SV.rowRole{w:World}{S:Nat}{b i g j h:Value}{a:List (Au×Value)}{d:List (Aq×Value×Value×Value)}{c:List (At×Value)}{e:List (Aw×Value)}{names:List yF}(f:SV w S b i g j h a d c e names):Dc w b 2 (a.map rN):=f.r.rowed rN (fun _=>rfl) (fun _=>rfl)
theorem YJ(w:World)(S:Nat)(d n l p m:Value)(c:List (Au×Value))(h:List (Aq×Value×Value×Value))(g:List (At×Value))(i:List (Aw×Value))(names:List yF)(x:yF)(b:SV w S d n l p m c h g i names):
 Calls prog 186 #[.pointer (some ⟨S,0,none⟩),.string x] w fun e w'=>e=.returned (AC d 2 (Af (c.map rN) x))/\yG w w':=by
 have f:=gE w d x (c.map rN) b.rowRole (by have:=b.lr;simp;omega);have c0:w.cell? ⟨S,0,none⟩=some d:=Ac b.sc 0;obtain⟨a,cap,k⟩:=An b.r.own;clear b;subst k;generalize Af (c.map rN) x=q at*;go_enter func186,ntmps186;go_wp2_with fail;refine f.mono ?_;clear f;rintro e w1 ⟨rfl,j⟩;go_wp2;go_ret;exact⟨rfl,j⟩
theorem SV.rowObject{w:World}{S:Nat}{i b g j h:Value}{d:List (Au×Value)}{a:List (Aq×Value×Value×Value)}{c:List (At×Value)}{e:List (Aw×Value)}{names:List yF}(f:SV w S i b g j h d a c e names):Dc w b 4 (a.map oN):=f.o.rowed oN (fun _=>rfl) (fun _=>rfl)
theorem NX(w:World)(S:Nat)(n d l p m:Value)(h:List (Au×Value))(c:List (Aq×Value×Value×Value))(g:List (At×Value))(i:List (Aw×Value))(names:List yF)(x:yF)(b:SV w S n d l p m h c g i names):
 Calls prog 77 #[.pointer (some ⟨S,0,none⟩),.string x] w fun e w'=>e=.returned (AC d 4 (Af (c.map oN) x))/\yG w w':=by
 have f:=gD w d x (c.map oN) b.rowObject (by have:=b.lo;simp;omega);have c0:w.cell? ⟨S,1,none⟩=some d:=Ac b.sc 1;obtain⟨a,cap,k⟩:=An b.o.own;clear b;subst k;generalize Af (c.map oN) x=q at*;go_enter func77,ntmps77;go_wp2_with fail;refine f.mono ?_;clear f;rintro e w1 ⟨rfl,j⟩;go_wp2;go_ret;exact⟨rfl,j⟩
theorem SV.rowIface{w:World}{S:Nat}{j h b k g:Value}{d:List (Au×Value)}{c:List (Aq×Value×Value×Value)}{a:List (At×Value)}{e:List (Aw×Value)}{names:List yF}(f:SV w S j h b k g d c a e names):Dc w b 2 (a.map iN):=f.i.rowed iN (fun _=>rfl) (fun _=>rfl)
theorem SL(w:World)(S:Nat)(p n d r m:Value)(h:List (Au×Value))(g:List (Aq×Value×Value×Value))(c:List (At×Value))(j:List (Aw×Value))(names:List yF)(x:yF)(b:SV w S p n d r m h g c j names):
 Calls prog 184 #[.pointer (some ⟨S,0,none⟩),.string x] w fun e w'=>e=.returned (AC d 2 (Af (c.map iN) x))/\yG w w':=by
 have f:=gB w d x (c.map iN) b.rowIface (by have:=b.li;simp;omega);have c0:w.cell? ⟨S,2,none⟩=some d:=Ac b.sc 2;obtain⟨a,cap,l⟩:=An b.i.own;clear b;subst l;generalize Af (c.map iN) x=q at*;go_enter func184,ntmps184;go_wp2_with fail;refine f.mono ?_;clear f;rintro e w1 ⟨rfl,k⟩;go_wp2;go_ret;exact⟨rfl,k⟩
theorem SV.rowUnion{w:World}{S:Nat}{j i g b h:Value}{e:List (Au×Value)}{d:List (Aq×Value×Value×Value)}{c:List (At×Value)}{a:List (Aw×Value)}{names:List yF}(f:SV w S j i g b h e d c a names):Dc w b 2 (a.map uN):=f.u.rowed uN (fun _=>rfl) (fun _=>rfl)
theorem SO(w:World)(S:Nat)(p n l d m:Value)(i:List (Au×Value))(h:List (Aq×Value×Value×Value))(g:List (At×Value))(c:List (Aw×Value))(names:List yF)(x:yF)(b:SV w S p n l d m i h g c names):
 Calls prog 234 #[.pointer (some ⟨S,0,none⟩),.string x] w fun e w'=>e=.returned (AC d 2 (Af (c.map uN) x))/\yG w w':=by
 have f:=gG w d x (c.map uN) b.rowUnion (by have:=b.lu;simp;omega);have c0:w.cell? ⟨S,3,none⟩=some d:=Ac b.sc 3;obtain⟨a,cap,k⟩:=An b.u.own;clear b;subst k;generalize Af (c.map uN) x=q at*;go_enter func234,ntmps234;go_wp2_with fail;refine f.mono ?_;clear f;rintro e w1 ⟨rfl,j⟩;go_wp2;go_ret;exact⟨rfl,j⟩
def has(l:List yF)(x:yF):Bool:=decide (¬Af l x<0)
def AB(objs ifs uns:List yF)(x:yF):Nat:=
 if Ep x=true then 1 else if has objs x=true then 2 else if has ifs x=true then 3 else if has uns x=true then 4 else 0
theorem Pg(w:World)(S:Nat)(F z y A E:Value)(D:List (Au×Value))(d:List (Aq×Value×Value×Value))(c:List (At×Value))(f:List (Aw×Value))(names:List yF)(x:yF)(k:SV w S F z y A E D d c f names):
 Calls prog 188 #[.pointer (some ⟨S,0,none⟩),.string x] w fun e w'=>e=.returned (.int .i64 (AB (d.map oN) (c.map iN) (f.map uN) x))/\yG w w':=by
 have n:=Nz x;cases q:Ep x
 ·rw[q]at n
  have l:=NX w S F z y A E D d c f names x k;have B:=Aa (fun w' hb=>SL w' S F z y A E D d c f names x (k.below hb));have C:=Aa (fun w' hb=>SO w' S F z y A E D d c f names x (k.below hb));have r:=Hc k.rowObject x;have s:=Hc k.rowIface x;have t:=Hc k.rowUnion x;have i:=Aa (show AB (d.map oN) (c.map iN) (f.map uN) x=if has (d.map oN) x=true then 2 else if has (c.map iN) x=true then 3 else if has (f.map uN) x=true then 4 else 0 from by unfold AB;rw[q];simp);unfold has at i;generalize AB (d.map oN) (c.map iN) (f.map uN) x=v at*;generalize AC z 4 (Af (d.map oN) x)=Q at*;generalize AC y 2 (Af (c.map iN) x)=p2 at*;generalize AC A 2 (Af (f.map uN) x)=p3 at*;generalize Af (d.map oN) x=K at*;generalize Af (c.map iN) x=L at*;generalize Af (f.map uN) x=M at*;clear k q;by_cases g:K<0
  ·have H:=r.1 g
   subst H;by_cases j:L<0
   ·have I:=s.1 j
    subst I;by_cases p:M<0
    ·have J:=t.1 p
     subst J;have h:=Aa (show v=0 from by rw[i.o];simp[g,j,p]);clear r s t g j p i;go_enter func188,ntmps188;go_wp2_with fail;refine(n w).mono ?_;rintro e w1 ⟨rfl,a⟩;have a:=a.symm;subst a;go_wp2_with fail;refine l.mono ?_;clear l;rintro e w1 ⟨rfl,b⟩;go_wp2_with fail;refine(B.o w1 b).mono ?_;rintro e w2 ⟨rfl,u⟩;have m:=b.trans (u.mono b.size);go_wp2_with fail;refine(C.o w2 m).mono ?_;rintro e w3 ⟨rfl,G⟩;go_wp2;go_ret;exact⟨CN (by rw[h.o];rfl),m.trans (G.mono m.size)⟩
    ·obtain⟨P,J⟩:=t.2 p
     subst J;have h:=Aa (show v=4 from by rw[i.o];simp[g,j,p]);clear r s t g j p i;go_enter func188,ntmps188;go_wp2_with fail;refine(n w).mono ?_;rintro e w1 ⟨rfl,a⟩;have a:=a.symm;subst a;go_wp2_with fail;refine l.mono ?_;clear l;rintro e w1 ⟨rfl,b⟩;go_wp2_with fail;refine(B.o w1 b).mono ?_;rintro e w2 ⟨rfl,u⟩;have m:=b.trans (u.mono b.size);go_wp2_with fail;refine(C.o w2 m).mono ?_;rintro e w3 ⟨rfl,G⟩;go_wp2;go_ret;exact⟨CN (by rw[h.o];rfl),m.trans (G.mono m.size)⟩
   ·obtain⟨O,I⟩:=s.2 j
    subst I;have h:=Aa (show v=3 from by rw[i.o];simp[g,j]);clear r s t g j i C;go_enter func188,ntmps188;go_wp2_with fail;refine(n w).mono ?_;rintro e w1 ⟨rfl,a⟩;have a:=a.symm;subst a;go_wp2_with fail;refine l.mono ?_;clear l;rintro e w1 ⟨rfl,b⟩;go_wp2_with fail;refine(B.o w1 b).mono ?_;rintro e w2 ⟨rfl,u⟩;go_wp2;go_ret;exact⟨CN (by rw[h.o];rfl),b.trans (u.mono b.size)⟩
  ·obtain⟨N,H⟩:=r.2 g
   subst H;have h:=Aa (show v=2 from by rw[i.o];simp[g]);clear r s t g i C B;go_enter func188,ntmps188;go_wp2_with fail;refine(n w).mono ?_;rintro e w1 ⟨rfl,a⟩;have a:=a.symm;subst a;go_wp2_with fail;refine l.mono ?_;clear l;rintro e w1 ⟨rfl,b⟩;go_wp2;go_ret;exact⟨CN (by rw[h.o];rfl),b⟩
 ·rw[q]at n
  have h:=Aa (show AB (d.map oN) (c.map iN) (f.map uN) x=1 from by unfold AB;rw[xH q]);generalize AB (d.map oN) (c.map iN) (f.map uN) x=v at*;clear k q;go_enter func188,ntmps188;go_wp2_with fail;refine(n w).mono ?_;rintro e w1 ⟨rfl,a⟩;have a:=a.symm;subst a;go_wp2;go_ret;exact⟨CN (by rw[h.o];rfl),wR _ _⟩
def Jd(roles:List yF)(x:yF):Bool:=decide (x=bE)||has roles x
theorem WG(w:World)(S:Nat)(m u s v t:Value)(a:List (Au×Value))(p:List (Aq×Value×Value×Value))(n:List (At×Value))(r:List (Aw×Value))(names:List yF)(x:yF)(h:SV w S m u s v t a p n r names):
 Calls prog 228 #[.pointer (some ⟨S,0,none⟩),.string x] w fun e w'=>e=.returned (.bool (Jd (a.map rN) x))/\yG w w':=by
 have g:=YJ w S m u s v t a p n r names x h;have f:=Hc h.rowRole x;have b:=Aa (show Jd (a.map rN) x=(x.toList.isEmpty||decide (¬Af (a.map rN) x<0))from by unfold Jd has;rw[KZ]);generalize Jd (a.map rN) x=k at*;generalize AC m 2 (Af (a.map rN) x)=pp at*;generalize Af (a.map rN) x=q at*;clear h;cases j:x.toList.isEmpty
 ·by_cases c:q<0
  ·have l:=f.1 c
   subst l;have d:=Aa (show k=false from by rw[b.o,j];simp[c]);clear f c b;go_enter func228,ntmps228;go_wp2_with fail;refine g.mono ?_;clear g;rintro e w1 ⟨rfl,i⟩;go_wp2;go_ret;exact⟨Al (by rw[d.o]),i⟩
  ·obtain⟨y,l⟩:=f.2 c
   subst l;have d:=Aa (show k=true from by rw[b.o,j];simp[c]);clear f c b;go_enter func228,ntmps228;go_wp2_with fail;refine g.mono ?_;clear g;rintro e w1 ⟨rfl,i⟩;go_wp2;go_ret;exact⟨Al (by rw[d.o]),i⟩
 ·have d:=Aa (show k=true from by rw[b.o,j];rfl)
  clear f b;go_enter func228,ntmps228;go_wp2;go_ret;exact⟨Al (by rw[d.o]),wR _ _⟩
def BM:Bv->yF
 | .one n _=>n
 | .list t _=>BM t
def Np:Bv->Nat
 | .one _ _=>0
 | .list t _=>Np t+1
def EF:Bv->Bv->Bool
 | .one n s,.one m r=>(s==r)&&decide (n=m)
 | .list a s,.list b r=>(s==r)&&EF a b
 |_,_=>false
def Pb:Bv->Bool
 | .one _ _=>false
 | .list _ _=>true
theorem Vv(w:World)(B:Nat)(v:Value)(t:Bv)(b:Bx w B v t):
 Calls prog 227 #[v] w fun e w'=>(∃k st,e=.returned (.pointer (some ⟨k,0,none⟩))/\w.heap[k]?=some (.cells #[.string (BM t),.int .i64 0,.pointer none,.bool st] 302 (0,0)))/\w'=w:=by
 have p:=Aa (show BM t=BM t from rfl);obtain⟨y,rfl⟩:=b.ptr;have g:=Aa b;clear b;go_enter func227,ntmps227;go_wp2;go_loopg [0] (Np t) (fun m v0 wr=>∃a,Bx w B v0 a/\BM a=BM t/\Np a<=m/\wr=w)
 case atStart=>exact⟨t,g.o,rfl,wQ _,rfl⟩
 case round=>
  obtain⟨a,j,i,hd,rfl⟩:=hrel;have h:=Aa i;clear i g p;cases a with
  |one n st=>
   obtain⟨k,c,_,hb⟩:=j;subst c;have c1:wr.cell? ⟨k,1,none⟩=some (.int .i64 0):=Ac hb 1;have l:=Aa hb;clear hb;go_wp2;go_ret;exact⟨⟨k,st,rfl,by rw[<-h.o];exact l.o⟩,rfl⟩
  |list f st=>
   obtain⟨k,u,c,_,hb,d⟩:=j;subst c;obtain⟨s,r⟩:=d.ptr;subst r;have c1:wr.cell? ⟨k,1,none⟩=some (.int .i64 1):=Ac hb 1;have c2:wr.cell? ⟨k,2,none⟩=some (.pointer (some ⟨s,0,none⟩)):=Ac hb 2;have q:=Aa d;have x:Np f+1<=gk:=hd;clear hb d;go_wp2;go_roundg (Np f)
   case measure=>omega
   case rel=>exact⟨f,q.o,h.o,wQ _,rfl⟩
def KC(s:yF):Bool:=decide (s.data.toList.take 2=[95,95])
theorem vB(s:yF)(w:World):
 Calls prog 203 #[.string s,.string ⟨#[95,95]⟩] w fun e w'=>e=.returned (.bool (KC s))/\w'=w:=by
 by_cases f:2<=s.size
 ·have c:2<=(s.size:Int):=by omega
  have a:=Aa (show((s.extract 0 2).toList==[95,95])=KC s from by
   unfold KC;rw[Lib.toList_data,Lib.extract_data,Bool.eq_iff_iff];simp)
  cases b:((s.extract 0 2).toList==[95,95])
  ·go_enter func203,ntmps203
   go_wp2
   go_ret;exact⟨Al (by rw[<-a.o,b]),rfl⟩
  ·go_enter func203,ntmps203
   go_wp2
   go_ret;exact⟨Al (by rw[<-a.o,b]),rfl⟩
 ·have c:¬2<=(s.size:Int):=by omega
  have a:=Aa (show KC s=false from by unfold KC;rw[decide_eq_false_iff_not];intro e;have:=congrArg List.length e;simp at this;have d:s.data.size=s.size:=rfl;omega);go_enter func203,ntmps203
  go_wp2
  go_ret;exact⟨Al (by rw[a.o]),rfl⟩
structure Cn(w:World)(g o:Nat)(f:Am)(u:Value):Prop where
 c0:w.cell? ⟨g,o,none⟩=some (.string f.name)
 c1:w.cell? ⟨g,o+1,none⟩=some (.string f.auth)
 c2:w.cell? ⟨g,o+2,none⟩=some (.string f.hide_)
 c3:w.cell? ⟨g,o+3,none⟩=some (.string f.arg)
 c4:w.cell? ⟨g,o+4,none⟩=some (.string f.scalar)
 c5:w.cell? ⟨g,o+5,none⟩=some u
theorem Cn.below{w w':World}{g o:Nat}{f:Am}{u:Value}(a:Cn w g o f u)(hb:yG w w'):Cn w' g o f u:=
 ⟨Ah hb a.c0,Ah hb a.c1,Ah hb a.c2,Ah hb a.c3,Ah hb a.c4,Ah hb a.c5⟩
def Fh(kind:yF->Nat)(arg:yF)(t:Bv):Bool:=
 if arg=De then !Pb t&&decide (kind (BM t)≠1)
 else if arg=MZ then Pb t
 else true
theorem aW(w:World)(S:Nat)(H G E I F:Value)(C:List (Au×Value))(c:List (Aq×Value×Value×Value))(b:List (At×Value))(d:List (Aw×Value))(names:List yF)(g o B:Nat)(f:Am)(u:Value)(m:SV w S H G E I F C c b d names)(z:Cn w g o f u)(p:Bx w B u f.ty):
 Calls prog 229 #[.pointer (some ⟨S,0,none⟩),.pointer (some ⟨g,o,none⟩)] w fun e w'=>e=.returned (.bool (Fh (AB (c.map oN) (b.map iN) (d.map uN)) f.arg f.ty))/\yG w w':=by
 have c3:=z.c3;have K:=z.c5;clear z;have A:=BX f.arg [105,100];have q:=BX f.arg [102,105,114,115,116];obtain⟨O,M,N,a,fs,l⟩:=f;simp only[]at*;by_cases h:a=De
 ·rw[xM (show a=Az _ from h)]at A
  cases l with
  |one n st=>
   obtain⟨k,rfl,_,hb⟩:=p;have L:w.cell? ⟨k,0,none⟩=some (.string n):=Ac hb 0;have x:w.cell? ⟨k,1,none⟩=some (.int .i64 0):=Ac hb 1;have r:=Pg w S H G E I F C c b d names n m;have i:=Aa (show Fh (AB (c.map oN) (b.map iN) (d.map uN)) a (.one n st)=decide (AB (c.map oN) (b.map iN) (d.map uN) n≠1)from by unfold Fh;rw[xH h];rfl);generalize Fh (AB (c.map oN) (b.map iN) (d.map uN)) a (.one n st)=v at*;generalize AB (c.map oN) (b.map iN) (d.map uN) n=s at*;clear hb m h q;by_cases D:s=1
   ·have J:((s:Int)==1)=true:=by simp;omega
    go_enter func229,ntmps229;go_wp2_with fail;refine r.mono ?_;clear r;rintro e w1 ⟨rfl,y⟩;go_wp2;go_ret;exact⟨Al (by rw[i.o];simp[D]),y⟩
   ·have J:((s:Int)==1)=false:=by simp;omega
    go_enter func229,ntmps229;go_wp2_with fail;refine r.mono ?_;clear r;rintro e w1 ⟨rfl,y⟩;go_wp2;go_ret;exact⟨Al (by rw[i.o];have:¬(s:Int)=1:=(by omega);simp[D,this]),y⟩
  |list t st=>
   obtain⟨k,u1,rfl,_,hb,_⟩:=p;have x:w.cell? ⟨k,1,none⟩=some (.int .i64 1):=Ac hb 1;have i:=Aa (show Fh (AB (c.map oN) (b.map iN) (d.map uN)) a (.list t st)=false from by unfold Fh;rw[xH h];rfl);generalize Fh (AB (c.map oN) (b.map iN) (d.map uN)) a (.list t st)=v at*;clear hb m h q;go_enter func229,ntmps229;go_wp2;go_ret;exact⟨Al (by rw[i.o]),wR _ _⟩
 ·rw[wY (show¬a=Az _ from h)]at A
  by_cases j:a=MZ
  ·rw[xM (show a=Az _ from j)]at q
   have i:=Aa (show Fh (AB (c.map oN) (b.map iN) (d.map uN)) a l=Pb l from by unfold Fh;rw[xG h,xH j]);generalize Fh (AB (c.map oN) (b.map iN) (d.map uN)) a l=v at*;cases l with
   |one n st=>
    obtain⟨k,rfl,_,hb⟩:=p;have x:w.cell? ⟨k,1,none⟩=some (.int .i64 0):=Ac hb 1;clear hb m h j;go_enter func229,ntmps229;go_wp2;go_ret;exact⟨Al (by rw[i.o];rfl),wR _ _⟩
   |list t st=>
    obtain⟨k,u1,rfl,_,hb,_⟩:=p;have x:w.cell? ⟨k,1,none⟩=some (.int .i64 1):=Ac hb 1;clear hb m h j;go_enter func229,ntmps229;go_wp2;go_ret;exact⟨Al (by rw[i.o];rfl),wR _ _⟩
  ·rw[wY (show¬a=Az _ from j)]at q
   have i:=Aa (show Fh (AB (c.map oN) (b.map iN) (d.map uN)) a l=true from by unfold Fh;rw[xG h,xG j]);generalize Fh (AB (c.map oN) (b.map iN) (d.map uN)) a l=v at*;clear m h j p;go_enter func229,ntmps229;go_wp2;go_ret;exact⟨Al (by rw[i.o]),wR _ _⟩
def Hx(roles:List yF)(kind:yF->Nat)(f:Am):Bool:=
 !KC f.name&&(decide (kind (BM f.ty)≠0)&&(Jd roles f.auth&&(Jd roles f.hide_&&Fh kind f.arg f.ty)))
theorem fV(w:World)(S:Nat)(E D A F C:Value)(i:List (Au×Value))(h:List (Aq×Value×Value×Value))(d:List (At×Value))(j:List (Aw×Value))(names:List yF)(g o B:Nat)(f:Am)(u:Value)(v:SV w S E D A F C i h d j names)(s:Cn w g o f u)(H:Bx w B u f.ty):
 Calls prog 182 #[.pointer (some ⟨S,0,none⟩),.pointer (some ⟨g,o,none⟩)] w fun e w'=>e=.returned (.bool (Hx (i.map rN) (AB (h.map oN) (d.map iN) (j.map uN)) f))/\yG w w':=by
 have m:=Aa s;have c0:=s.c0;have c1:=s.c1;have c2:=s.c2;have ab:=s.c5;have z:=vB f.name;have p:=Vv w B u f.ty H;have q:=Pg w S E D A F C i h d j names (BM f.ty) v;have I:=Aa (fun w' hb=>WG w' S E D A F C i h d j names f.auth (v.below hb));have Q:=Aa (fun w' hb=>WG w' S E D A F C i h d j names f.hide_ (v.below hb));have V:=Aa (fun w' hb=>aW w' S E D A F C i h d j names g o B f u (v.below hb) (m.o.below hb) (H.stays (Ap.of_below hb)));obtain⟨ad,rfl⟩:=H.ptr;have c:=Aa (show Hx (i.map rN) (AB (h.map oN) (d.map iN) (j.map uN)) f=(!KC f.name&&(decide (AB (h.map oN) (d.map iN) (j.map uN) (BM f.ty)≠0)&&(Jd (i.map rN) f.auth&&(Jd (i.map rN) f.hide_&&Fh (AB (h.map oN) (d.map iN) (j.map uN)) f.arg f.ty))))from rfl);generalize Hx (i.map rN) (AB (h.map oN) (d.map iN) (j.map uN)) f=P at*;generalize Fh (AB (h.map oN) (d.map iN) (j.map uN)) f.arg f.ty=Z at*;generalize AB (h.map oN) (d.map iN) (j.map uN) (BM f.ty)=O at*;generalize Jd (i.map rN) f.auth=T at*;generalize Jd (i.map rN) f.hide_=U at*;generalize KC f.name=Y at*;generalize BM f.ty=G at*;clear v s H;cases Y
 ·by_cases N:O=0
  ·have aa:((O:Int)==0)=true:=by simp;omega
   have t:=Aa (show P=false from by rw[c.o];simp[N]);clear c;have c:=t;clear t;go_enter func182,ntmps182;go_wp2_with fail;refine(z w).mono ?_;rintro e w0 ⟨rfl,a⟩;have a:=a.symm;subst a;go_wp2_with fail;refine p.mono ?_;clear p;rintro e w0 ⟨⟨r,st,rfl,l⟩,a⟩;have a:=a.symm;subst a;have L:w.cell? ⟨r,0,none⟩=some (.string G):=Ac l 0;clear l;go_wp2_with fail;refine q.mono ?_;clear q;rintro e w1 ⟨rfl,b⟩;have f1:=m.o.below b;have J:=f1.c1;have K:=f1.c2;clear f1;go_wp2;go_ret;exact⟨Al (by first|(rw[c.o];done)|(rw[c.o];rfl)),b⟩
  ·have aa:((O:Int)==0)=false:=by simp;omega
   have t:=Aa (show P=(T&&(U&&Z))from by rw[c.o];simp[N]);clear c;have c:=t;clear t;cases T
   ·skip
    go_enter func182,ntmps182;go_wp2_with fail;refine(z w).mono ?_;rintro e w0 ⟨rfl,a⟩;have a:=a.symm;subst a;go_wp2_with fail;refine p.mono ?_;clear p;rintro e w0 ⟨⟨r,st,rfl,l⟩,a⟩;have a:=a.symm;subst a;have L:w.cell? ⟨r,0,none⟩=some (.string G):=Ac l 0;clear l;go_wp2_with fail;refine q.mono ?_;clear q;rintro e w1 ⟨rfl,b⟩;have f1:=m.o.below b;have J:=f1.c1;have K:=f1.c2;clear f1;go_wp2_with fail;refine(I.o w1 b).mono ?_;rintro e w2 ⟨rfl,y⟩;have k:=b.trans (y.mono b.size);have n:=m.o.below k;have R:=n.c2;clear n;go_wp2;go_ret;exact⟨Al (by first|(rw[c.o];done)|(rw[c.o];rfl)),k⟩
   ·cases U
    ·skip
     go_enter func182,ntmps182;go_wp2_with fail;refine(z w).mono ?_;rintro e w0 ⟨rfl,a⟩;have a:=a.symm;subst a;go_wp2_with fail;refine p.mono ?_;clear p;rintro e w0 ⟨⟨r,st,rfl,l⟩,a⟩;have a:=a.symm;subst a;have L:w.cell? ⟨r,0,none⟩=some (.string G):=Ac l 0;clear l;go_wp2_with fail;refine q.mono ?_;clear q;rintro e w1 ⟨rfl,b⟩;have f1:=m.o.below b;have J:=f1.c1;have K:=f1.c2;clear f1;go_wp2_with fail;refine(I.o w1 b).mono ?_;rintro e w2 ⟨rfl,y⟩;have k:=b.trans (y.mono b.size);have n:=m.o.below k;have R:=n.c2;clear n;go_wp2_with fail;refine(Q.o w2 k).mono ?_;rintro e w3 ⟨rfl,M⟩;have x:=k.trans (M.mono k.size);go_wp2;go_ret;exact⟨Al (by first|(rw[c.o];done)|(rw[c.o];rfl)),x⟩
    ·skip
     go_enter func182,ntmps182;go_wp2_with fail;refine(z w).mono ?_;rintro e w0 ⟨rfl,a⟩;have a:=a.symm;subst a;go_wp2_with fail;refine p.mono ?_;clear p;rintro e w0 ⟨⟨r,st,rfl,l⟩,a⟩;have a:=a.symm;subst a;have L:w.cell? ⟨r,0,none⟩=some (.string G):=Ac l 0;clear l;go_wp2_with fail;refine q.mono ?_;clear q;rintro e w1 ⟨rfl,b⟩;have f1:=m.o.below b;have J:=f1.c1;have K:=f1.c2;clear f1;go_wp2_with fail;refine(I.o w1 b).mono ?_;rintro e w2 ⟨rfl,y⟩;have k:=b.trans (y.mono b.size);have n:=m.o.below k;have R:=n.c2;clear n;go_wp2_with fail;refine(Q.o w2 k).mono ?_;rintro e w3 ⟨rfl,M⟩;have x:=k.trans (M.mono k.size);go_wp2_with fail;refine(V.o w3 x).mono ?_;rintro e w4 ⟨rfl,X⟩;have W:=x.trans (X.mono x.size);go_wp2;go_ret;exact⟨Al (by rw[c.o];simp[N]),W⟩
 ·skip
  go_enter func182,ntmps182;go_wp2_with fail;refine(z w).mono ?_;rintro e w0 ⟨rfl,a⟩;have a:=a.symm;subst a;go_wp2;go_ret;exact⟨Al (by first|(rw[c.o];done)|(rw[c.o];rfl)),wR _ _⟩
def Nu(x:Am×Value):List Value:=(Mt x.1 x.2).toList
def PI(B:Nat)(w:World)(x:Am×Value):Prop:=Bx w B x.2 x.1.ty
def fN(x:Am×Value):yF:=x.1.name
theorem DE.row{w:World}{B:Nat}{v:Value}{l:List Am}(b:DE w B v l):∃a:List (Am×Value),a.map Prod.fst=l/\BV w B 166 6 v Nu (PI B) a:=by
 obtain⟨a,e,c,d⟩:=b;exact⟨a,e,c,d⟩
theorem Ku(a:List (Am×Value))(l:List Am)(b:a.map Prod.fst=l):a.map fN=l.map Am.name:=by
 rw[<-b,List.map_map];rfl
theorem BV.fldAt{w:World}{B:Nat}{v:Value}{b:List (Am×Value)}(c:BV w B 166 6 v Nu (PI B) b)(j:Nat)(x:Am×Value)(d:b[j]?=some x):∃g cap,v=.slice (some ⟨g,0,none⟩) b.length cap/\Cn w g (j*6) x.1 x.2/\Bx w B x.2 x.1.ty:=by
 obtain⟨g,cap,e,a⟩:=c.cell (fun _=>rfl) j x d;exact⟨g,cap,e,⟨by simpa using a 0 _ rfl,a 1 _ rfl,a 2 _ rfl,a 3 _ rfl,a 4 _ rfl,a 5 _ rfl⟩,c.ok x (wT d)⟩
theorem OT(w:World)(c g:Nat)(b:Value)(x:yF)(l:List yF)(j:w.cell? ⟨c,g+1,none⟩=some b)(d:Dc w b 6 l)(i:l.length<=100000):
 Calls prog 142 #[.pointer (some ⟨c,g,none⟩),.string x] w fun e w'=>e=.returned (AC b 6 (Af l x))/\yG w w':=by
 have f:=Rs w b x l d i;obtain⟨a,cap,rfl,_⟩:=d;generalize Af l x=q at*;go_enter func142,ntmps142;go_wp2_with fail;refine f.mono ?_;clear f;rintro e w1 ⟨rfl,h⟩;go_wp2;go_ret;exact⟨rfl,h⟩
def Lc(f:Am):Bool:=!Pb f.ty&&(Ep (BM f.ty)&&(decide (f.auth=bE)&&(decide (f.hide_=bE)&&decide (f.arg=bE))))
theorem gT(w:World):Calls prog 187 #[.pointer none] w fun e w'=>e=.returned (.bool false)/\yG w w':=by
 go_enter func187,ntmps187;go_wp2;go_ret;exact⟨rfl,wR _ _⟩
theorem gM(w:World)(g o B:Nat)(f:Am)(u:Value)(h:Cn w g o f u)(m:Bx w B u f.ty):
 Calls prog 187 #[.pointer (some ⟨g,o,none⟩)] w fun e w'=>e=.returned (.bool (Lc f))/\yG w w':=by
 have c1:=h.c1;have c2:=h.c2;have c3:=h.c3;have x:=h.c5;clear h;obtain⟨j,c,d,i,fs,s⟩:=f;simp only[]at*;cases s with
 |list t st=>
  obtain⟨k,u1,rfl,_,hb,_⟩:=m;have q:w.cell? ⟨k,1,none⟩=some (.int .i64 1):=Ac hb 1;clear hb;rw[show Lc ⟨j,c,d,i,fs,.list t st⟩=false from rfl];go_enter func187,ntmps187;go_wp2;go_ret;exact⟨rfl,wR _ _⟩
 |one n st=>
  obtain⟨k,rfl,_,hb⟩:=m;have y:w.cell? ⟨k,0,none⟩=some (.string n):=Ac hb 0;have q:w.cell? ⟨k,1,none⟩=some (.int .i64 0):=Ac hb 1;clear hb;have hs:=Nz n;have b:=Aa (show Lc ⟨j,c,d,i,fs,.one n st⟩=(Ep n&&(c.toList.isEmpty&&(d.toList.isEmpty&&i.toList.isEmpty)))from by unfold Lc;rw[KZ,KZ,KZ];rfl);generalize Lc ⟨j,c,d,i,fs,.one n st⟩=v at*;generalize Ep n=r at*;cases r
  ·go_enter func187,ntmps187
   go_wp2_with fail;refine(hs w).mono ?_;rintro e w0 ⟨rfl,a⟩;have a:=a.symm;subst a;go_wp2;go_ret;exact⟨Al (by rw[b.o];rfl),wR _ _⟩
  ·cases l:c.toList.isEmpty
   ·rw[l]at b
    go_enter func187,ntmps187;go_wp2_with fail;refine(hs w).mono ?_;rintro e w0 ⟨rfl,a⟩;have a:=a.symm;subst a;go_wp2;go_ret;exact⟨Al (by rw[b.o];rfl),wR _ _⟩
   ·cases p:d.toList.isEmpty
    ·rw[l,p]at b
     go_enter func187,ntmps187;go_wp2_with fail;refine(hs w).mono ?_;rintro e w0 ⟨rfl,a⟩;have a:=a.symm;subst a;go_wp2;go_ret;exact⟨Al (by rw[b.o];rfl),wR _ _⟩
    ·rw[l,p]at b
     go_enter func187,ntmps187;go_wp2_with fail;refine(hs w).mono ?_;rintro e w0 ⟨rfl,a⟩;have a:=a.symm;subst a;go_wp2;go_ret;exact⟨Al (by rw[b.o];simp),wR _ _⟩
def Kj(l:List Am)(n:yF):Bool:=if Af (l.map Am.name) n<0 then false else match l[(Af (l.map Am.name) n).toNat]? with
 |some f=>Lc f
 |none=>false
def ES(roles:List yF)(l:List Am)(x:Cx):Bool:=if x.1=true then has roles x.2 else Kj l x.2
theorem tF(w:World)(S:Nat)(ah aD aB aE aC:Value)(b:List (Au×Value))(ao:List (Aq×Value×Value×Value))(am:List (At×Value))(ap:List (Aw×Value))(names:List yF)(V af B:Nat)(D:Value)(l:List Am)(Q:Nat->Prop)(K:SV w S ah aD aB aE aC b ao am ap names)(O:w.cell? ⟨V,af+1,none⟩=some D)(hF:DE w B D l)(aR:l.length<=100000):∀(v:Value) (r:List Cx),JX w Q v r->∀W,yG w W->
 Calls prog 139 #[.pointer (some ⟨S,0,none⟩),v,.pointer (some ⟨V,af,none⟩)] W fun e w'=>e=.returned (.bool (r.all (ES (b.map rN) l)))/\yG W w':=by
 intro v r aT
 induction aT with
 |is k n a c d e h hb=>
  intro W s;have f:=(s.block k (Ab hb)).trans hb;have c0:W.cell? ⟨k,0,none⟩=some (.string n):=Ac f 0;have c1:W.cell? ⟨k,1,none⟩=some (.int .i64 4):=Ac f 1;have N:=YJ W S ah aD aB aE aC b ao am ap names n (K.below s);have T:=Hc (K.below s).rowRole n;have t:=Aa (show [(true,n)].all (ES (b.map rN) l)=decide (¬Af (b.map rN) n<0)from by simp[ES,has]);generalize [(true,n)].all (ES (b.map rN) l)=H at*;generalize AC ah 2 (Af (b.map rN) n)=pp at*;generalize Af (b.map rN) n=q at*;clear K O hF hb f;by_cases h:q<0
  ·have ag:=T.1 h
   subst ag;have I:=Aa (show H=false from by rw[t.o];simp[h]);clear T h t;go_enter func139,ntmps139;go_wp2_with fail;refine N.mono ?_;clear N;rintro e w1 ⟨rfl,i⟩;go_wp2;go_ret;exact⟨Al (by rw[I.o]),i⟩
  ·obtain⟨aX,ag⟩:=T.2 h
   subst ag;have I:=Aa (show H=true from by rw[t.o];simp[h]);clear T h t;go_enter func139,ntmps139;go_wp2_with fail;refine N.mono ?_;clear N;rintro e w1 ⟨rfl,i⟩;go_wp2;go_ret;exact⟨Al (by rw[I.o]),i⟩
 |eq k n a c d e h hb=>
  intro W s;have f:=(s.block k (Ab hb)).trans hb;have c0:W.cell? ⟨k,0,none⟩=some (.string n):=Ac f 0;have c1:W.cell? ⟨k,1,none⟩=some (.int .i64 5):=Ac f 1;obtain⟨J,L,ab⟩:=hF.row;have R:J.length=l.length:=by rw[<-L];simp
  have aa:Dc w D 6 (l.map Am.name):=by rw[<-Ku J l L];exact ab.rowed fN (fun _=>rfl) (fun _=>rfl)
  have aF:=Aa (fun u (hb:yG w u)=>OT u V af D n (l.map Am.name) (Ah hb O) (aa.below hb) (by simpa using aR));have ax:∀u,yG w u->Calls prog 187 #[AC D 6 (Af (l.map Am.name) n)] u fun e w'=>e=.returned (.bool (Kj l n))/\yG u w':=by
   intro u av;by_cases h:Af (l.map Am.name) n<0
   ·rw[(Hc aa n).1 h,show Kj l n=false from by unfold Kj;rw[xH h]]
    exact gT u
   ·have aw:=Ib (l.map Am.name) n
    obtain⟨j,P⟩:∃j:Nat,Af (l.map Am.name) n=j:=⟨(Af (l.map Am.name) n).toNat,by omega⟩;have aQ:j<J.length:=by rw[P]at aw;simp at aw;omega
    have G:=wS aQ;obtain⟨g,cap,p,aP,aV⟩:=ab.fldAt j _ G;have Z:l[j]?=some J[j].1:=by rw[<-L,xI,G];rfl
    rw[show Kj l n=Lc J[j].1 from by unfold Kj;rw[xG h,P];simp only[xS];rw[Z]];rw[show AC D 6 (Af (l.map Am.name) n)=.pointer (some ⟨g,j*6,none⟩)from by unfold AC;rw[xG h,P,p];simp];exact gM u g (j*6) B _ _ (aP.below av) (aV.stays (Ap.of_below av))
  have aG:=Aa ax;have t:=Aa (show [(false,n)].all (ES (b.map rN) l)=Kj l n from by simp[ES]);generalize [(false,n)].all (ES (b.map rN) l)=H at*;generalize Kj l n=aW at*;generalize AC D 6 (Af (l.map Am.name) n)=pp at*;have A:=Aa s;clear K O hF hb f ax ab L R aa;go_enter func139,ntmps139;go_wp2;go_region_with (first
   |(go_at_call 142;refine(aF.o _ ?_).mono ?_;(first|exact A.o.drew|exact A.o);rintro e w1 ⟨rfl,i⟩;have aj:=Aa (A.o.drew.trans (i.mono A.o.size)))
   |(go_at_call 187;refine(aG.o _ ?_).mono ?_;(first|exact aj.o|exact aj.o.drew);rintro e w2 ⟨rfl,f⟩))
  all_goals(
   go_wp2;go_ret;exact⟨Al (by rw[t.o]),((wR _ _).drew.trans i).trans (f.mono i.size)⟩)
 |node k c n v x y z E r h aZ hb az aL a3 R aU aA=>
  intro W s;have f:=(s.block k (Ab hb)).trans hb;have c0:W.cell? ⟨k,0,none⟩=some (.string n):=Ac f 0;have c1:W.cell? ⟨k,1,none⟩=some (.int .i64 c):=Ac f 1;have c2:W.cell? ⟨k,2,none⟩=some v:=Ac f 2;have X:=AT az s;obtain⟨aq,aY,rfl⟩:=An X;have a4:((c:Int)==4)=false:=by simp;omega
  have a5:((c:Int)==5)=false:=by simp;omega
  have aH:=Aa aA;have aI:=Aa X;have t:=Aa (show r.flatten.all (ES (b.map rN) l)=r.all (fun x=>x.all (ES (b.map rN) l))from by rw[List.all_flatten]);have ak:=Aa R;have A:=Aa s;generalize r.flatten.all (ES (b.map rN) l)=H at*;clear K O hF hb f aA X aU aL az R;go_enter func139,ntmps139;go_wp2;go_loopg [8,40] E.length (fun m v8 v40 wr=>∃j:Nat,v40=.int .i64 j/\j<=E.length/\E.length-j<=m/\yG W wr/\(r.take j).all (fun x=>x.all (ES (b.map rN) l))=true)
  case atStart=>exact⟨0,rfl,wZ _,by omega,wR _ _,by simp⟩
  case round=>
   obtain⟨j,rfl,P,a2,C,au⟩:=hrel;have ai:=Aa au;clear au;by_cases ay:j<E.length
   ·have G:=wS ay
    have Z:j<r.length:=by rw[<-ak.o];exact ay
    have ad:=wS Z;have M:=AT aI.o C;have aO:wr.cell? (⟨(match aq with|some a=>a.block|none=>0),j,none⟩:Addr)=some E[j]:=by
     rcases M.2 with⟨e,aK⟩|⟨g,cap,aJ,p,a0,a1,_⟩
     ·omega
     ·cases p
      have:=M.cellAt j (by omega);simpa [G]using this
    obtain⟨g,aM⟩:∃g,aq=some ⟨g,0,none⟩:=by
     rcases M.2 with⟨e,aK⟩|⟨g,cap,aJ,p,_⟩
     ·omega
     ·cases p;exact⟨g,rfl⟩
    subst aM;simp only at aO;have aN:=A.o.trans (C.mono A.o.size);have F:=aH.o j _ _ G ad wr aN;have al:=Aa ad;clear G ad M;generalize E[j]=a6 at*;generalize aS:r[j]=ae at*;clear aS;have U:=Aa (show(r.take (j+1)).all (fun x=>x.all (ES (b.map rN) l))=ae.all (ES (b.map rN) l)from by
     rw[xL,al.o,List.all_append,ai.o];simp)
    cases p:ae.all (ES (b.map rN) l)
    ·rw[p]at F U
     have I:=Aa (show H=false from by
      rw[t.o,Bool.eq_false_iff];intro ar;rw[xP]at ar;have:=ar ae (wT al.o);rw[p]at this;cases this)
     clear p;go_wp2_with fail;refine F.mono ?_;clear F;rintro e w1 ⟨rfl,i⟩;have Y:=C.trans (i.mono C.size);clear i;go_wp2;go_ret;exact⟨Al (by rw[I.o]),Y⟩
    ·rw[p]at F U
     clear p;go_wp2_with fail;refine F.mono ?_;clear F;rintro e w1 ⟨rfl,i⟩;have Y:=C.trans (i.mono C.size);clear i;go_wp2;go_roundg (E.length-(j+1))
     case measure=>omega
     case rel=>exact⟨j+1,by go_num,by omega,wQ _,Y,U.o⟩
   ·go_wp2
    go_ret;exact⟨Al (by
     rw[t.o];have:=ai.o;rw[xB (by have:=ak.o;omega)]at this;rw[this]),C⟩
end Go.Proofs.YtogdodlibkckkaaGreatDoor
