import Derived.Test.YtadneapobijejaaGreatDoorC09
import Derived.BigQuiet
namespace Go.Proofs.YtadneapobijejaaGreatDoor
set_option maxHeartbeats 20000000
set_option maxRecDepth 100000
open Go.RowKit Tryz
def CT(w:World)(v:Value)(size:Nat)(l:List vD):Prop:=∃a cap,v=.slice a l.length cap/\(l=[]\/∃g,a=some ⟨g,0,none⟩/\∀(j:Nat) (x:vD),l[j]?=some x->w.cell? ⟨g,j*size,none⟩=some (.string x)/\∀k,0<k->k<size->∃u,w.cell? ⟨g,j*size+k,none⟩=some u)
theorem CT.below{w w':World}{v:Value}{size:Nat}{l:List vD}(h:CT w v size l)(hb:vE w w'):CT w' v size l:=by
 obtain⟨a,cap,h1,h3⟩:=h;refine⟨a,cap,h1,?_⟩;rcases h3 with h3|⟨g,h3,h4⟩
 ·exact Or.inl h3
 ·refine Or.inr ⟨g,h3,fun j x hj=>?_⟩
  obtain⟨c0,cs⟩:=h4 j x hj;exact⟨Ah hb c0,fun k h1 h2=>by obtain⟨u,hu⟩:=cs k h1 h2;exact⟨u,Ah hb hu⟩⟩
theorem JR(w:World)(n:vD):
 Calls prog 281 #[.agg #[.string n]] w fun e w'=>e=.returned (.string n)/\vE w w':=by
 go_enter func281,ntmps281;go_wp2_with fail;go_ret;exact⟨rfl,(tM _ _).alloc (tL _) _⟩
theorem World.size_alloc_drew(w:World)(o:Obj):(w.alloc o).drew.heap.size=w.heap.size+1:=by
 show(w.alloc o).heap.size=_;simp
def AC(v:Value)(size:Nat)(q:Int):Value:=
 if q<0 then .pointer none else match v with
  | .slice (some a) _ _=>.pointer (some ⟨a.block,q.toNat*size,none⟩)
  |_=>.pointer none
theorem Uq:∀(l:List vD) (x:vD) (n:Nat), -1<=EX l x n/\EX l x n<n+l.length
 |[],_,n=>⟨by simp[EX],by simp[EX];omega⟩
 |y::l,x,n=>by
  rw[EX];split
  ·simp;omega
  ·have:=Uq l x (n+1)
   simp at*;omega
theorem Hn(l:List vD)(x:vD): -1<=Ae l x/\Ae l x<l.length:=by
 have:=Uq l x 0;unfold Ae;simpa using this
theorem VB(n:vD)(u1:Value)(W:World):Sem.run prog (method 492 166 (.agg #[.string n,u1]) "veil/schemas.called") W=.ok (281,.agg #[.string n]) W:=by kernel_rfl
theorem ZW(w:World)(Z:Nat)(x n:vD)(u1:Value)(hz:w.cell? ⟨Z,0,none⟩=some (.string x)):
 Calls prog 227 #[.agg #[.string n,u1],.pointer (some ⟨Z,0,none⟩)] w fun e w'=>e=.returned (.bool (n.toList==x.toList))/\vE w w':=by
 have hzl:=tR w _ hz;simp only at hzl;have HC:=Aa (fun W=>JR W n);have wR:=fun W=>VB n u1 W;go_enter func227,ntmps227;go_wp2_with fail;have hz2:(w.alloc (.cells #[.string n,u1] 166)).cell? ⟨Z,0,none⟩=some (.string x):=Ah ((tM _ _).alloc (tL _) _) hz;go_region_with (go_at_call 281;refine(HC.o _).mono ?_;rintro e w1 ⟨rfl,hb1⟩;have hz3:w1.cell? ⟨Z,0,none⟩=some (.string x):=(hb1.cell (by simp;omega)).trans hz2);all_goals(
  go_wp2_with fail;go_ret;exact⟨rfl,(((tM w.heap.size w).alloc (tL _) (.cells #[.string n,u1] 166)).drew).trans (hb1.mono (by have:=World.size_alloc_drew w (.cells #[.string n,u1] 166);omega))⟩)
theorem eV(w:World)(v:Value)(Z:Nat)(x:vD)(l:List vD)(h:CT w v 2 l)(hl:l.length<=100000)(hz:w.cell? ⟨Z,0,none⟩=some (.string x)):
 Calls prog 226 #[v,.func (Fn.func 227) #[] #[.pointer (some ⟨Z,0,none⟩)]] w fun e w'=>e=.returned (.int .i64 (Ae l x))/\vE w w':=by
 have H0:=Aa h;have HZ:=Aa hz;obtain⟨a,cap,rfl,_⟩:=h;have hzl:=tR w _ hz;simp only at hzl;generalize hq:Ae l x=q;have HQ:=Aa hq;clear hq hz;go_enter func226,ntmps226;go_wp2_with fail;go_loopg [5,8] l.length (fun m v5 v8 wr=>∃k:Nat,v8=.int .i64 k/\k<=l.length/\l.length-k<=m/\vE w wr/\∀y∈l.take k,y≠x)
 case atStart=>exact⟨0,rfl,tU _,by omega,tM _ _,by simp⟩
 case round=>
  obtain⟨k,rfl,hk,hm,hb,hc⟩:=hrel;have HC:=Aa hc;clear hc;have hz:=Ah hb HZ.o;by_cases hlt:k<l.length
  ·obtain⟨a',cap',e1,h3⟩:=H0.o.below hb
   cases e1;obtain⟨g,ha,h4⟩:∃g,a=some ⟨g,0,none⟩/\∀(j:Nat) (x:vD),l[j]?=some x->wr.cell? ⟨g,j*2,none⟩=some (.string x)/\∀k,0<k->k<2->∃u,wr.cell? ⟨g,j*2+k,none⟩=some u:=by
    rcases h3 with e|e
    ·rw[e]at hlt;simp at hlt
    ·exact e
   subst ha;have hx:=tN hlt;obtain⟨hcell,hrest⟩:=h4 k _ hx;obtain⟨u1,hu1⟩:=hrest 1 (by decide) (by decide);have HX:=Aa hx;clear h4 hx hrest h3;generalize l[k]=y at*;have hcl:=ZW wr Z x y u1 hz;cases hy:(y.toList==x.toList)
   ·rw[hy]at hcl
    have HY:=Aa hy;clear hy;go_wp2_with fail;refine hcl.mono ?_;clear hcl;rintro e w1 ⟨rfl,hb1⟩;have hbb:=hb.trans (hb1.mono hb.size);clear hb1;go_wp2_with fail;go_roundg (l.length-(k+1))
    case measure=>omega
    case rel=>exact⟨k+1,by go_num,by omega,tL _,hbb,by
     rw[uG,HX.o];intro z hz;rcases uZ.1 hz with hz|hz
     ·exact HC.o z hz
     ·simp at hz;subst hz;have:=HY.o;rw[Cr]at this;simpa using this⟩
   ·rw[hy]at hcl
    have HY:=Aa hy;clear hy;go_wp2_with fail;refine hcl.mono ?_;clear hcl;rintro e w1 ⟨rfl,hb1⟩;have hbb:=hb.trans (hb1.mono hb.size);clear hb1;go_wp2_with fail;go_ret;exact⟨CG (by rw[<-HQ.o];have hy:=HY.o;rw[Cr]at hy;simp only[uF]at hy;subst hy;unfold Ae;rw[Jt l y 0 k HC.o HX.o];simp),hbb⟩
  ·go_wp2_with fail
   go_ret;exact⟨CG (by
    rw[<-HQ.o];have:=HC.o;rw[tW (by omega)]at this;unfold Ae;rw[JW l x 0 this]),hb⟩
theorem dJ(w:World)(v:Value)(x:vD)(l:List vD)(h:CT w v 2 l)(hl:l.length<=100000):
 Calls prog 199 #[v,.string x] w fun e w'=>e=.returned (AC v 2 (Ae l x))/\vE w w':=by
 have hc:=eV (w.alloc (.cells #[.string x] 9)) v w.heap.size x l (h.below ((tM _ _).alloc (tL _) _)) hl (by simp);have hbd:=Hn l x;obtain⟨a,cap,rfl,h3⟩:=h;generalize Ae l x=q at*;by_cases hq:q<0
 ·rw[show AC (.slice a l.length cap) 2 q=.pointer none from by unfold AC;rw[uC hq]]
  go_enter func199,ntmps199;go_wp2_with fail;refine hc.mono ?_;clear hc;rintro e w1 ⟨rfl,hb1⟩;go_wp2_with fail;go_ret;exact⟨rfl,((tM _ _).alloc (tL _) _).trans (hb1.mono (by simp))⟩
 ·obtain⟨k,rfl⟩:∃k:Nat,q=k:=⟨q.toNat,by omega⟩
  have hkl:k<l.length:=by omega
  obtain⟨g,ha⟩:∃g,a=some ⟨g,0,none⟩:=by
   rcases h3 with e|⟨g,e,_⟩
   ·rw[e]at hkl;simp at hkl
   ·exact⟨g,e⟩
  subst ha;rw[show AC (.slice (some ⟨g,0,none⟩) l.length cap) 2 (k:Int)=.pointer (some ⟨g,k*2,none⟩)from by unfold AC;rw[uB hq];simp];clear h3;go_enter func199,ntmps199;go_wp2_with fail;refine hc.mono ?_;clear hc;rintro e w1 ⟨rfl,hb1⟩;go_wp2_with fail;go_ret;exact⟨rfl,((tM _ _).alloc (tL _) _).trans (hb1.mono (by simp))⟩
theorem kG(n:vD)(u1 u2 u3:Value)(W:World):Sem.run prog (method 492 203 (.agg #[.string n,u1,u2,u3]) "veil/schemas.called") W=.ok (281,.agg #[.string n]) W:=by kernel_rfl
theorem ZV(w:World)(Z:Nat)(x n:vD)(u1 u2 u3:Value)(hz:w.cell? ⟨Z,0,none⟩=some (.string x)):
 Calls prog 127 #[.agg #[.string n,u1,u2,u3],.pointer (some ⟨Z,0,none⟩)] w fun e w'=>e=.returned (.bool (n.toList==x.toList))/\vE w w':=by
 have hzl:=tR w _ hz;simp only at hzl;have HC:=Aa (fun W=>JR W n);have wR:=fun W=>kG n u1 u2 u3 W;go_enter func127,ntmps127;go_wp2_with fail;have hz2:(w.alloc (.cells #[.string n,u1,u2,u3] 203)).cell? ⟨Z,0,none⟩=some (.string x):=Ah ((tM _ _).alloc (tL _) _) hz;go_region_with (go_at_call 281;refine(HC.o _).mono ?_;rintro e w1 ⟨rfl,hb1⟩;have hz3:w1.cell? ⟨Z,0,none⟩=some (.string x):=(hb1.cell (by simp;omega)).trans hz2);all_goals(
  go_wp2_with fail;go_ret;exact⟨rfl,(((tM w.heap.size w).alloc (tL _) (.cells #[.string n,u1,u2,u3] 203)).drew).trans (hb1.mono (by have:=World.size_alloc_drew w (.cells #[.string n,u1,u2,u3] 203);omega))⟩)
theorem eS(w:World)(v:Value)(Z:Nat)(x:vD)(l:List vD)(h:CT w v 4 l)(hl:l.length<=100000)(hz:w.cell? ⟨Z,0,none⟩=some (.string x)):
 Calls prog 126 #[v,.func (Fn.func 127) #[] #[.pointer (some ⟨Z,0,none⟩)]] w fun e w'=>e=.returned (.int .i64 (Ae l x))/\vE w w':=by
 have H0:=Aa h;have HZ:=Aa hz;obtain⟨a,cap,rfl,_⟩:=h;have hzl:=tR w _ hz;simp only at hzl;generalize hq:Ae l x=q;have HQ:=Aa hq;clear hq hz;go_enter func126,ntmps126;go_wp2_with fail;go_loopg [5,8] l.length (fun m v5 v8 wr=>∃k:Nat,v8=.int .i64 k/\k<=l.length/\l.length-k<=m/\vE w wr/\∀y∈l.take k,y≠x)
 case atStart=>exact⟨0,rfl,tU _,by omega,tM _ _,by simp⟩
 case round=>
  obtain⟨k,rfl,hk,hm,hb,hc⟩:=hrel;have HC:=Aa hc;clear hc;have hz:=Ah hb HZ.o;by_cases hlt:k<l.length
  ·obtain⟨a',cap',e1,h3⟩:=H0.o.below hb
   cases e1;obtain⟨g,ha,h4⟩:∃g,a=some ⟨g,0,none⟩/\∀(j:Nat) (x:vD),l[j]?=some x->wr.cell? ⟨g,j*4,none⟩=some (.string x)/\∀k,0<k->k<4->∃u,wr.cell? ⟨g,j*4+k,none⟩=some u:=by
    rcases h3 with e|e
    ·rw[e]at hlt;simp at hlt
    ·exact e
   subst ha;have hx:=tN hlt;obtain⟨hcell,hrest⟩:=h4 k _ hx;obtain⟨u1,hu1⟩:=hrest 1 (by decide) (by decide);obtain⟨u2,hu2⟩:=hrest 2 (by decide) (by decide);obtain⟨u3,hu3⟩:=hrest 3 (by decide) (by decide);have HX:=Aa hx;clear h4 hx hrest h3;generalize l[k]=y at*;have hcl:=ZV wr Z x y u1 u2 u3 hz;cases hy:(y.toList==x.toList)
   ·rw[hy]at hcl
    have HY:=Aa hy;clear hy;go_wp2_with fail;refine hcl.mono ?_;clear hcl;rintro e w1 ⟨rfl,hb1⟩;have hbb:=hb.trans (hb1.mono hb.size);clear hb1;go_wp2_with fail;go_roundg (l.length-(k+1))
    case measure=>omega
    case rel=>exact⟨k+1,by go_num,by omega,tL _,hbb,by
     rw[uG,HX.o];intro z hz;rcases uZ.1 hz with hz|hz
     ·exact HC.o z hz
     ·simp at hz;subst hz;have:=HY.o;rw[Cr]at this;simpa using this⟩
   ·rw[hy]at hcl
    have HY:=Aa hy;clear hy;go_wp2_with fail;refine hcl.mono ?_;clear hcl;rintro e w1 ⟨rfl,hb1⟩;have hbb:=hb.trans (hb1.mono hb.size);clear hb1;go_wp2_with fail;go_ret;exact⟨CG (by rw[<-HQ.o];have hy:=HY.o;rw[Cr]at hy;simp only[uF]at hy;subst hy;unfold Ae;rw[Jt l y 0 k HC.o HX.o];simp),hbb⟩
  ·go_wp2_with fail
   go_ret;exact⟨CG (by
    rw[<-HQ.o];have:=HC.o;rw[tW (by omega)]at this;unfold Ae;rw[JW l x 0 this]),hb⟩
theorem dH(w:World)(v:Value)(x:vD)(l:List vD)(h:CT w v 4 l)(hl:l.length<=100000):
 Calls prog 81 #[v,.string x] w fun e w'=>e=.returned (AC v 4 (Ae l x))/\vE w w':=by
 have hc:=eS (w.alloc (.cells #[.string x] 9)) v w.heap.size x l (h.below ((tM _ _).alloc (tL _) _)) hl (by simp);have hbd:=Hn l x;obtain⟨a,cap,rfl,h3⟩:=h;generalize Ae l x=q at*;by_cases hq:q<0
 ·rw[show AC (.slice a l.length cap) 4 q=.pointer none from by unfold AC;rw[uC hq]]
  go_enter func81,ntmps81;go_wp2_with fail;refine hc.mono ?_;clear hc;rintro e w1 ⟨rfl,hb1⟩;go_wp2_with fail;go_ret;exact⟨rfl,((tM _ _).alloc (tL _) _).trans (hb1.mono (by simp))⟩
 ·obtain⟨k,rfl⟩:∃k:Nat,q=k:=⟨q.toNat,by omega⟩
  have hkl:k<l.length:=by omega
  obtain⟨g,ha⟩:∃g,a=some ⟨g,0,none⟩:=by
   rcases h3 with e|⟨g,e,_⟩
   ·rw[e]at hkl;simp at hkl
   ·exact⟨g,e⟩
  subst ha;rw[show AC (.slice (some ⟨g,0,none⟩) l.length cap) 4 (k:Int)=.pointer (some ⟨g,k*4,none⟩)from by unfold AC;rw[uB hq];simp];clear h3;go_enter func81,ntmps81;go_wp2_with fail;refine hc.mono ?_;clear hc;rintro e w1 ⟨rfl,hb1⟩;go_wp2_with fail;go_ret;exact⟨rfl,((tM _ _).alloc (tL _) _).trans (hb1.mono (by simp))⟩
theorem kE(n:vD)(u1:Value)(W:World):Sem.run prog (method 492 223 (.agg #[.string n,u1]) "veil/schemas.called") W=.ok (281,.agg #[.string n]) W:=by kernel_rfl
theorem ZT(w:World)(Z:Nat)(x n:vD)(u1:Value)(hz:w.cell? ⟨Z,0,none⟩=some (.string x)):
 Calls prog 225 #[.agg #[.string n,u1],.pointer (some ⟨Z,0,none⟩)] w fun e w'=>e=.returned (.bool (n.toList==x.toList))/\vE w w':=by
 have hzl:=tR w _ hz;simp only at hzl;have HC:=Aa (fun W=>JR W n);have wR:=fun W=>kE n u1 W;go_enter func225,ntmps225;go_wp2_with fail;have hz2:(w.alloc (.cells #[.string n,u1] 223)).cell? ⟨Z,0,none⟩=some (.string x):=Ah ((tM _ _).alloc (tL _) _) hz;go_region_with (go_at_call 281;refine(HC.o _).mono ?_;rintro e w1 ⟨rfl,hb1⟩;have hz3:w1.cell? ⟨Z,0,none⟩=some (.string x):=(hb1.cell (by simp;omega)).trans hz2);all_goals(
  go_wp2_with fail;go_ret;exact⟨rfl,(((tM w.heap.size w).alloc (tL _) (.cells #[.string n,u1] 223)).drew).trans (hb1.mono (by have:=World.size_alloc_drew w (.cells #[.string n,u1] 223);omega))⟩)
theorem eM(w:World)(v:Value)(Z:Nat)(x:vD)(l:List vD)(h:CT w v 2 l)(hl:l.length<=100000)(hz:w.cell? ⟨Z,0,none⟩=some (.string x)):
 Calls prog 224 #[v,.func (Fn.func 225) #[] #[.pointer (some ⟨Z,0,none⟩)]] w fun e w'=>e=.returned (.int .i64 (Ae l x))/\vE w w':=by
 have H0:=Aa h;have HZ:=Aa hz;obtain⟨a,cap,rfl,_⟩:=h;have hzl:=tR w _ hz;simp only at hzl;generalize hq:Ae l x=q;have HQ:=Aa hq;clear hq hz;go_enter func224,ntmps224;go_wp2_with fail;go_loopg [5,8] l.length (fun m v5 v8 wr=>∃k:Nat,v8=.int .i64 k/\k<=l.length/\l.length-k<=m/\vE w wr/\∀y∈l.take k,y≠x)
 case atStart=>exact⟨0,rfl,tU _,by omega,tM _ _,by simp⟩
 case round=>
  obtain⟨k,rfl,hk,hm,hb,hc⟩:=hrel;have HC:=Aa hc;clear hc;have hz:=Ah hb HZ.o;by_cases hlt:k<l.length
  ·obtain⟨a',cap',e1,h3⟩:=H0.o.below hb
   cases e1;obtain⟨g,ha,h4⟩:∃g,a=some ⟨g,0,none⟩/\∀(j:Nat) (x:vD),l[j]?=some x->wr.cell? ⟨g,j*2,none⟩=some (.string x)/\∀k,0<k->k<2->∃u,wr.cell? ⟨g,j*2+k,none⟩=some u:=by
    rcases h3 with e|e
    ·rw[e]at hlt;simp at hlt
    ·exact e
   subst ha;have hx:=tN hlt;obtain⟨hcell,hrest⟩:=h4 k _ hx;obtain⟨u1,hu1⟩:=hrest 1 (by decide) (by decide);have HX:=Aa hx;clear h4 hx hrest h3;generalize l[k]=y at*;have hcl:=ZT wr Z x y u1 hz;cases hy:(y.toList==x.toList)
   ·rw[hy]at hcl
    have HY:=Aa hy;clear hy;go_wp2_with fail;refine hcl.mono ?_;clear hcl;rintro e w1 ⟨rfl,hb1⟩;have hbb:=hb.trans (hb1.mono hb.size);clear hb1;go_wp2_with fail;go_roundg (l.length-(k+1))
    case measure=>omega
    case rel=>exact⟨k+1,by go_num,by omega,tL _,hbb,by
     rw[uG,HX.o];intro z hz;rcases uZ.1 hz with hz|hz
     ·exact HC.o z hz
     ·simp at hz;subst hz;have:=HY.o;rw[Cr]at this;simpa using this⟩
   ·rw[hy]at hcl
    have HY:=Aa hy;clear hy;go_wp2_with fail;refine hcl.mono ?_;clear hcl;rintro e w1 ⟨rfl,hb1⟩;have hbb:=hb.trans (hb1.mono hb.size);clear hb1;go_wp2_with fail;go_ret;exact⟨CG (by rw[<-HQ.o];have hy:=HY.o;rw[Cr]at hy;simp only[uF]at hy;subst hy;unfold Ae;rw[Jt l y 0 k HC.o HX.o];simp),hbb⟩
  ·go_wp2_with fail
   go_ret;exact⟨CG (by
    rw[<-HQ.o];have:=HC.o;rw[tW (by omega)]at this;unfold Ae;rw[JW l x 0 this]),hb⟩
theorem dG(w:World)(v:Value)(x:vD)(l:List vD)(h:CT w v 2 l)(hl:l.length<=100000):
 Calls prog 197 #[v,.string x] w fun e w'=>e=.returned (AC v 2 (Ae l x))/\vE w w':=by
 have hc:=eM (w.alloc (.cells #[.string x] 9)) v w.heap.size x l (h.below ((tM _ _).alloc (tL _) _)) hl (by simp);have hbd:=Hn l x;obtain⟨a,cap,rfl,h3⟩:=h;generalize Ae l x=q at*;by_cases hq:q<0
 ·rw[show AC (.slice a l.length cap) 2 q=.pointer none from by unfold AC;rw[uC hq]]
  go_enter func197,ntmps197;go_wp2_with fail;refine hc.mono ?_;clear hc;rintro e w1 ⟨rfl,hb1⟩;go_wp2_with fail;go_ret;exact⟨rfl,((tM _ _).alloc (tL _) _).trans (hb1.mono (by simp))⟩
 ·obtain⟨k,rfl⟩:∃k:Nat,q=k:=⟨q.toNat,by omega⟩
  have hkl:k<l.length:=by omega
  obtain⟨g,ha⟩:∃g,a=some ⟨g,0,none⟩:=by
   rcases h3 with e|⟨g,e,_⟩
   ·rw[e]at hkl;simp at hkl
   ·exact⟨g,e⟩
  subst ha;rw[show AC (.slice (some ⟨g,0,none⟩) l.length cap) 2 (k:Int)=.pointer (some ⟨g,k*2,none⟩)from by unfold AC;rw[uB hq];simp];clear h3;go_enter func197,ntmps197;go_wp2_with fail;refine hc.mono ?_;clear hc;rintro e w1 ⟨rfl,hb1⟩;go_wp2_with fail;go_ret;exact⟨rfl,((tM _ _).alloc (tL _) _).trans (hb1.mono (by simp))⟩
theorem kH(n:vD)(u1:Value)(W:World):Sem.run prog (method 492 226 (.agg #[.string n,u1]) "veil/schemas.called") W=.ok (281,.agg #[.string n]) W:=by kernel_rfl
theorem ZX(w:World)(Z:Nat)(x n:vD)(u1:Value)(hz:w.cell? ⟨Z,0,none⟩=some (.string x)):
 Calls prog 242 #[.agg #[.string n,u1],.pointer (some ⟨Z,0,none⟩)] w fun e w'=>e=.returned (.bool (n.toList==x.toList))/\vE w w':=by
 have hzl:=tR w _ hz;simp only at hzl;have HC:=Aa (fun W=>JR W n);have wR:=fun W=>kH n u1 W;go_enter func242,ntmps242;go_wp2_with fail;have hz2:(w.alloc (.cells #[.string n,u1] 226)).cell? ⟨Z,0,none⟩=some (.string x):=Ah ((tM _ _).alloc (tL _) _) hz;go_region_with (go_at_call 281;refine(HC.o _).mono ?_;rintro e w1 ⟨rfl,hb1⟩;have hz3:w1.cell? ⟨Z,0,none⟩=some (.string x):=(hb1.cell (by simp;omega)).trans hz2);all_goals(
  go_wp2_with fail;go_ret;exact⟨rfl,(((tM w.heap.size w).alloc (tL _) (.cells #[.string n,u1] 226)).drew).trans (hb1.mono (by have:=World.size_alloc_drew w (.cells #[.string n,u1] 226);omega))⟩)
theorem eY(w:World)(v:Value)(Z:Nat)(x:vD)(l:List vD)(h:CT w v 2 l)(hl:l.length<=100000)(hz:w.cell? ⟨Z,0,none⟩=some (.string x)):
 Calls prog 241 #[v,.func (Fn.func 242) #[] #[.pointer (some ⟨Z,0,none⟩)]] w fun e w'=>e=.returned (.int .i64 (Ae l x))/\vE w w':=by
 have H0:=Aa h;have HZ:=Aa hz;obtain⟨a,cap,rfl,_⟩:=h;have hzl:=tR w _ hz;simp only at hzl;generalize hq:Ae l x=q;have HQ:=Aa hq;clear hq hz;go_enter func241,ntmps241;go_wp2_with fail;go_loopg [5,8] l.length (fun m v5 v8 wr=>∃k:Nat,v8=.int .i64 k/\k<=l.length/\l.length-k<=m/\vE w wr/\∀y∈l.take k,y≠x)
 case atStart=>exact⟨0,rfl,tU _,by omega,tM _ _,by simp⟩
 case round=>
  obtain⟨k,rfl,hk,hm,hb,hc⟩:=hrel;have HC:=Aa hc;clear hc;have hz:=Ah hb HZ.o;by_cases hlt:k<l.length
  ·obtain⟨a',cap',e1,h3⟩:=H0.o.below hb
   cases e1;obtain⟨g,ha,h4⟩:∃g,a=some ⟨g,0,none⟩/\∀(j:Nat) (x:vD),l[j]?=some x->wr.cell? ⟨g,j*2,none⟩=some (.string x)/\∀k,0<k->k<2->∃u,wr.cell? ⟨g,j*2+k,none⟩=some u:=by
    rcases h3 with e|e
    ·rw[e]at hlt;simp at hlt
    ·exact e
   subst ha;have hx:=tN hlt;obtain⟨hcell,hrest⟩:=h4 k _ hx;obtain⟨u1,hu1⟩:=hrest 1 (by decide) (by decide);have HX:=Aa hx;clear h4 hx hrest h3;generalize l[k]=y at*;have hcl:=ZX wr Z x y u1 hz;cases hy:(y.toList==x.toList)
   ·rw[hy]at hcl
    have HY:=Aa hy;clear hy;go_wp2_with fail;refine hcl.mono ?_;clear hcl;rintro e w1 ⟨rfl,hb1⟩;have hbb:=hb.trans (hb1.mono hb.size);clear hb1;go_wp2_with fail;go_roundg (l.length-(k+1))
    case measure=>omega
    case rel=>exact⟨k+1,by go_num,by omega,tL _,hbb,by
     rw[uG,HX.o];intro z hz;rcases uZ.1 hz with hz|hz
     ·exact HC.o z hz
     ·simp at hz;subst hz;have:=HY.o;rw[Cr]at this;simpa using this⟩
   ·rw[hy]at hcl
    have HY:=Aa hy;clear hy;go_wp2_with fail;refine hcl.mono ?_;clear hcl;rintro e w1 ⟨rfl,hb1⟩;have hbb:=hb.trans (hb1.mono hb.size);clear hb1;go_wp2_with fail;go_ret;exact⟨CG (by rw[<-HQ.o];have hy:=HY.o;rw[Cr]at hy;simp only[uF]at hy;subst hy;unfold Ae;rw[Jt l y 0 k HC.o HX.o];simp),hbb⟩
  ·go_wp2_with fail
   go_ret;exact⟨CG (by
    rw[<-HQ.o];have:=HC.o;rw[tW (by omega)]at this;unfold Ae;rw[JW l x 0 this]),hb⟩
theorem dK(w:World)(v:Value)(x:vD)(l:List vD)(h:CT w v 2 l)(hl:l.length<=100000):
 Calls prog 228 #[v,.string x] w fun e w'=>e=.returned (AC v 2 (Ae l x))/\vE w w':=by
 have hc:=eY (w.alloc (.cells #[.string x] 9)) v w.heap.size x l (h.below ((tM _ _).alloc (tL _) _)) hl (by simp);have hbd:=Hn l x;obtain⟨a,cap,rfl,h3⟩:=h;generalize Ae l x=q at*;by_cases hq:q<0
 ·rw[show AC (.slice a l.length cap) 2 q=.pointer none from by unfold AC;rw[uC hq]]
  go_enter func228,ntmps228;go_wp2_with fail;refine hc.mono ?_;clear hc;rintro e w1 ⟨rfl,hb1⟩;go_wp2_with fail;go_ret;exact⟨rfl,((tM _ _).alloc (tL _) _).trans (hb1.mono (by simp))⟩
 ·obtain⟨k,rfl⟩:∃k:Nat,q=k:=⟨q.toNat,by omega⟩
  have hkl:k<l.length:=by omega
  obtain⟨g,ha⟩:∃g,a=some ⟨g,0,none⟩:=by
   rcases h3 with e|⟨g,e,_⟩
   ·rw[e]at hkl;simp at hkl
   ·exact⟨g,e⟩
  subst ha;rw[show AC (.slice (some ⟨g,0,none⟩) l.length cap) 2 (k:Int)=.pointer (some ⟨g,k*2,none⟩)from by unfold AC;rw[uB hq];simp];clear h3;go_enter func228,ntmps228;go_wp2_with fail;refine hc.mono ?_;clear hc;rintro e w1 ⟨rfl,hb1⟩;go_wp2_with fail;go_ret;exact⟨rfl,((tM _ _).alloc (tL _) _).trans (hb1.mono (by simp))⟩
theorem VA(n:vD)(u1 u2 u3 u4 u5:Value)(W:World):Sem.run prog (method 492 248 (.agg #[.string n,u1,u2,u3,u4,u5]) "veil/schemas.called") W=.ok (281,.agg #[.string n]) W:=by kernel_rfl
theorem ZS(w:World)(Z:Nat)(x n:vD)(u1 u2 u3 u4 u5:Value)(hz:w.cell? ⟨Z,0,none⟩=some (.string x)):
 Calls prog 202 #[.agg #[.string n,u1,u2,u3,u4,u5],.pointer (some ⟨Z,0,none⟩)] w fun e w'=>e=.returned (.bool (n.toList==x.toList))/\vE w w':=by
 have hzl:=tR w _ hz;simp only at hzl;have HC:=Aa (fun W=>JR W n);have wR:=fun W=>VA n u1 u2 u3 u4 u5 W;go_enter func202,ntmps202;go_wp2_with fail;have hz2:(w.alloc (.cells #[.string n,u1,u2,u3,u4,u5] 248)).cell? ⟨Z,0,none⟩=some (.string x):=Ah ((tM _ _).alloc (tL _) _) hz;go_region_with (go_at_call 281;refine(HC.o _).mono ?_;rintro e w1 ⟨rfl,hb1⟩;have hz3:w1.cell? ⟨Z,0,none⟩=some (.string x):=(hb1.cell (by simp;omega)).trans hz2);all_goals(
  go_wp2_with fail;go_ret;exact⟨rfl,(((tM w.heap.size w).alloc (tL _) (.cells #[.string n,u1,u2,u3,u4,u5] 248)).drew).trans (hb1.mono (by have:=World.size_alloc_drew w (.cells #[.string n,u1,u2,u3,u4,u5] 248);omega))⟩)
theorem eL(w:World)(v:Value)(Z:Nat)(x:vD)(l:List vD)(h:CT w v 6 l)(hl:l.length<=100000)(hz:w.cell? ⟨Z,0,none⟩=some (.string x)):
 Calls prog 201 #[v,.func (Fn.func 202) #[] #[.pointer (some ⟨Z,0,none⟩)]] w fun e w'=>e=.returned (.int .i64 (Ae l x))/\vE w w':=by
 have H0:=Aa h;have HZ:=Aa hz;obtain⟨a,cap,rfl,_⟩:=h;have hzl:=tR w _ hz;simp only at hzl;generalize hq:Ae l x=q;have HQ:=Aa hq;clear hq hz;go_enter func201,ntmps201;go_wp2_with fail;go_loopg [5,8] l.length (fun m v5 v8 wr=>∃k:Nat,v8=.int .i64 k/\k<=l.length/\l.length-k<=m/\vE w wr/\∀y∈l.take k,y≠x)
 case atStart=>exact⟨0,rfl,tU _,by omega,tM _ _,by simp⟩
 case round=>
  obtain⟨k,rfl,hk,hm,hb,hc⟩:=hrel;have HC:=Aa hc;clear hc;have hz:=Ah hb HZ.o;by_cases hlt:k<l.length
  ·obtain⟨a',cap',e1,h3⟩:=H0.o.below hb
   cases e1;obtain⟨g,ha,h4⟩:∃g,a=some ⟨g,0,none⟩/\∀(j:Nat) (x:vD),l[j]?=some x->wr.cell? ⟨g,j*6,none⟩=some (.string x)/\∀k,0<k->k<6->∃u,wr.cell? ⟨g,j*6+k,none⟩=some u:=by
    rcases h3 with e|e
    ·rw[e]at hlt;simp at hlt
    ·exact e
   subst ha;have hx:=tN hlt;obtain⟨hcell,hrest⟩:=h4 k _ hx;obtain⟨u1,hu1⟩:=hrest 1 (by decide) (by decide);obtain⟨u2,hu2⟩:=hrest 2 (by decide) (by decide);obtain⟨u3,hu3⟩:=hrest 3 (by decide) (by decide);obtain⟨u4,hu4⟩:=hrest 4 (by decide) (by decide);obtain⟨u5,hu5⟩:=hrest 5 (by decide) (by decide);have HX:=Aa hx;clear h4 hx hrest h3;generalize l[k]=y at*;have hcl:=ZS wr Z x y u1 u2 u3 u4 u5 hz;cases hy:(y.toList==x.toList)
   ·rw[hy]at hcl
    have HY:=Aa hy;clear hy;go_wp2_with fail;refine hcl.mono ?_;clear hcl;rintro e w1 ⟨rfl,hb1⟩;have hbb:=hb.trans (hb1.mono hb.size);clear hb1;go_wp2_with fail;go_roundg (l.length-(k+1))
    case measure=>omega
    case rel=>exact⟨k+1,by go_num,by omega,tL _,hbb,by
     rw[uG,HX.o];intro z hz;rcases uZ.1 hz with hz|hz
     ·exact HC.o z hz
     ·simp at hz;subst hz;have:=HY.o;rw[Cr]at this;simpa using this⟩
   ·rw[hy]at hcl
    have HY:=Aa hy;clear hy;go_wp2_with fail;refine hcl.mono ?_;clear hcl;rintro e w1 ⟨rfl,hb1⟩;have hbb:=hb.trans (hb1.mono hb.size);clear hb1;go_wp2_with fail;go_ret;exact⟨CG (by rw[<-HQ.o];have hy:=HY.o;rw[Cr]at hy;simp only[uF]at hy;subst hy;unfold Ae;rw[Jt l y 0 k HC.o HX.o];simp),hbb⟩
  ·go_wp2_with fail
   go_ret;exact⟨CG (by
    rw[<-HQ.o];have:=HC.o;rw[tW (by omega)]at this;unfold Ae;rw[JW l x 0 this]),hb⟩
theorem QB(w:World)(v:Value)(x:vD)(l:List vD)(h:CT w v 6 l)(hl:l.length<=100000):
 Calls prog 154 #[v,.string x] w fun e w'=>e=.returned (AC v 6 (Ae l x))/\vE w w':=by
 have hc:=eL (w.alloc (.cells #[.string x] 9)) v w.heap.size x l (h.below ((tM _ _).alloc (tL _) _)) hl (by simp);have hbd:=Hn l x;obtain⟨a,cap,rfl,h3⟩:=h;generalize Ae l x=q at*;by_cases hq:q<0
 ·rw[show AC (.slice a l.length cap) 6 q=.pointer none from by unfold AC;rw[uC hq]]
  go_enter func154,ntmps154;go_wp2_with fail;refine hc.mono ?_;clear hc;rintro e w1 ⟨rfl,hb1⟩;go_wp2_with fail;go_ret;exact⟨rfl,((tM _ _).alloc (tL _) _).trans (hb1.mono (by simp))⟩
 ·obtain⟨k,rfl⟩:∃k:Nat,q=k:=⟨q.toNat,by omega⟩
  have hkl:k<l.length:=by omega
  obtain⟨g,ha⟩:∃g,a=some ⟨g,0,none⟩:=by
   rcases h3 with e|⟨g,e,_⟩
   ·rw[e]at hkl;simp at hkl
   ·exact⟨g,e⟩
  subst ha;rw[show AC (.slice (some ⟨g,0,none⟩) l.length cap) 6 (k:Int)=.pointer (some ⟨g,k*6,none⟩)from by unfold AC;rw[uB hq];simp];clear h3;go_enter func154,ntmps154;go_wp2_with fail;refine hc.mono ?_;clear hc;rintro e w1 ⟨rfl,hb1⟩;go_wp2_with fail;go_ret;exact⟨rfl,((tM _ _).alloc (tL _) _).trans (hb1.mono (by simp))⟩
structure SV(w:World)(S:Nat)(vR vO vI vU vN:Value)(LR:List (At×Value))(LO:List (Ap×Value×Value×Value))(LI:List (As×Value))(LU:List (Au×Value))(names:List vD):Prop where
 sc:SC w S vR vO vI vU vN
 r:BS w S 166 2 vR MW (DE S) LR
 o:BS w S 203 4 vO Om (DA S) LO
 i:BS w S 223 2 vI Ol (Dz S) LI
 u:BS w S 226 2 vU Oo (DF S) LU
 n:w.ownsRow S 164 1 vN names.length (Bi names)
 lr:LR.length<=804
 lo:LO.length<=804
 li:LI.length<=804
 lu:LU.length<=804
 ln:names.length<=804
theorem SV.below{w w':World}{S:Nat}{vR vO vI vU vN:Value}{LR:List (At×Value)}{LO:List (Ap×Value×Value×Value)}{LI:List (As×Value)}{LU:List (Au×Value)}{names:List vD}(h:SV w S vR vO vI vU vN LR LO LI LU names)(hb:vE w w'):SV w' S vR vO vI vU vN LR LO LI LU names:=by
 have hin:DZ S w w':=(AW.of_below (b:=0) (S:=0) hb).inner;exact⟨(hb.block S (Ab h.sc)).trans h.sc,h.r.stays (Ao.of_below hb) (fun x hx=>DE.stays hin hx),h.o.stays (Ao.of_below hb) (fun x hx=>DA.stays hin hx),h.i.stays (Ao.of_below hb) (fun x hx=>Dz.stays hin hx),h.u.stays (Ao.of_below hb) (fun x hx=>DF.stays hin hx),AT h.n hb,h.lr,h.lo,h.li,h.lu,h.ln⟩
theorem QD{β:Type}(flat:β->List Value)(size:Nat)(hf:∀x,(flat x).length=size):∀(L:List β) (j k:Nat) (x:β),L[j]?=some x->k<size->(L.flatMap flat)[j*size+k]?=(flat x)[k]?
 |[],j,k,x,h,_=>by simp at h
 |y::L,0,k,x,h,hk=>by
  simp at h;subst h;rw[List.flatMap_cons,uI (by rw[hf];omega)];simp
 |y::L,j+1,k,x,h,hk=>by
  rw[List.flatMap_cons,uJ (by rw[hf,Nat.succ_mul];omega),hf];rw[show(j+1)*size+k-size=j*size+k by rw[Nat.succ_mul];omega];exact QD flat size hf L j k x (by simpa using h) hk
theorem BS.cell{β:Type}{w:World}{B e size:Nat}{v:Value}{flat:β->List Value}{ok:World->β->Prop}{L:List β}(h:BS w B e size v flat ok L)(hf:∀x,(flat x).length=size)(j:Nat)(x:β)(hx:L[j]?=some x):∃g cap,v=.slice (some ⟨g,0,none⟩) L.length cap/\∀k u,(flat x)[k]?=some u->w.cell? ⟨g,j*size+k,none⟩=some u:=by
 have hj:=(tP.1 hx).1;rcases h.own.2 with⟨_,y⟩|⟨g,cap,cur,hv,hg,hh,hn,_,hs,ht⟩
 ·omega
 ·refine⟨g,cap,hv,fun k u hu=>?_⟩
  have hk:k<size:=by have:=(tP.1 hu).1;rw[hf]at this;exact this
  have h1:=QD flat size hf L j k x hx hk;rw[<-ht,hu]at h1;rw[Ac hh];rw[List.getElem?_take]at h1;split at h1
  ·simpa using h1
  ·cases h1
theorem BS.rowed{β:Type}{w:World}{B e size:Nat}{v:Value}{flat:β->List Value}{ok:World->β->Prop}{L:List β}(h:BS w B e size v flat ok L)(nmOf:β->vD)(hf:∀x,(flat x).length=size)(h0:∀x,(flat x)[0]?=some (.string (nmOf x))):CT w v size (L.map nmOf):=by
 obtain⟨a,cap,hv⟩:=An h.own;refine⟨a,cap,by simpa using hv,?_⟩;cases hL:L with
 |nil=>left;rfl
 |cons y l=>
  right;obtain⟨g,cap',hv',_⟩:=h.cell hf 0 y (by rw[hL];rfl);rw[hv]at hv';cases hv';refine⟨g,rfl,fun j x hx=>?_⟩;rw[<-hL,uD]at hx;cases hz:L[j]? with
  |none=>rw[hz]at hx;cases hx
  |some z=>
   rw[hz]at hx;cases hx;obtain⟨g2,cap2,hv2,hc⟩:=h.cell hf j z hz;rw[hv]at hv2;cases hv2;refine⟨by have:=hc 0 _ (h0 z);simpa using this,fun k _ hk=>?_⟩;have:k<(flat z).length:=by rw[hf];exact hk
   exact⟨_,hc k _ (tN this)⟩
def rN(x:At×Value):vD:=x.1.name
def oN(x:Ap×Value×Value×Value):vD:=x.1.name
def iN(x:As×Value):vD:=x.1.name
def uN(x:Au×Value):vD:=x.1.name
theorem GO{w:World}{v:Value}{size:Nat}{l:List vD}(h:CT w v size l)(x:vD):(Ae l x<0->AC v size (Ae l x)=.pointer none)/\(¬Ae l x<0->∃a,AC v size (Ae l x)=.pointer (some a)):=by
 obtain⟨a,cap,rfl,h3⟩:=h;refine⟨fun hq=>by unfold AC;rw[uC hq],fun hq=>?_⟩;have hb:=Hn l x;rcases h3 with e|⟨g,e,_⟩
 ·subst e;simp at hb;omega
 ·subst e;unfold AC;rw[uB hq];exact⟨_,rfl⟩
theorem Nb(x:vD)(w:World):Calls prog 75 #[.string x] w fun e w'=>e=.returned (.bool (Ef x))/\w'=w:=by
 have HQ:=Aa (rD x);cases t1:(x.toList==[73,110,116])
 ·cases t2:(x.toList==[83,116,114,105,110,103])
  ·cases t3:(x.toList==[66,111,111,108,101,97,110])
   ·cases t4:(x.toList==[73,68])
    ·go_enter func75,ntmps75
     go_wp2
     go_ret;exact⟨Ak (by rw[HQ.o,t1,t2,t3,t4];rfl),rfl⟩
    ·go_enter func75,ntmps75
     go_wp2
     go_ret;exact⟨Ak (by rw[HQ.o,t1,t2,t3,t4];rfl),rfl⟩
   ·go_enter func75,ntmps75
    go_wp2
    go_ret;exact⟨Ak (by rw[HQ.o,t1,t2,t3];rfl),rfl⟩
  ·go_enter func75,ntmps75
   go_wp2
   go_ret;exact⟨Ak (by rw[HQ.o,t1,t2];rfl),rfl⟩
 ·go_enter func75,ntmps75
  go_wp2
  go_ret;exact⟨Ak (by rw[HQ.o,t1];rfl),rfl⟩
theorem SV.rowRole{w:World}{S:Nat}{vR vO vI vU vN:Value}{LR:List (At×Value)}{LO:List (Ap×Value×Value×Value)}{LI:List (As×Value)}{LU:List (Au×Value)}{names:List vD}(h:SV w S vR vO vI vU vN LR LO LI LU names):CT w vR 2 (LR.map rN):=h.r.rowed rN (fun _=>rfl) (fun _=>rfl)
theorem XC(w:World)(S:Nat)(vR vO vI vU vN:Value)(LR:List (At×Value))(LO:List (Ap×Value×Value×Value))(LI:List (As×Value))(LU:List (Au×Value))(names:List vD)(x:vD)(h:SV w S vR vO vI vU vN LR LO LI LU names):
 Calls prog 150 #[.pointer (some ⟨S,0,none⟩),.string x] w fun e w'=>e=.returned (AC vR 2 (Ae (LR.map rN) x))/\vE w w':=by
 have hc:=dJ w vR x (LR.map rN) h.rowRole (by have:=h.lr;simp;omega);have c0:w.cell? ⟨S,0,none⟩=some vR:=Ac h.sc 0;obtain⟨a,cap,hv⟩:=An h.r.own;clear h;subst hv;generalize Ae (LR.map rN) x=q at*;go_enter func150,ntmps150;go_wp2_with fail;refine hc.mono ?_;clear hc;rintro e w1 ⟨rfl,hb1⟩;go_wp2_with fail;go_ret;exact⟨rfl,hb1⟩
theorem SV.rowObject{w:World}{S:Nat}{vR vO vI vU vN:Value}{LR:List (At×Value)}{LO:List (Ap×Value×Value×Value)}{LI:List (As×Value)}{LU:List (Au×Value)}{names:List vD}(h:SV w S vR vO vI vU vN LR LO LI LU names):CT w vO 4 (LO.map oN):=h.o.rowed oN (fun _=>rfl) (fun _=>rfl)
theorem Nx(w:World)(S:Nat)(vR vO vI vU vN:Value)(LR:List (At×Value))(LO:List (Ap×Value×Value×Value))(LI:List (As×Value))(LU:List (Au×Value))(names:List vD)(x:vD)(h:SV w S vR vO vI vU vN LR LO LI LU names):
 Calls prog 49 #[.pointer (some ⟨S,0,none⟩),.string x] w fun e w'=>e=.returned (AC vO 4 (Ae (LO.map oN) x))/\vE w w':=by
 have hc:=dH w vO x (LO.map oN) h.rowObject (by have:=h.lo;simp;omega);have c0:w.cell? ⟨S,1,none⟩=some vO:=Ac h.sc 1;obtain⟨a,cap,hv⟩:=An h.o.own;clear h;subst hv;generalize Ae (LO.map oN) x=q at*;go_enter func49,ntmps49;go_wp2_with fail;refine hc.mono ?_;clear hc;rintro e w1 ⟨rfl,hb1⟩;go_wp2_with fail;go_ret;exact⟨rfl,hb1⟩
theorem SV.rowIface{w:World}{S:Nat}{vR vO vI vU vN:Value}{LR:List (At×Value)}{LO:List (Ap×Value×Value×Value)}{LI:List (As×Value)}{LU:List (Au×Value)}{names:List vD}(h:SV w S vR vO vI vU vN LR LO LI LU names):CT w vI 2 (LI.map iN):=h.i.rowed iN (fun _=>rfl) (fun _=>rfl)
theorem RY(w:World)(S:Nat)(vR vO vI vU vN:Value)(LR:List (At×Value))(LO:List (Ap×Value×Value×Value))(LI:List (As×Value))(LU:List (Au×Value))(names:List vD)(x:vD)(h:SV w S vR vO vI vU vN LR LO LI LU names):
 Calls prog 148 #[.pointer (some ⟨S,0,none⟩),.string x] w fun e w'=>e=.returned (AC vI 2 (Ae (LI.map iN) x))/\vE w w':=by
 have hc:=dG w vI x (LI.map iN) h.rowIface (by have:=h.li;simp;omega);have c0:w.cell? ⟨S,2,none⟩=some vI:=Ac h.sc 2;obtain⟨a,cap,hv⟩:=An h.i.own;clear h;subst hv;generalize Ae (LI.map iN) x=q at*;go_enter func148,ntmps148;go_wp2_with fail;refine hc.mono ?_;clear hc;rintro e w1 ⟨rfl,hb1⟩;go_wp2_with fail;go_ret;exact⟨rfl,hb1⟩
theorem SV.rowUnion{w:World}{S:Nat}{vR vO vI vU vN:Value}{LR:List (At×Value)}{LO:List (Ap×Value×Value×Value)}{LI:List (As×Value)}{LU:List (Au×Value)}{names:List vD}(h:SV w S vR vO vI vU vN LR LO LI LU names):CT w vU 2 (LU.map uN):=h.u.rowed uN (fun _=>rfl) (fun _=>rfl)
theorem Sa(w:World)(S:Nat)(vR vO vI vU vN:Value)(LR:List (At×Value))(LO:List (Ap×Value×Value×Value))(LI:List (As×Value))(LU:List (Au×Value))(names:List vD)(x:vD)(h:SV w S vR vO vI vU vN LR LO LI LU names):
 Calls prog 200 #[.pointer (some ⟨S,0,none⟩),.string x] w fun e w'=>e=.returned (AC vU 2 (Ae (LU.map uN) x))/\vE w w':=by
 have hc:=dK w vU x (LU.map uN) h.rowUnion (by have:=h.lu;simp;omega);have c0:w.cell? ⟨S,3,none⟩=some vU:=Ac h.sc 3;obtain⟨a,cap,hv⟩:=An h.u.own;clear h;subst hv;generalize Ae (LU.map uN) x=q at*;go_enter func200,ntmps200;go_wp2_with fail;refine hc.mono ?_;clear hc;rintro e w1 ⟨rfl,hb1⟩;go_wp2_with fail;go_ret;exact⟨rfl,hb1⟩
def has(l:List vD)(x:vD):Bool:=decide (¬Ae l x<0)
def AB(objs ifs uns:List vD)(x:vD):Nat:=
 if Ef x=true then 1 else if has objs x=true then 2 else if has ifs x=true then 3 else if has uns x=true then 4 else 0
theorem Ox(w:World)(S:Nat)(vR vO vI vU vN:Value)(LR:List (At×Value))(LO:List (Ap×Value×Value×Value))(LI:List (As×Value))(LU:List (Au×Value))(names:List vD)(x:vD)(h:SV w S vR vO vI vU vN LR LO LI LU names):
 Calls prog 152 #[.pointer (some ⟨S,0,none⟩),.string x] w fun e w'=>e=.returned (.int .i64 (AB (LO.map oN) (LI.map iN) (LU.map uN) x))/\vE w w':=by
 have hsc:=Nb x;cases hx:Ef x
 ·rw[hx]at hsc
  have h1:=Nx w S vR vO vI vU vN LR LO LI LU names x h;have HI:=Aa (fun w' hb=>RY w' S vR vO vI vU vN LR LO LI LU names x (h.below hb));have HU:=Aa (fun w' hb=>Sa w' S vR vO vI vU vN LR LO LI LU names x (h.below hb));have n1:=GO h.rowObject x;have n2:=GO h.rowIface x;have n3:=GO h.rowUnion x;have HQ:=Aa (show AB (LO.map oN) (LI.map iN) (LU.map uN) x=if has (LO.map oN) x=true then 2 else if has (LI.map iN) x=true then 3 else if has (LU.map uN) x=true then 4 else 0 from by unfold AB;rw[hx];simp);unfold has at HQ;generalize AB (LO.map oN) (LI.map iN) (LU.map uN) x=kk at*;generalize AC vO 4 (Ae (LO.map oN) x)=p1 at*;generalize AC vI 2 (Ae (LI.map iN) x)=p2 at*;generalize AC vU 2 (Ae (LU.map uN) x)=p3 at*;generalize Ae (LO.map oN) x=q1 at*;generalize Ae (LI.map iN) x=q2 at*;generalize Ae (LU.map uN) x=q3 at*;clear h hx;by_cases e1:q1<0
  ·have t1:=n1.1 e1
   subst t1;by_cases e2:q2<0
   ·have t2:=n2.1 e2
    subst t2;by_cases e3:q3<0
    ·have t3:=n3.1 e3
     subst t3;have HE:=Aa (show kk=0 from by rw[HQ.o];simp[e1,e2,e3]);clear n1 n2 n3 e1 e2 e3 HQ;go_enter func152,ntmps152;go_wp2_with fail;refine(hsc w).mono ?_;rintro e w1 ⟨rfl,hw1⟩;have hw1:=hw1.symm;subst hw1;go_wp2_with fail;refine h1.mono ?_;clear h1;rintro e w1 ⟨rfl,hb1⟩;go_wp2_with fail;refine(HI.o w1 hb1).mono ?_;rintro e w2 ⟨rfl,hb2⟩;have vW:=hb1.trans (hb2.mono hb1.size);go_wp2_with fail;refine(HU.o w2 vW).mono ?_;rintro e w3 ⟨rfl,hb3⟩;go_wp2_with fail;go_ret;exact⟨CG (by rw[HE.o];rfl),vW.trans (hb3.mono vW.size)⟩
    ·obtain⟨a3,t3⟩:=n3.2 e3
     subst t3;have HE:=Aa (show kk=4 from by rw[HQ.o];simp[e1,e2,e3]);clear n1 n2 n3 e1 e2 e3 HQ;go_enter func152,ntmps152;go_wp2_with fail;refine(hsc w).mono ?_;rintro e w1 ⟨rfl,hw1⟩;have hw1:=hw1.symm;subst hw1;go_wp2_with fail;refine h1.mono ?_;clear h1;rintro e w1 ⟨rfl,hb1⟩;go_wp2_with fail;refine(HI.o w1 hb1).mono ?_;rintro e w2 ⟨rfl,hb2⟩;have vW:=hb1.trans (hb2.mono hb1.size);go_wp2_with fail;refine(HU.o w2 vW).mono ?_;rintro e w3 ⟨rfl,hb3⟩;go_wp2_with fail;go_ret;exact⟨CG (by rw[HE.o];rfl),vW.trans (hb3.mono vW.size)⟩
   ·obtain⟨a2,t2⟩:=n2.2 e2
    subst t2;have HE:=Aa (show kk=3 from by rw[HQ.o];simp[e1,e2]);clear n1 n2 n3 e1 e2 HQ HU;go_enter func152,ntmps152;go_wp2_with fail;refine(hsc w).mono ?_;rintro e w1 ⟨rfl,hw1⟩;have hw1:=hw1.symm;subst hw1;go_wp2_with fail;refine h1.mono ?_;clear h1;rintro e w1 ⟨rfl,hb1⟩;go_wp2_with fail;refine(HI.o w1 hb1).mono ?_;rintro e w2 ⟨rfl,hb2⟩;go_wp2_with fail;go_ret;exact⟨CG (by rw[HE.o];rfl),hb1.trans (hb2.mono hb1.size)⟩
  ·obtain⟨a1,t1⟩:=n1.2 e1
   subst t1;have HE:=Aa (show kk=2 from by rw[HQ.o];simp[e1]);clear n1 n2 n3 e1 HQ HU HI;go_enter func152,ntmps152;go_wp2_with fail;refine(hsc w).mono ?_;rintro e w1 ⟨rfl,hw1⟩;have hw1:=hw1.symm;subst hw1;go_wp2_with fail;refine h1.mono ?_;clear h1;rintro e w1 ⟨rfl,hb1⟩;go_wp2_with fail;go_ret;exact⟨CG (by rw[HE.o];rfl),hb1⟩
 ·rw[hx]at hsc
  have HE:=Aa (show AB (LO.map oN) (LI.map iN) (LU.map uN) x=1 from by unfold AB;rw[uC hx]);generalize AB (LO.map oN) (LI.map iN) (LU.map uN) x=kk at*;clear h hx;go_enter func152,ntmps152;go_wp2_with fail;refine(hsc w).mono ?_;rintro e w1 ⟨rfl,hw1⟩;have hw1:=hw1.symm;subst hw1;go_wp2_with fail;go_ret;exact⟨CG (by rw[HE.o];rfl),tM _ _⟩
def IN(roles:List vD)(x:vD):Bool:=decide (x=bE)||has roles x
theorem Vx(w:World)(S:Nat)(vR vO vI vU vN:Value)(LR:List (At×Value))(LO:List (Ap×Value×Value×Value))(LI:List (As×Value))(LU:List (Au×Value))(names:List vD)(x:vD)(h:SV w S vR vO vI vU vN LR LO LI LU names):
 Calls prog 194 #[.pointer (some ⟨S,0,none⟩),.string x] w fun e w'=>e=.returned (.bool (IN (LR.map rN) x))/\vE w w':=by
 have hc:=XC w S vR vO vI vU vN LR LO LI LU names x h;have hn:=GO h.rowRole x;have HQ:=Aa (show IN (LR.map rN) x=(x.toList.isEmpty||decide (¬Ae (LR.map rN) x<0))from by unfold IN has;rw[KF]);generalize IN (LR.map rN) x=mm at*;generalize AC vR 2 (Ae (LR.map rN) x)=pp at*;generalize Ae (LR.map rN) x=q at*;clear h;cases he:x.toList.isEmpty
 ·by_cases hq:q<0
  ·have t1:=hn.1 hq
   subst t1;have HE:=Aa (show mm=false from by rw[HQ.o,he];simp[hq]);clear hn hq HQ;go_enter func194,ntmps194;go_wp2_with fail;refine hc.mono ?_;clear hc;rintro e w1 ⟨rfl,hb1⟩;go_wp2_with fail;go_ret;exact⟨Ak (by rw[HE.o]),hb1⟩
  ·obtain⟨a1,t1⟩:=hn.2 hq
   subst t1;have HE:=Aa (show mm=true from by rw[HQ.o,he];simp[hq]);clear hn hq HQ;go_enter func194,ntmps194;go_wp2_with fail;refine hc.mono ?_;clear hc;rintro e w1 ⟨rfl,hb1⟩;go_wp2_with fail;go_ret;exact⟨Ak (by rw[HE.o]),hb1⟩
 ·have HE:=Aa (show mm=true from by rw[HQ.o,he];rfl)
  clear hn HQ;go_enter func194,ntmps194;go_wp2_with fail;go_ret;exact⟨Ak (by rw[HE.o]),tM _ _⟩
def BI:Bo->vD
 | .one n _=>n
 | .list t _=>BI t
def MP:Bo->Nat
 | .one _ _=>0
 | .list t _=>MP t+1
def Eu:Bo->Bo->Bool
 | .one n s,.one m r=>(s==r)&&decide (n=m)
 | .list a s,.list b r=>(s==r)&&Eu a b
 |_,_=>false
def Ou:Bo->Bool
 | .one _ _=>false
 | .list _ _=>true
theorem Ux(w:World)(B:Nat)(v:Value)(t:Bo)(h:Bu w B v t):
 Calls prog 193 #[v] w fun e w'=>(∃k st,e=.returned (.pointer (some ⟨k,0,none⟩))/\w.heap[k]?=some (.cells #[.string (BI t),.int .i64 0,.pointer none,.bool st] 269 (0,0)))/\w'=w:=by
 have HQ:=Aa (show BI t=BI t from rfl);obtain⟨k0,rfl⟩:=h.ptr;have H0:=Aa h;clear h;go_enter func193,ntmps193;go_wp2_with fail;go_loopg [0] (MP t) (fun m v0 wr=>∃t',Bu w B v0 t'/\BI t'=BI t/\MP t'<=m/\wr=w)
 case atStart=>exact⟨t,H0.o,rfl,tL _,rfl⟩
 case round=>
  obtain⟨t',ht,hct,hd,rfl⟩:=hrel;have HCT:=Aa hct;clear hct H0 HQ;cases t' with
  |one n st=>
   obtain⟨k,hk,_,hb⟩:=ht;subst hk;have c1:wr.cell? ⟨k,1,none⟩=some (.int .i64 0):=Ac hb 1;have HB:=Aa hb;clear hb;go_wp2_with fail;go_ret;exact⟨⟨k,st,rfl,by rw[<-HCT.o];exact HB.o⟩,rfl⟩
  |list t1 st=>
   obtain⟨k,u,hk,_,hb,ht1⟩:=ht;subst hk;obtain⟨k1,hk1⟩:=ht1.ptr;subst hk1;have c1:wr.cell? ⟨k,1,none⟩=some (.int .i64 1):=Ac hb 1;have c2:wr.cell? ⟨k,2,none⟩=some (.pointer (some ⟨k1,0,none⟩)):=Ac hb 2;have HT:=Aa ht1;have hd':MP t1+1<=gk:=hd;clear hb ht1;go_wp2_with fail;go_roundg (MP t1)
   case measure=>omega
   case rel=>exact⟨t1,HT.o,HCT.o,tL _,rfl⟩
def Ki(s:vD):Bool:=decide (s.data.toList.take 2=[95,95])
theorem sI(s:vD)(w:World):
 Calls prog 166 #[.string s,.string ⟨#[95,95]⟩] w fun e w'=>e=.returned (.bool (Ki s))/\w'=w:=by
 by_cases hd3:2<=s.size
 ·have h3:2<=(s.size:Int):=by omega
  have HT:=Aa (show((s.extract 0 2).toList==[95,95])=Ki s from by
   unfold Ki;rw[Lib.toList_data,Lib.extract_data,Bool.eq_iff_iff];simp)
  cases hdd:((s.extract 0 2).toList==[95,95])
  ·go_enter func166,ntmps166
   go_wp2
   go_ret;exact⟨Ak (by rw[<-HT.o,hdd]),rfl⟩
  ·go_enter func166,ntmps166
   go_wp2
   go_ret;exact⟨Ak (by rw[<-HT.o,hdd]),rfl⟩
 ·have h3:¬2<=(s.size:Int):=by omega
  have HT:=Aa (show Ki s=false from by unfold Ki;rw[decide_eq_false_iff_not];intro e;have:=congrArg List.length e;simp at this;have h9:s.data.size=s.size:=rfl;omega);go_enter func166,ntmps166
  go_wp2
  go_ret;exact⟨Ak (by rw[HT.o]),rfl⟩
structure Ce(w:World)(g o:Nat)(f:Al)(u:Value):Prop where
 c0:w.cell? ⟨g,o,none⟩=some (.string f.name)
 c1:w.cell? ⟨g,o+1,none⟩=some (.string f.auth)
 c2:w.cell? ⟨g,o+2,none⟩=some (.string f.hide_)
 c3:w.cell? ⟨g,o+3,none⟩=some (.string f.arg)
 c4:w.cell? ⟨g,o+4,none⟩=some (.string f.scalar)
 c5:w.cell? ⟨g,o+5,none⟩=some u
theorem Ce.below{w w':World}{g o:Nat}{f:Al}{u:Value}(h:Ce w g o f u)(hb:vE w w'):Ce w' g o f u:=
 ⟨Ah hb h.c0,Ah hb h.c1,Ah hb h.c2,Ah hb h.c3,Ah hb h.c4,Ah hb h.c5⟩
def EU(kind:vD->Nat)(arg:vD)(t:Bo):Bool:=
 if arg=CI then !Ou t&&decide (kind (BI t)≠1)
 else if arg=MB then Ou t
 else true
theorem Zi(w:World)(S:Nat)(vR vO vI vU vN:Value)(LR:List (At×Value))(LO:List (Ap×Value×Value×Value))(LI:List (As×Value))(LU:List (Au×Value))(names:List vD)(g o B:Nat)(f:Al)(u:Value)(h:SV w S vR vO vI vU vN LR LO LI LU names)(hf:Ce w g o f u)(ht:Bu w B u f.ty):
 Calls prog 195 #[.pointer (some ⟨S,0,none⟩),.pointer (some ⟨g,o,none⟩)] w fun e w'=>e=.returned (.bool (EU (AB (LO.map oN) (LI.map iN) (LU.map uN)) f.arg f.ty))/\vE w w':=by
 have c3:=hf.c3;have c5:=hf.c5;clear hf;have L1:=BN f.arg [105,100];have L2:=BN f.arg [102,105,114,115,116];obtain⟨fn,fa,fh,fx,fs,ty⟩:=f;simp only[]at*;by_cases e1:fx=CI
 ·rw[uH (show fx=Az _ from e1)]at L1
  cases ty with
  |one n st=>
   obtain⟨k,rfl,_,hb⟩:=ht;have d0:w.cell? ⟨k,0,none⟩=some (.string n):=Ac hb 0;have d1:w.cell? ⟨k,1,none⟩=some (.int .i64 0):=Ac hb 1;have hk:=Ox w S vR vO vI vU vN LR LO LI LU names n h;have HQ:=Aa (show EU (AB (LO.map oN) (LI.map iN) (LU.map uN)) fx (.one n st)=decide (AB (LO.map oN) (LI.map iN) (LU.map uN) n≠1)from by unfold EU;rw[uC e1];rfl);generalize EU (AB (LO.map oN) (LI.map iN) (LU.map uN)) fx (.one n st)=FF at*;generalize AB (LO.map oN) (LI.map iN) (LU.map uN) n=kk at*;clear hb h e1 L2;by_cases hk1:kk=1
   ·have t1:((kk:Int)==1)=true:=by simp;omega
    go_enter func195,ntmps195;go_wp2_with fail;refine hk.mono ?_;clear hk;rintro e w1 ⟨rfl,hb1⟩;go_wp2_with fail;go_ret;exact⟨Ak (by rw[HQ.o];simp[hk1]),hb1⟩
   ·have t1:((kk:Int)==1)=false:=by simp;omega
    go_enter func195,ntmps195;go_wp2_with fail;refine hk.mono ?_;clear hk;rintro e w1 ⟨rfl,hb1⟩;go_wp2_with fail;go_ret;exact⟨Ak (by rw[HQ.o];have:¬(kk:Int)=1:=(by omega);simp[hk1,this]),hb1⟩
  |list t st=>
   obtain⟨k,u1,rfl,_,hb,_⟩:=ht;have d1:w.cell? ⟨k,1,none⟩=some (.int .i64 1):=Ac hb 1;have HQ:=Aa (show EU (AB (LO.map oN) (LI.map iN) (LU.map uN)) fx (.list t st)=false from by unfold EU;rw[uC e1];rfl);generalize EU (AB (LO.map oN) (LI.map iN) (LU.map uN)) fx (.list t st)=FF at*;clear hb h e1 L2;go_enter func195,ntmps195;go_wp2_with fail;go_ret;exact⟨Ak (by rw[HQ.o]),tM _ _⟩
 ·rw[tT (show¬fx=Az _ from e1)]at L1
  by_cases e2:fx=MB
  ·rw[uH (show fx=Az _ from e2)]at L2
   have HQ:=Aa (show EU (AB (LO.map oN) (LI.map iN) (LU.map uN)) fx ty=Ou ty from by unfold EU;rw[uB e1,uC e2]);generalize EU (AB (LO.map oN) (LI.map iN) (LU.map uN)) fx ty=FF at*;cases ty with
   |one n st=>
    obtain⟨k,rfl,_,hb⟩:=ht;have d1:w.cell? ⟨k,1,none⟩=some (.int .i64 0):=Ac hb 1;clear hb h e1 e2;go_enter func195,ntmps195;go_wp2_with fail;go_ret;exact⟨Ak (by rw[HQ.o];rfl),tM _ _⟩
   |list t st=>
    obtain⟨k,u1,rfl,_,hb,_⟩:=ht;have d1:w.cell? ⟨k,1,none⟩=some (.int .i64 1):=Ac hb 1;clear hb h e1 e2;go_enter func195,ntmps195;go_wp2_with fail;go_ret;exact⟨Ak (by rw[HQ.o];rfl),tM _ _⟩
  ·rw[tT (show¬fx=Az _ from e2)]at L2
   have HQ:=Aa (show EU (AB (LO.map oN) (LI.map iN) (LU.map uN)) fx ty=true from by unfold EU;rw[uB e1,uB e2]);generalize EU (AB (LO.map oN) (LI.map iN) (LU.map uN)) fx ty=FF at*;clear h e1 e2 ht;go_enter func195,ntmps195;go_wp2_with fail;go_ret;exact⟨Ak (by rw[HQ.o]),tM _ _⟩
def Hk(roles:List vD)(kind:vD->Nat)(f:Al):Bool:=
 !Ki f.name&&(decide (kind (BI f.ty)≠0)&&(IN roles f.auth&&(IN roles f.hide_&&EU kind f.arg f.ty)))
theorem dC(w:World)(S:Nat)(vR vO vI vU vN:Value)(LR:List (At×Value))(LO:List (Ap×Value×Value×Value))(LI:List (As×Value))(LU:List (Au×Value))(names:List vD)(g o B:Nat)(f:Al)(u:Value)(h:SV w S vR vO vI vU vN LR LO LI LU names)(hf:Ce w g o f u)(ht:Bu w B u f.ty):
 Calls prog 146 #[.pointer (some ⟨S,0,none⟩),.pointer (some ⟨g,o,none⟩)] w fun e w'=>e=.returned (.bool (Hk (LR.map rN) (AB (LO.map oN) (LI.map iN) (LU.map uN)) f))/\vE w w':=by
 have HF:=Aa hf;have c0:=hf.c0;have c1:=hf.c1;have c2:=hf.c2;have c5:=hf.c5;have hp:=sI f.name;have hin:=Ux w B u f.ty ht;have hk:=Ox w S vR vO vI vU vN LR LO LI LU names (BI f.ty) h;have HM1:=Aa (fun w' hb=>Vx w' S vR vO vI vU vN LR LO LI LU names f.auth (h.below hb));have HM2:=Aa (fun w' hb=>Vx w' S vR vO vI vU vN LR LO LI LU names f.hide_ (h.below hb));have HA:=Aa (fun w' hb=>Zi w' S vR vO vI vU vN LR LO LI LU names g o B f u (h.below hb) (HF.o.below hb) (ht.stays (Ao.of_below hb)));obtain⟨ku,rfl⟩:=ht.ptr;have HQ:=Aa (show Hk (LR.map rN) (AB (LO.map oN) (LI.map iN) (LU.map uN)) f=(!Ki f.name&&(decide (AB (LO.map oN) (LI.map iN) (LU.map uN) (BI f.ty)≠0)&&(IN (LR.map rN) f.auth&&(IN (LR.map rN) f.hide_&&EU (AB (LO.map oN) (LI.map iN) (LU.map uN)) f.arg f.ty))))from rfl);generalize Hk (LR.map rN) (AB (LO.map oN) (LI.map iN) (LU.map uN)) f=FF at*;generalize EU (AB (LO.map oN) (LI.map iN) (LU.map uN)) f.arg f.ty=q5 at*;generalize AB (LO.map oN) (LI.map iN) (LU.map uN) (BI f.ty)=kk at*;generalize IN (LR.map rN) f.auth=q3 at*;generalize IN (LR.map rN) f.hide_=q4 at*;generalize Ki f.name=q1 at*;generalize BI f.ty=cT at*;clear h hf ht;cases q1
 ·by_cases hk0:kk=0
  ·have t1:((kk:Int)==0)=true:=by simp;omega
   have HQ2:=Aa (show FF=false from by rw[HQ.o];simp[hk0]);clear HQ;have HQ:=HQ2;clear HQ2;go_enter func146,ntmps146;go_wp2_with fail;refine(hp w).mono ?_;rintro e w0 ⟨rfl,hw0⟩;have hw0:=hw0.symm;subst hw0;go_wp2_with fail;refine hin.mono ?_;clear hin;rintro e w0 ⟨⟨kI,st,rfl,hbI⟩,hw0⟩;have hw0:=hw0.symm;subst hw0;have dI:w.cell? ⟨kI,0,none⟩=some (.string cT):=Ac hbI 0;clear hbI;go_wp2_with fail;refine hk.mono ?_;clear hk;rintro e w1 ⟨rfl,hb1⟩;have f1:=HF.o.below hb1;have c11:=f1.c1;have c12:=f1.c2;clear f1;go_wp2_with fail;go_ret;exact⟨Ak (by first|(rw[HQ.o];done)|(rw[HQ.o];rfl)),hb1⟩
  ·have t1:((kk:Int)==0)=false:=by simp;omega
   have HQ2:=Aa (show FF=(q3&&(q4&&q5))from by rw[HQ.o];simp[hk0]);clear HQ;have HQ:=HQ2;clear HQ2;cases q3
   ·skip
    go_enter func146,ntmps146;go_wp2_with fail;refine(hp w).mono ?_;rintro e w0 ⟨rfl,hw0⟩;have hw0:=hw0.symm;subst hw0;go_wp2_with fail;refine hin.mono ?_;clear hin;rintro e w0 ⟨⟨kI,st,rfl,hbI⟩,hw0⟩;have hw0:=hw0.symm;subst hw0;have dI:w.cell? ⟨kI,0,none⟩=some (.string cT):=Ac hbI 0;clear hbI;go_wp2_with fail;refine hk.mono ?_;clear hk;rintro e w1 ⟨rfl,hb1⟩;have f1:=HF.o.below hb1;have c11:=f1.c1;have c12:=f1.c2;clear f1;go_wp2_with fail;refine(HM1.o w1 hb1).mono ?_;rintro e w2 ⟨rfl,hb2⟩;have vW:=hb1.trans (hb2.mono hb1.size);have f2:=HF.o.below vW;have c22:=f2.c2;clear f2;go_wp2_with fail;go_ret;exact⟨Ak (by first|(rw[HQ.o];done)|(rw[HQ.o];rfl)),vW⟩
   ·cases q4
    ·skip
     go_enter func146,ntmps146;go_wp2_with fail;refine(hp w).mono ?_;rintro e w0 ⟨rfl,hw0⟩;have hw0:=hw0.symm;subst hw0;go_wp2_with fail;refine hin.mono ?_;clear hin;rintro e w0 ⟨⟨kI,st,rfl,hbI⟩,hw0⟩;have hw0:=hw0.symm;subst hw0;have dI:w.cell? ⟨kI,0,none⟩=some (.string cT):=Ac hbI 0;clear hbI;go_wp2_with fail;refine hk.mono ?_;clear hk;rintro e w1 ⟨rfl,hb1⟩;have f1:=HF.o.below hb1;have c11:=f1.c1;have c12:=f1.c2;clear f1;go_wp2_with fail;refine(HM1.o w1 hb1).mono ?_;rintro e w2 ⟨rfl,hb2⟩;have vW:=hb1.trans (hb2.mono hb1.size);have f2:=HF.o.below vW;have c22:=f2.c2;clear f2;go_wp2_with fail;refine(HM2.o w2 vW).mono ?_;rintro e w3 ⟨rfl,hb3⟩;have hb13:=vW.trans (hb3.mono vW.size);go_wp2_with fail;go_ret;exact⟨Ak (by first|(rw[HQ.o];done)|(rw[HQ.o];rfl)),hb13⟩
    ·skip
     go_enter func146,ntmps146;go_wp2_with fail;refine(hp w).mono ?_;rintro e w0 ⟨rfl,hw0⟩;have hw0:=hw0.symm;subst hw0;go_wp2_with fail;refine hin.mono ?_;clear hin;rintro e w0 ⟨⟨kI,st,rfl,hbI⟩,hw0⟩;have hw0:=hw0.symm;subst hw0;have dI:w.cell? ⟨kI,0,none⟩=some (.string cT):=Ac hbI 0;clear hbI;go_wp2_with fail;refine hk.mono ?_;clear hk;rintro e w1 ⟨rfl,hb1⟩;have f1:=HF.o.below hb1;have c11:=f1.c1;have c12:=f1.c2;clear f1;go_wp2_with fail;refine(HM1.o w1 hb1).mono ?_;rintro e w2 ⟨rfl,hb2⟩;have vW:=hb1.trans (hb2.mono hb1.size);have f2:=HF.o.below vW;have c22:=f2.c2;clear f2;go_wp2_with fail;refine(HM2.o w2 vW).mono ?_;rintro e w3 ⟨rfl,hb3⟩;have hb13:=vW.trans (hb3.mono vW.size);go_wp2_with fail;refine(HA.o w3 hb13).mono ?_;rintro e w4 ⟨rfl,hb4⟩;have hb14:=hb13.trans (hb4.mono hb13.size);go_wp2_with fail;go_ret;exact⟨Ak (by rw[HQ.o];simp[hk0]),hb14⟩
 ·skip
  go_enter func146,ntmps146;go_wp2_with fail;refine(hp w).mono ?_;rintro e w0 ⟨rfl,hw0⟩;have hw0:=hw0.symm;subst hw0;go_wp2_with fail;go_ret;exact⟨Ak (by first|(rw[HQ.o];done)|(rw[HQ.o];rfl)),tM _ _⟩
def MV(x:Al×Value):List Value:=(LX x.1 x.2).toList
def OU(B:Nat)(w:World)(x:Al×Value):Prop:=Bu w B x.2 x.1.ty
def fN(x:Al×Value):vD:=x.1.name
theorem Dq.row{w:World}{B:Nat}{v:Value}{l:List Al}(h:Dq w B v l):∃L:List (Al×Value),L.map Prod.fst=l/\BS w B 248 6 v MV (OU B) L:=by
 obtain⟨L,e,ho,ht⟩:=h;exact⟨L,e,ho,ht⟩
theorem Ke(L:List (Al×Value))(l:List Al)(h:L.map Prod.fst=l):L.map fN=l.map Al.name:=by
 rw[<-h,List.map_map];rfl
theorem BS.fldAt{w:World}{B:Nat}{v:Value}{L:List (Al×Value)}(h:BS w B 248 6 v MV (OU B) L)(j:Nat)(x:Al×Value)(hx:L[j]?=some x):∃g cap,v=.slice (some ⟨g,0,none⟩) L.length cap/\Ce w g (j*6) x.1 x.2/\Bu w B x.2 x.1.ty:=by
 obtain⟨g,cap,hv,hc⟩:=h.cell (fun _=>rfl) j x hx;exact⟨g,cap,hv,⟨by simpa using hc 0 _ rfl,hc 1 _ rfl,hc 2 _ rfl,hc 3 _ rfl,hc 4 _ rfl,hc 5 _ rfl⟩,h.ok x (tO hx)⟩
theorem Oj(w:World)(gO oO:Nat)(vF:Value)(x:vD)(l:List vD)(hc:w.cell? ⟨gO,oO+1,none⟩=some vF)(h:CT w vF 6 l)(hl:l.length<=100000):
 Calls prog 108 #[.pointer (some ⟨gO,oO,none⟩),.string x] w fun e w'=>e=.returned (AC vF 6 (Ae l x))/\vE w w':=by
 have hf:=QB w vF x l h hl;obtain⟨a,cap,rfl,_⟩:=h;generalize Ae l x=q at*;go_enter func108,ntmps108;go_wp2_with fail;refine hf.mono ?_;clear hf;rintro e w1 ⟨rfl,hb1⟩;go_wp2_with fail;go_ret;exact⟨rfl,hb1⟩
def KJ(f:Al):Bool:=!Ou f.ty&&(Ef (BI f.ty)&&(decide (f.auth=bE)&&(decide (f.hide_=bE)&&decide (f.arg=bE))))
theorem dO(w:World):Calls prog 151 #[.pointer none] w fun e w'=>e=.returned (.bool false)/\vE w w':=by
 go_enter func151,ntmps151;go_wp2_with fail;go_ret;exact⟨rfl,tM _ _⟩
theorem dN(w:World)(g o B:Nat)(f:Al)(u:Value)(hf:Ce w g o f u)(ht:Bu w B u f.ty):
 Calls prog 151 #[.pointer (some ⟨g,o,none⟩)] w fun e w'=>e=.returned (.bool (KJ f))/\vE w w':=by
 have c1:=hf.c1;have c2:=hf.c2;have c3:=hf.c3;have c5:=hf.c5;clear hf;obtain⟨fn,fa,fh,fx,fs,ty⟩:=f;simp only[]at*;cases ty with
 |list t st=>
  obtain⟨k,u1,rfl,_,hb,_⟩:=ht;have d1:w.cell? ⟨k,1,none⟩=some (.int .i64 1):=Ac hb 1;clear hb;rw[show KJ ⟨fn,fa,fh,fx,fs,.list t st⟩=false from rfl];go_enter func151,ntmps151;go_wp2_with fail;go_ret;exact⟨rfl,tM _ _⟩
 |one n st=>
  obtain⟨k,rfl,_,hb⟩:=ht;have d0:w.cell? ⟨k,0,none⟩=some (.string n):=Ac hb 0;have d1:w.cell? ⟨k,1,none⟩=some (.int .i64 0):=Ac hb 1;clear hb;have hs:=Nb n;have HQ:=Aa (show KJ ⟨fn,fa,fh,fx,fs,.one n st⟩=(Ef n&&(fa.toList.isEmpty&&(fh.toList.isEmpty&&fx.toList.isEmpty)))from by unfold KJ;rw[KF,KF,KF];rfl);generalize KJ ⟨fn,fa,fh,fx,fs,.one n st⟩=FF at*;generalize Ef n=q1 at*;cases q1
  ·go_enter func151,ntmps151
   go_wp2_with fail;refine(hs w).mono ?_;rintro e w0 ⟨rfl,hw0⟩;have hw0:=hw0.symm;subst hw0;go_wp2_with fail;go_ret;exact⟨Ak (by rw[HQ.o];rfl),tM _ _⟩
  ·cases t1:fa.toList.isEmpty
   ·rw[t1]at HQ
    go_enter func151,ntmps151;go_wp2_with fail;refine(hs w).mono ?_;rintro e w0 ⟨rfl,hw0⟩;have hw0:=hw0.symm;subst hw0;go_wp2_with fail;go_ret;exact⟨Ak (by rw[HQ.o];rfl),tM _ _⟩
   ·cases t2:fh.toList.isEmpty
    ·rw[t1,t2]at HQ
     go_enter func151,ntmps151;go_wp2_with fail;refine(hs w).mono ?_;rintro e w0 ⟨rfl,hw0⟩;have hw0:=hw0.symm;subst hw0;go_wp2_with fail;go_ret;exact⟨Ak (by rw[HQ.o];rfl),tM _ _⟩
    ·rw[t1,t2]at HQ
     go_enter func151,ntmps151;go_wp2_with fail;refine(hs w).mono ?_;rintro e w0 ⟨rfl,hw0⟩;have hw0:=hw0.symm;subst hw0;go_wp2_with fail;go_ret;exact⟨Ak (by rw[HQ.o];simp),tM _ _⟩
def JV(l:List Al)(n:vD):Bool:=if Ae (l.map Al.name) n<0 then false else match l[(Ae (l.map Al.name) n).toNat]? with
 |some f=>KJ f
 |none=>false
def EF(roles:List vD)(l:List Al)(x:Cq):Bool:=if x.1=true then has roles x.2 else JV l x.2
theorem qP(w:World)(S:Nat)(vR vO vI vU vN:Value)(LR:List (At×Value))(LO:List (Ap×Value×Value×Value))(LI:List (As×Value))(LU:List (Au×Value))(names:List vD)(gO oO B:Nat)(vF:Value)(l:List Al)(Q:Nat->Prop)(h:SV w S vR vO vI vU vN LR LO LI LU names)(hcF:w.cell? ⟨gO,oO+1,none⟩=some vF)(hF:Dq w B vF l)(hl:l.length<=100000):∀(v:Value) (ls:List Cq),JJ w Q v ls->∀W,vE w W->
 Calls prog 105 #[.pointer (some ⟨S,0,none⟩),v,.pointer (some ⟨gO,oO,none⟩)] W fun e w'=>e=.returned (.bool (ls.all (EF (LR.map rN) l)))/\vE W w':=by
 intro v ls hr
 induction hr with
 |is k n a c d e hq hb=>
  intro W hW;have hb2:=(hW.block k (Ab hb)).trans hb;have c0:W.cell? ⟨k,0,none⟩=some (.string n):=Ac hb2 0;have c1:W.cell? ⟨k,1,none⟩=some (.int .i64 4):=Ac hb2 1;have hc:=XC W S vR vO vI vU vN LR LO LI LU names n (h.below hW);have hn:=GO (h.below hW).rowRole n;have HQ:=Aa (show [(true,n)].all (EF (LR.map rN) l)=decide (¬Ae (LR.map rN) n<0)from by simp[EF,has]);generalize [(true,n)].all (EF (LR.map rN) l)=FF at*;generalize AC vR 2 (Ae (LR.map rN) n)=pp at*;generalize Ae (LR.map rN) n=q at*;clear h hcF hF hb hb2;by_cases hq:q<0
  ·have t1:=hn.1 hq
   subst t1;have HE:=Aa (show FF=false from by rw[HQ.o];simp[hq]);clear hn hq HQ;go_enter func105,ntmps105;go_wp2_with fail;refine hc.mono ?_;clear hc;rintro e w1 ⟨rfl,hb1⟩;go_wp2_with fail;go_ret;exact⟨Ak (by rw[HE.o]),hb1⟩
  ·obtain⟨a1,t1⟩:=hn.2 hq
   subst t1;have HE:=Aa (show FF=true from by rw[HQ.o];simp[hq]);clear hn hq HQ;go_enter func105,ntmps105;go_wp2_with fail;refine hc.mono ?_;clear hc;rintro e w1 ⟨rfl,hb1⟩;go_wp2_with fail;go_ret;exact⟨Ak (by rw[HE.o]),hb1⟩
 |eq k n a c d e hq hb=>
  intro W hW;have hb2:=(hW.block k (Ab hb)).trans hb;have c0:W.cell? ⟨k,0,none⟩=some (.string n):=Ac hb2 0;have c1:W.cell? ⟨k,1,none⟩=some (.int .i64 5):=Ac hb2 1;obtain⟨L,hL,hrow⟩:=hF.row;have hlen:L.length=l.length:=by rw[<-hL];simp
  have hrd:CT w vF 6 (l.map Al.name):=by rw[<-Ke L l hL];exact hrow.rowed fN (fun _=>rfl) (fun _=>rfl)
  have HC1:=Aa (fun W' (hb:vE w W')=>Oj W' gO oO vF n (l.map Al.name) (Ah hb hcF) (hrd.below hb) (by simpa using hl));have hfit:∀W',vE w W'->Calls prog 151 #[AC vF 6 (Ae (l.map Al.name) n)] W' fun e w'=>e=.returned (.bool (JV l n))/\vE W' w':=by
   intro W' hb';by_cases hq:Ae (l.map Al.name) n<0
   ·rw[(GO hrd n).1 hq,show JV l n=false from by unfold JV;rw[uC hq]]
    exact dO W'
   ·have hbd:=Hn (l.map Al.name) n
    obtain⟨j,hj⟩:∃j:Nat,Ae (l.map Al.name) n=j:=⟨(Ae (l.map Al.name) n).toNat,by omega⟩;have hjl:j<L.length:=by rw[hj]at hbd;simp at hbd;omega
    have hx:=tN hjl;obtain⟨g,cap,hv,hfa,hta⟩:=hrow.fldAt j _ hx;have hlj:l[j]?=some L[j].1:=by rw[<-hL,uD,hx];rfl
    rw[show JV l n=KJ L[j].1 from by unfold JV;rw[uB hq,hj];simp only[uO];rw[hlj]];rw[show AC vF 6 (Ae (l.map Al.name) n)=.pointer (some ⟨g,j*6,none⟩)from by unfold AC;rw[uB hq,hj,hv];simp];exact dN W' g (j*6) B _ _ (hfa.below hb') (hta.stays (Ao.of_below hb'))
  have HC2:=Aa hfit;have HQ:=Aa (show [(false,n)].all (EF (LR.map rN) l)=JV l n from by simp[EF]);generalize [(false,n)].all (EF (LR.map rN) l)=FF at*;generalize JV l n=GG at*;generalize AC vF 6 (Ae (l.map Al.name) n)=pp at*;have HW:=Aa hW;clear h hcF hF hb hb2 hfit hrow hL hlen hrd;go_enter func105,ntmps105;go_wp2_with fail;go_region_with (first
   |(go_at_call 108;refine(HC1.o _ ?_).mono ?_;(first|exact HW.o.drew|exact HW.o);rintro e w1 ⟨rfl,hb1⟩;have HB1:=Aa (HW.o.drew.trans (hb1.mono HW.o.size)))
   |(go_at_call 151;refine(HC2.o _ ?_).mono ?_;(first|exact HB1.o|exact HB1.o.drew);rintro e w2 ⟨rfl,hb2⟩))
  all_goals(
   go_wp2_with fail;go_ret;exact⟨Ak (by rw[HQ.o]),((tM _ _).drew.trans hb1).trans (hb2.mono hb1.size)⟩)
 |node k c n v x y z vs ls hq hc4 hb hown hQ hvl hlen hsub ih=>
  intro W hW;have hb2:=(hW.block k (Ab hb)).trans hb;have c0:W.cell? ⟨k,0,none⟩=some (.string n):=Ac hb2 0;have c1:W.cell? ⟨k,1,none⟩=some (.int .i64 c):=Ac hb2 1;have c2:W.cell? ⟨k,2,none⟩=some v:=Ac hb2 2;have hO:=AT hown hW;obtain⟨aV,cV,rfl⟩:=An hO;have t4:((c:Int)==4)=false:=by simp;omega
  have t5:((c:Int)==5)=false:=by simp;omega
  have HIH:=Aa ih;have HO:=Aa hO;have HQ:=Aa (show ls.flatten.all (EF (LR.map rN) l)=ls.all (fun x=>x.all (EF (LR.map rN) l))from by rw[List.all_flatten]);have xS:=Aa hlen;have HW:=Aa hW;generalize ls.flatten.all (EF (LR.map rN) l)=FF at*;clear h hcF hF hb hb2 ih hO hsub hQ hown hlen;go_enter func105,ntmps105;go_wp2_with fail;go_loopg [8,40] vs.length (fun m v8 v40 wr=>∃j:Nat,v40=.int .i64 j/\j<=vs.length/\vs.length-j<=m/\vE W wr/\(ls.take j).all (fun x=>x.all (EF (LR.map rN) l))=true)
  case atStart=>exact⟨0,rfl,tU _,by omega,tM _ _,by simp⟩
  case round=>
   obtain⟨j,rfl,hj,hm,hbj,hall⟩:=hrel;have vX:=Aa hall;clear hall;by_cases hlt:j<vs.length
   ·have hx:=tN hlt
    have hlj:j<ls.length:=by rw[<-xS.o];exact hlt
    have hy:=tN hlj;have hOr:=AT HO.o hbj;have hcell:wr.cell? (⟨(match aV with|some a=>a.block|none=>0),j,none⟩:Addr)=some vs[j]:=by
     rcases hOr.2 with⟨e,e0⟩|⟨g,cap,cur,hv,hg,hh,_⟩
     ·omega
     ·cases hv
      have:=hOr.cellAt j (by omega);simpa [hx]using this
    obtain⟨g,ha⟩:∃g,aV=some ⟨g,0,none⟩:=by
     rcases hOr.2 with⟨e,e0⟩|⟨g,cap,cur,hv,_⟩
     ·omega
     ·cases hv;exact⟨g,rfl⟩
    subst ha;simp only at hcell;have hbw:=HW.o.trans (hbj.mono HW.o.size);have hci:=HIH.o j _ _ hx hy wr hbw;have HY:=Aa hy;clear hx hy hOr;generalize vs[j]=uj at*;generalize hlv:ls[j]=lv at*;clear hlv;have HXJ:=Aa (show(ls.take (j+1)).all (fun x=>x.all (EF (LR.map rN) l))=lv.all (EF (LR.map rN) l)from by
     rw[uG,HY.o,List.all_append,vX.o];simp)
    cases hv:lv.all (EF (LR.map rN) l)
    ·rw[hv]at hci HXJ
     have HE:=Aa (show FF=false from by
      rw[HQ.o,Bool.eq_false_iff];intro hT;rw[uK]at hT;have:=hT lv (tO HY.o);rw[hv]at this;cases this)
     clear hv;go_wp2_with fail;refine hci.mono ?_;clear hci;rintro e w1 ⟨rfl,hb1⟩;have hbb:=hbj.trans (hb1.mono hbj.size);clear hb1;go_wp2_with fail;go_ret;exact⟨Ak (by rw[HE.o]),hbb⟩
    ·rw[hv]at hci HXJ
     clear hv;go_wp2_with fail;refine hci.mono ?_;clear hci;rintro e w1 ⟨rfl,hb1⟩;have hbb:=hbj.trans (hb1.mono hbj.size);clear hb1;go_wp2_with fail;go_roundg (vs.length-(j+1))
     case measure=>omega
     case rel=>exact⟨j+1,by go_num,by omega,tL _,hbb,HXJ.o⟩
   ·go_wp2_with fail
    go_ret;exact⟨Ak (by
     rw[HQ.o];have:=vX.o;rw[tW (by have:=xS.o;omega)]at this;rw[this]),hbj⟩
end Go.Proofs.YtadneapobijejaaGreatDoor
