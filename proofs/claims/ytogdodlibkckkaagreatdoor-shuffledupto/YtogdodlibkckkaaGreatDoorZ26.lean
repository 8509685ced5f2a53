import Derived.Test.YtogdodlibkckkaaGreatDoorZ25
import Derived.Deep.RegionHeld3
import Derived.BigQuiet
namespace Go.Proofs.YtogdodlibkckkaaGreatDoor
set_option maxHeartbeats 20000000
set_option maxRecDepth 100000
open Go.RowKit Tryz
open Go.Maps Tryz
def Dy(v:PV)(c:yF)(strict:Bool):Bool:=if v.1=0 then !strict else Jb v.1 c
theorem Nt(w:World)(v:PV)(c:yF)(strict:Bool):Calls prog 72 #[.agg #[.int .i64 v.1,.int .i64 v.2.1,.string v.2.2],.string c,.bool strict] w fun e w'=>e=.returned (.bool (Dy v c strict))/\yG w w':=by
 obtain⟨k,n,t⟩:=v;have a:=Aa (show Dy (k,n,t) c strict=if k=0 then !strict else Jb k c from rfl);generalize Dy (k,n,t) c strict=q at*;have d:=Aa (fun W=>Vw W k n t c);generalize Jb k c=g at*;by_cases b:k=0
 ·have T:((k:Int)==0)=true:=by simp;omega
  rw[xH b]at a;go_enter func72,ntmps72;go_wp2;go_ret;rw[a.o];exact⟨rfl,(wR _ _).alloc (wQ _) _⟩
 ·have T:((k:Int)==0)=false:=by simp;omega
  rw[xG b]at a;go_enter func72,ntmps72;go_wp2_with fail;refine(d.o _).mono ?_;rintro _ w1 ⟨rfl,f⟩;go_wp2;go_ret;rw[a.o];exact⟨rfl,bT (bA (wR _ _) _) f⟩
def Mz(x:Eb):Bool:=Ep x.scalar&&(!x.has||Dy x.dflt x.scalar x.strict)
section
variable {w:World} {k:Nat} {x:Eb}
theorem sY(g:w.heap[k]?=some (.cells #[.string x.name,.string x.scalar,.bool x.strict,.bool x.has,.int .i64 x.dflt.1,.int .i64 x.dflt.2.1,.string x.dflt.2.2] 182 (0,0))):Calls prog 70 #[.pointer (some ⟨k,0,none⟩)] w fun e w'=>e=.returned (.bool (Mz x))/\yG w w':=by
 have h:=Ac g;have r:=Ab g;have d:=Aa (fun V (l:yG w V)=>xZ l (fun j=>(l.cell (p:=⟨k,j,none⟩) r).trans (h j)));have b:=Aa (fun W=>Nz x.scalar W);have m:=Aa (fun W=>Nt W x.dflt x.scalar x.strict);have a:=Aa (Mz.eq_1 x);generalize Mz x=q at*;generalize Dy x.dflt x.scalar x.strict=s at*;cases es:Ep x.scalar
 ·rw[es]at a b
  have c:=Aa (show q=false from a.o);clear g;go_enter func70,ntmps70;go_wp2;go_quiet ((go_at_call 109;refine Calls.quiet_of_same (b.o _)));go_wp2;go_ret;rw[c.o];exact⟨rfl,below_drewN (wR _ _) _⟩
 ·rw[es]at a b
  cases i:x.has
  ·rw[i]at a h
   have c:=Aa (show q=true from a.o);clear g d;go_enter func70,ntmps70;go_wp2;go_quiet ((go_at_call 109;refine Calls.quiet_of_same (b.o _)));go_wp2;go_ret;rw[c.o];exact⟨rfl,below_drewN (wR _ _) _⟩
  ·rw[i]at a d
   have c:=Aa (show q=s from a.o);clear g h;go_enter func70,ntmps70;go_wp2;go_region_held3 (fun V=>yG w V/\(∀j,V.cell? ⟨k,j,none⟩=(#[.string x.name,.string x.scalar,.bool x.strict,.bool true,.int .i64 x.dflt.1,.int .i64 x.dflt.2.1,.string x.dflt.2.2]:Array Value)[j]?))
    (first|exact d.o _ (wR _ _).drew|exact d.o _ (bT f n)|exact d.o _ f)
    (first|(go_at_call 109;obtain⟨f, -⟩:= ‹yG w _/\_›;refine(b.o _).mono ?_;rintro _ w2 ⟨rfl,rfl⟩)|(go_at_call 72;obtain⟨f, -⟩:= ‹yG w _/\_›;refine(m.o _).mono ?_;rintro _ w2 ⟨rfl,n⟩))
   all_goals(obtain⟨f, -⟩:= ‹yG w _/\_›;(try go_wp2_with fail);go_ret;rw[c.o];exact⟨rfl,f⟩)
def Gj(l:AN)(x:Eb):PV:=(BH l x.name).getD x.dflt
theorem vZ(j:w.heap[k]?=some (.cells #[.string x.name,.string x.scalar,.bool x.strict,.bool x.has,.int .i64 x.dflt.1,.int .i64 x.dflt.2.1,.string x.dflt.2.2] 182 (0,0))){a n:Nat}{D:DataW Unit}{l:AN}(A:BT w a n D)(p:VM D l)(E:x.name.size<=4000):Calls prog 71 #[.pointer (some ⟨k,0,none⟩),.map (some a)] w fun e w'=>e=.returned (.agg #[.int .i64 (Gj l x).1,.int .i64 (Gj l x).2.1,.string (Gj l x).2.2])/\yG w w':=by
 have F:=Ac j;have G:=Ab j;have z:=Ic x.name E;have g:=p.has x.name;have s:=Aa (fun(u:Value) (c:List MemPlace) (C:Fu u=some (D.atKey (kl x.name) (EP (0,0,⟨#[]⟩)),c))=>p.get C);have d:=Aa (Gj.eq_1 l x);have h:=Aa (IL.eq_1 l x.name);generalize Gj l x=q at*;generalize IL l x.name=f at*;have y:BT (w.alloc (.cells #[.int .i64 0,.int .i64 0,.string ⟨#[]⟩] 154)) a n D:=A.below (bA (wR _ _) _);clear j A p;cases t:BH l x.name with
 |none=>
  rw[t]at g d h;have i:=Aa (show q=x.dflt from d.o);go_enter func71,ntmps71;go_wp2_with (at_lookup;refine wpList_lookup_own_ok _ rfl _ _ 105 rfl 9 154 Ci underlying105 Fu (KG _) (EP (0,0,⟨#[]⟩)) [] (Jn _) a n D rfl y _ _ rfl z ?_;intro r c m;rw[g];have b:=s.o r c m;unfold Hd at b;subst b);rw[i.o];refine bodyPost_ret (v:=.agg #[.int .i64 x.dflt.1,.int .i64 x.dflt.2.1,.string x.dflt.2.2]) (by simp[results,results71,go_sem, *]) rfl ⟨rfl,?_⟩;repeat' with_reducible first|exact wR _ _|refine bA ?_ _|refine bS ?_ _ (wQ _) _
 |some v=>
  rw[t]at g d h;have i:=Aa (show q=v from d.o);have B:=Aa (show f=v from h.o);have e:=B.o;subst e;go_enter func71,ntmps71;go_wp2_with (at_lookup;refine wpList_lookup_own_ok _ rfl _ _ 105 rfl 9 154 Ci underlying105 Fu (KG _) (EP (0,0,⟨#[]⟩)) [] (Jn _) a n D rfl y _ _ rfl z ?_;intro r c m;rw[g];have b:=s.o r c m;unfold Hd at b;subst b);rw[i.o];refine bodyPost_ret (v:=.agg #[.int .i64 f.1,.int .i64 f.2.1,.string f.2.2]) (by simp[results,results71,go_sem, *]) rfl ⟨rfl,?_⟩;repeat' with_reducible first|exact wR _ _|refine bA ?_ _|refine bS ?_ _ (wQ _) _
end
def Df(l:AN)(v:PV):PV:=if v.1=9 then(BH l v.2.2).getD v else v
structure Jx(cur cur':Array Value)(o:Nat)(v:PV):Prop where
 size:cur'.size=cur.size
 k:cur'[o]?=some (.int .i64 v.1)
 n:cur'[o+1]?=some (.int .i64 v.2.1)
 t:cur'[o+2]?=some (.string v.2.2)
 oth:∀i,i≠o->i≠o+1->i≠o+2->cur'[i]?=cur[i]?
theorem Jx.same{cur:Array Value}{o:Nat}{v:PV}(a:cur[o]?=some (.int .i64 v.1))(b:cur[o+1]?=some (.int .i64 v.2.1))(c:cur[o+2]?=some (.string v.2.2)):Jx cur cur o v:=⟨rfl,a,b,c,fun _ _ _ _=>rfl⟩
theorem Ry{cur:Array Value}{i:Nat}{v:Value}(b:cur[i]?=some v):i<cur.size:=by
 rcases Nat.lt_or_ge i cur.size with a|a
 ·exact a
 ·rw[Array.getElem?_eq_none a]at b;cases b
theorem Jx.set{cur:Array Value}{o:Nat}{v:PV}{a b c:Value}(g:cur[o]?=some a)(h:cur[o+1]?=some b)(j:cur[o+2]?=some c):Jx cur (((cur.setIfInBounds o (.int .i64 v.1)).setIfInBounds (o+1) (.int .i64 v.2.1)).setIfInBounds (o+2) (.string v.2.2)) o v:=by
 have d:=Ry g;have e:=Ry h;have f:=Ry j;refine⟨by simp,?_,?_,?_,fun i k l m=>?_⟩
 ·rw[Array.getElem?_setIfInBounds,xG (by omega),Array.getElem?_setIfInBounds,xG (by omega),Array.getElem?_setIfInBounds];simp[d]
 ·rw[Array.getElem?_setIfInBounds,xG (by omega),Array.getElem?_setIfInBounds];simp[e]
 ·rw[Array.getElem?_setIfInBounds];simp[f]
 ·rw[Array.getElem?_setIfInBounds,xG (by omega),Array.getElem?_setIfInBounds,xG (by omega),Array.getElem?_setIfInBounds,xG (by omega)]
section
variable {w:World} {M n g o:Nat} {D:DataW Unit} {l:AN} {v:PV} {cur:Array Value} {T:TypeId}
theorem sV(c:w.heap[g]?=some (.cells cur T (0,0)))(r:cur[o]?=some (.int .i64 v.1))(s:cur[o+1]?=some (.int .i64 v.2.1))(t:cur[o+2]?=some (.string v.2.2))(G:BT w M n D)(y:VM D l)(hs:v.1=9->v.2.2.size<=4000):
 Calls prog 111 #[.map (some M),.pointer (some ⟨g,o,none⟩)] w fun e w'=>e=.returned (.tuple #[])/\Ag g w w'/\∃B,w'.heap[g]?=some (.cells B T (0,0))/\Jx cur B o (Df l v):=by
 have j:=Aa c;have a:=Aa (xZ r (xZ s t));have L:w.cell? ⟨g,o,none⟩=some (.int .i64 v.1):=(Ac c o).trans r;have N:w.cell? ⟨g,o+1,none⟩=some (.int .i64 v.2.1):=(Ac c _).trans s;have O:w.cell? ⟨g,o+2,none⟩=some (.string v.2.2):=(Ac c _).trans t;have K:=Ak c;have J:=Ab c;have i:=y.has v.2.2;have A:=Aa (fun(u:Value) (f:List MemPlace) (I:Fu u=some (D.atKey (kl v.2.2) (EP (0,0,⟨#[]⟩)),f))=>y.get I);have b:=Aa (Df.eq_1 l v);have k:=Aa (IL.eq_1 l v.2.2);generalize IL l v.2.2=h at*;generalize Df l v=q at*;have E:=G;clear c r s t G y;by_cases p:v.1=9
 ·rw[xH p]at b
  have F:=Ic v.2.2 (hs p);have H:((v.1:Int)!=9)=false:=by simp;omega
  cases C:BH l v.2.2 with
  |none=>
   rw[C]at i b k;have m:=Aa (show q=v from b.o);go_enter func111,ntmps111;go_wp2_with (at_lookup;refine wpList_lookup_own_ok _ rfl _ _ 105 rfl 9 154 Ci underlying105 Fu (KG _) (EP (0,0,⟨#[]⟩)) [] (Jn _) M n D rfl E _ _ rfl F ?_;intro z f x;rw[i];have d:=A.o z f x;unfold Hd at d;subst d);go_end0;rw[m.o];exact⟨rfl,(Ag.refl g w).alloc _,cur,(AJ _ _ _ J).trans j.o,Jx.same a.o.1 a.o.2.1 a.o.2.2⟩
  |some u=>
   rw[C]at i b k;have m:=Aa (show q=u from b.o);have e:h=u:=k.o;subst e;go_enter func111,ntmps111;go_wp2_with (at_lookup;refine wpList_lookup_own_ok _ rfl _ _ 105 rfl 9 154 Ci underlying105 Fu (KG _) (EP (0,0,⟨#[]⟩)) [] (Jn _) M n D rfl E _ _ rfl F ?_;intro z f x;rw[i];have d:=A.o z f x;unfold Hd at d;subst d);go_end0;rw[m.o];have hb:=AI (AI (AI j.o o (.int .i64 h.1)) (o+1) (.int .i64 h.2.1)) (o+2) (.string h.2.2);exact⟨rfl,((((Ag.refl g w).setCell _ _).setCell _ _).setCell _ _).alloc _,_,(AJ _ _ _ (Ab hb)).trans hb,Jx.set a.o.1 a.o.2.1 a.o.2.2⟩
 ·rw[xG p]at b
  have H:((v.1:Int)!=9)=true:=by simp;omega
  go_enter func111,ntmps111;go_wp2_with fail;rw[b.o];exact bodyPost_ret (v:=.tuple #[]) (by simp[results,results111,go_sem]) rfl ⟨rfl,Ag.refl g w,cur,j.o,Jx.same a.o.1 a.o.2.1 a.o.2.2⟩
end
def Iq(a:Array Value)(j:Nat)(v:PV):Prop:=a[j*4+1]?=some (.int .i64 v.1)/\a[j*4+2]?=some (.int .i64 v.2.1)/\a[j*4+3]?=some (.string v.2.2)
structure Gl(l:AN)(cur cur':Array Value):Prop where
 size:cur'.size=cur.size
 hd:∀j,cur'[j*4]?=cur[j*4]?
 tri:∀j,(cur'[j*4+1]?=cur[j*4+1]?/\cur'[j*4+2]?=cur[j*4+2]?/\cur'[j*4+3]?=cur[j*4+3]?)\/∃t v,cur[j*4+1]?=some (.int .i64 9)/\cur[j*4+3]?=some (.string t)/\BH l t=some v/\Iq cur' j v
def N9(l:AN):Prop:=∀t v,BH l t=some v->v.1≠9
abbrev kB:List TypeId:=[236,238]
structure Bd(l:AN)(B0:Nat)(w X:World):Prop where
 os:X.os=w.os
 tape:X.tape=w.tape
 output:X.output=w.output
 size:w.heap.size<=X.heap.size
 low:∀k,k<B0->X.heap[k]?=w.heap[k]?
 oth:∀(k:Nat) (o:Obj),w.heap[k]?=some o->(∀(cs:Array Value) (t:TypeId) (fr:Nat×Nat),o=.cells cs t fr->t∉kB)->X.heap[k]?=some o
 arr:∀(k:Nat) (cur:Array Value) (t:TypeId) (fr:Nat×Nat),w.heap[k]?=some (.cells cur t fr)->t∈kB->∃cur',X.heap[k]?=some (.cells cur' t fr)/\Gl l cur cur'
section
variable {l:AN} {B0:Nat} {w X Y:World}
theorem Gl.refl(a:Array Value):Gl l a a:=⟨rfl,fun _=>rfl,fun _=>.inl ⟨rfl,rfl,rfl⟩⟩
theorem Gl.trans{a b c:Array Value}(p:N9 l)(m:Gl l a b)(k:Gl l b c):Gl l a c:=by
 refine⟨k.size.trans m.size,fun j=>(k.hd j).trans (m.hd j),fun j=>?_⟩;rcases k.tri j with⟨e,h,i⟩|⟨t,v,e,h,i,n⟩
 ·rcases m.tri j with⟨f1,f,d⟩|⟨t,v,f1,f,d,g⟩
  ·exact .inl ⟨e.trans f1,h.trans f,i.trans d⟩
  ·exact .inr ⟨t,v,f1,f,d,e.trans g.1,h.trans g.2.1,i.trans g.2.2⟩
 ·rcases m.tri j with⟨f1,f,d⟩|⟨q,v',f1,f,d,g⟩
  ·exact .inr ⟨t,v,f1.symm.trans e,d.symm.trans h,i,n⟩
  ·have:=g.1.symm.trans e
   simp only[Option.some.injEq,Value.int.injEq,true_and]at this;exact absurd (show v'.1=9 by omega) (p q v' d)
theorem Bd.refl:Bd l B0 w w:=⟨rfl,rfl,rfl,wQ _,fun _ _=>rfl,fun _ _ a _=>a,fun _ b _ _ a _=>⟨b,a,Gl.refl _⟩⟩
theorem Bd.trans(n:N9 l)(a:Bd l B0 w X)(k:Bd l B0 X Y):Bd l B0 w Y:=
 ⟨k.os.trans a.os,k.tape.trans a.tape,k.output.trans a.output,wV a.size k.size,fun i b=>(k.low i b).trans (a.low i b),fun i o b d=>k.oth i o (a.oth i o b d) d,fun i f t c b e=>by
  obtain⟨c1,g,h⟩:=a.arr i f t c b e;obtain⟨c2,j,m⟩:=k.arr i c1 t c g e;exact⟨c2,j,h.trans n m⟩⟩
theorem Bd.of_below(a:yG w X)(hb:B0<=w.heap.size):Bd l B0 w X:=
 ⟨a.os,a.tape,a.output,a.size,fun k b=>a.block k (by omega),fun k o b _=>(a.block k (Ab b)).trans b,fun k c t d b _=>⟨c,(a.block k (Ab b)).trans b,Gl.refl _⟩⟩
theorem Bd.rep{g j:Nat}{h m:Array Value}{T:TypeId}{v:PV}(s:X.heap[g]?=some (.cells h T (0,0)))(x:T∈kB)(f:Ag g X Y)(y:Y.heap[g]?=some (.cells m T (0,0)))(a:Jx h m (j*4+1) (Df l v))(d:Iq h j v)(B:B0<=g):Bd l B0 X Y:=by
 have C:=Ab s;refine⟨f.os,f.tape,f.output,f.size,fun k b=>f.block k (by omega) (by omega),fun k o b z=>(f.block k (Ab b) (fun e=>by subst e;rw[s]at b;exact z _ _ _ (xD b).symm x)).trans b,fun k c t A b D=>?_⟩;by_cases e:k=g
 ·subst e
  rw[s]at b;cases b;refine⟨m,y,a.size,fun i=>a.oth _ (by omega) (by omega) (by omega),fun i=>?_⟩;by_cases w:i=j
  ·subst w
   have hb:Df l v=if v.1=9 then(BH l v.2.2).getD v else v:=rfl;by_cases q:v.1=9
   ·rw[xH q]at hb
    cases p:BH l v.2.2 with
    |none=>
     rw[p]at hb;have r:Df l v=v:=hb;rw[r]at a;exact .inl ⟨a.k.trans d.1.symm,a.n.trans d.2.1.symm,a.t.trans d.2.2.symm⟩
    |some u=>
     rw[p]at hb;have r:Df l v=u:=hb;rw[r]at a;exact .inr ⟨v.2.2,u,by rw[d.1];simp[q],d.2.2,p,a.k,a.n,a.t⟩
   ·rw[xG q]at hb
    rw[hb]at a;exact .inl ⟨a.k.trans d.1.symm,a.n.trans d.2.1.symm,a.t.trans d.2.2.symm⟩
  ·exact .inl ⟨a.oth _ (by omega) (by omega) (by omega),a.oth _ (by omega) (by omega) (by omega),a.oth _ (by omega) (by omega) (by omega)⟩
 ·exact⟨c,(f.block k (Ab b) e).trans b,Gl.refl _⟩
theorem Bd.at{k:Nat}{cs:Array Value}{T:TypeId}{a:Nat×Nat}(b:Bd l B0 w X)(d:w.heap[k]?=some (.cells cs T a))(c:T∉kB):X.heap[k]?=some (.cells cs T a):=b.oth k _ d (fun _ _ _ e=>by cases e;exact c)
theorem Bd.own{B n size:Nat}{e:TypeId}{v:Value}{xs:List Value}(a:Bd l B0 w X)(d:w.ownsRow B e size v n xs)(b:e∉kB):X.ownsRow B e size v n xs:=ID d (fun _ _ _ c=>a.at c b)
theorem Gl.fin{e f:Array Value}{j:Nat}{b:PV}(h:Gl l e f)(hb:Iq e j b)(i:b.1=9->BH l b.2.2=none):Iq f j b:=by
 rcases h.tri j with⟨c,d,a⟩|⟨t,v,c,d,a,_⟩
 ·exact⟨c.trans hb.1,d.trans hb.2.1,a.trans hb.2.2⟩
 ·have f1:=hb.1.symm.trans c
  have g:=hb.2.2.symm.trans d;simp only[Option.some.injEq,Value.int.injEq,true_and]at f1;cases g;rw[i (by omega)]at a;cases a
theorem Ul(c:N9 l)(v:PV):(Df l v).1=9->BH l (Df l v).2.2=none:=by
 intro a;unfold Df at a⊢;by_cases e:v.1=9
 ·rw[xH e]at a⊢
  cases b:BH l v.2.2 with
  |none=>exact b
  |some u=>rw[b]at a;exact absurd a (c _ _ b)
 ·rw[xG e]at a;exact absurd a e
end
def Ni(l:AN)(a:Es):Es:=(a.1,Df l a.2)
def OE(l:AN)(a:Hm):Hm:=(a.1,Df l a.2)
def Hu(l:AN)(x:As):As:=⟨x.kind,x.key,x.name,x.args.map (Ni l),x.conds.map (OE l),x.part⟩
def CS(l:AN)(Q:Qy):Qy:=⟨Q.ops,Q.frags,Q.parts.map (fun P=>⟨P.typ,P.sels.map (Hu l)⟩)⟩
def Qw(X:World)(l:AN)(v:Value)(b:List PV):Prop:=∀j u g cap,b[j]?=some u->v=.slice (some ⟨g,0,none⟩) b.length cap->∃a T,X.heap[g]?=some (.cells a T (0,0))/\Iq a j (Df l u)
theorem aT{l:AN}{B0 B:Nat}{W X:World}{v:Value}{xs:List Es}(k:W.ownsRow B 236 4 v xs.length (xs.flatMap aL))(A:Bd l B0 W X)(hd:Qw X l v (xs.map Prod.snd)):X.ownsRow B 236 4 v (xs.map (Ni l)).length ((xs.map (Ni l)).flatMap aL):=by
 rcases k.2 with⟨e,s⟩|⟨g,cap,f,b,z,m,C,w,hs,I⟩
 ·have:xs=[]:=xE s
  subst this;rw[e];exact xF _ _ _ _
 ·obtain⟨F,h,i⟩:=A.arr g f _ _ m (by decide)
  rw[b,show xs.length=(xs.map (Ni l)).length by simp];refine Sp (fun _=>rfl) (by decide) z h (by simpa using C) w (i.size.trans hs) (fun j x c u p a=>?_);rw[xI]at p;obtain⟨y,q,rfl⟩:=yC.1 p;obtain⟨H,E,n,t⟩:=Cw k (fun _=>rfl) j y q;rw[b]at n;cases n;obtain⟨G,D,r,d⟩:=hd j y.2 g cap (by rw[xI,q];rfl) (by rw[b,xT]);rw[h]at r;cases r
  match c,a with
  |0,a=>cases a;rw[Nat.add_zero,i.hd];show f[j*4]?=some (.string y.1);have:=t 0 _ rfl;rw[Ac m]at this;simpa using this
  |1,a=>cases a;exact d.1
  |2,a=>cases a;exact d.2.1
  |3,a=>cases a;exact d.2.2
  |c+4,a=>simp[aL]at a
theorem dP{l:AN}{B0 B:Nat}{W X:World}{v:Value}{xs:List Hm}(k:W.ownsRow B 238 4 v xs.length (xs.flatMap cL))(A:Bd l B0 W X)(hd:Qw X l v (xs.map Prod.snd)):X.ownsRow B 238 4 v (xs.map (OE l)).length ((xs.map (OE l)).flatMap cL):=by
 rcases k.2 with⟨e,s⟩|⟨g,cap,f,b,z,m,C,w,hs,I⟩
 ·have:xs=[]:=xE s
  subst this;rw[e];exact xF _ _ _ _
 ·obtain⟨F,h,i⟩:=A.arr g f _ _ m (by decide)
  rw[b,show xs.length=(xs.map (OE l)).length by simp];refine Sp (fun _=>rfl) (by decide) z h (by simpa using C) w (i.size.trans hs) (fun j x c u p a=>?_);rw[xI]at p;obtain⟨y,q,rfl⟩:=yC.1 p;obtain⟨H,E,n,t⟩:=Cw k (fun _=>rfl) j y q;rw[b]at n;cases n;obtain⟨G,D,r,d⟩:=hd j y.2 g cap (by rw[xI,q];rfl) (by rw[b,xT]);rw[h]at r;cases r
  match c,a with
  |0,a=>cases a;rw[Nat.add_zero,i.hd];show f[j*4]?=some (.int .i64 y.1);have:=t 0 _ rfl;rw[Ac m]at this;simpa using this
  |1,a=>cases a;exact d.1
  |2,a=>cases a;exact d.2.1
  |3,a=>cases a;exact d.2.2
  |c+4,a=>simp[cL]at a
theorem bP{l:AN}(c:N9 l)(v:PV):Df l (Df l v)=Df l v:=by
 have a:=Ul c v;generalize Df l v=b at*;unfold Df;by_cases e:b.1=9
 ·rw[xH e,a e];rfl
 ·rw[xG e]
theorem Gl.cur{l:AN}{e f:Array Value}{j:Nat}{v:PV}(i:Gl l e f)(a:Iq e j v):∃u,Iq f j u/\(u=v\/u=Df l v):=by
 rcases i.tri j with⟨b,c,d⟩|⟨t,u,b,c,d,g⟩
 ·exact⟨v,⟨b.trans a.1,c.trans a.2.1,d.trans a.2.2⟩,.inl rfl⟩
 ·refine⟨u,g,.inr ?_⟩
  have f1:=a.1.symm.trans b;have h:=a.2.2.symm.trans c;simp only[Option.some.injEq,Value.int.injEq,true_and]at f1;cases h;unfold Df;rw[xH (by omega),d];rfl
def JP(b:World)(l:AN)(g:Nat)(T:TypeId)(c:List PV)(m:Nat):Prop:=∃a,b.heap[g]?=some (.cells a T (0,0))/\∀j u,j<m->c[j]?=some u->Iq a j (Df l u)
theorem JP.bd{a Y:World}{l:AN}{g m B0:Nat}{T:TypeId}{b:List PV}(h:JP a l g T b m)(p:T∈kB)(n:N9 l)(r:Bd l B0 a Y):JP Y l g T b m:=by
 obtain⟨c,i,k⟩:=h;obtain⟨d,e,f⟩:=r.arr g c T _ i p;exact⟨d,e,fun j u q s=>f.fin (k j u q s) (Ul n u)⟩
theorem Un{W c:World}{l:AN}{B0 g v n j:Nat}{T:TypeId}{D:DataW Unit}{s:List PV}{u:PV}{h:Array Value}(x:T∈kB)(w:N9 l)(H:W.heap[g]?=some (.cells h T (0,0)))(G:B0<=g)(L:Bd l B0 W c)(P:s[j]?=some u)(O:Iq h j u)(hs:u.1=9->u.2.2.size<=4000)(M:BT c v n D)(Q:VM D l)(hd:JP c l g T s j):
 Calls prog 111 #[.map (some v),.pointer (some ⟨g,j*4+1,none⟩)] c fun e Y=>e=.returned (.tuple #[])/\Bd l B0 c Y/\JP Y l g T s (j+1):=by
 obtain⟨S,m,F⟩:=L.arr g h T _ H x;obtain⟨r,f,A⟩:=F.cur O;have J:Df l r=Df l u:=by
  rcases A with e|e
  ·rw[e]
  ·rw[e,bP w]
 have N:r.1=9->r.2.2.size<=4000:=by
  rcases A with e|e
  ·rw[e];exact hs
  ·intro a
   rw[e]at a⊢;unfold Df at a⊢;by_cases d:u.1=9
   ·rw[xH d]at a⊢
    cases i:BH l u.2.2 with
    |none=>rw[i]at a;exact hs d
    |some z=>rw[i]at a;exact absurd a (w _ _ i)
   ·rw[xG d]at a;exact absurd a d
 refine(sV m f.1 f.2.1 f.2.2 M Q N).mono ?_;rintro _ Y ⟨rfl,K,E,y,b⟩;have I:=Bd.rep (l:=l) (B0:=B0) m x K y b f G;refine⟨rfl,I,E,y,fun B z U p=>?_⟩;by_cases e:B=j
 ·subst e
  rw[P]at p;cases p;rw[J]at b;exact⟨b.k,b.n,b.t⟩
 ·obtain⟨c0,C,R⟩:=hd
  rw[m]at C;cases C;have q:=R B z (by omega) p;exact⟨(b.oth _ (by omega) (by omega) (by omega)).trans q.1,(b.oth _ (by omega) (by omega) (by omega)).trans q.2.1,(b.oth _ (by omega) (by omega) (by omega)).trans q.2.2⟩
def Jp(X:World)(l:AN)(v:Value)(T:TypeId)(a:List PV):Prop:=∀g cap,v=.slice (some ⟨g,0,none⟩) a.length cap->JP X l g T a a.length
theorem Jp.bd{X Y:World}{l:AN}{B0:Nat}{v:Value}{T:TypeId}{a:List PV}(b:Jp X l v T a)(d:T∈kB)(c:N9 l)(f:Bd l B0 X Y):Jp Y l v T a:=fun g cap e=>(b g cap e).bd d c f
theorem Xs{w:World}{B e size n cap:Nat}{a:Option Addr}{xs:List Value}(d:w.ownsRow B e size (.slice a n cap) n xs):a=none\/∃g b,a=some ⟨g,0,none⟩/\B<=g/\w.heap[g]?=some (.cells b e (0,0)):=by
 rcases d.2 with⟨q,_⟩|⟨g,c,b,i,f,h,_⟩
 ·left;exact(Value.slice.inj q).1
 ·right;exact⟨g,b,(Value.slice.inj i).1,f,h⟩
structure MI(W:World)(B0 k i:Nat)(typ:yF)(pp:List Nat)(a:Option Addr)(cap:Nat)(L:List SX):Prop where
 b:W.heap[k]?=some (.cells #[.string typ,.int .i64 i,.slice a L.length cap] 223 (0,0))
 o:W.ownsRow B0 229 6 (.slice a L.length cap) L.length (L.flatMap (sL pp))
 s:∀x∈L,DF W B0 pp.length x
 l:L.length<=1000
 za:∀x∈L,∀y∈x.1.args,y.2.1=9->y.2.2.2.size<=4000
 zc:∀x∈L,∀y∈x.1.conds,y.2.1=9->y.2.2.2.size<=4000
section
variable {W X:World} {B0 k i cap M n:Nat} {typ:yF} {pp:List Nat} {a:Option Addr} {L:List SX} {l:AN} {D:DataW Unit}
def IT(Y:World)(l:AN)(L:List SX)(m:Nat):Prop:=∀t x,t<m->L[t]?=some x->Jp Y l x.2.1 236 (x.1.args.map Prod.snd)/\Jp Y l x.2.2 238 (x.1.conds.map Prod.snd)
theorem IT.bd{Y Z:World}{m:Nat}(a:IT Y l L m)(b:N9 l)(c:Bd l B0 Y Z):IT Z l L m:=fun t x d e=>⟨(a t x d e).1.bd (by decide) b c,(a t x d e).2.bd (by decide) b c⟩
theorem BT.bd{Y Z:World}(a:BT Y M n D)(b:Bd l B0 Y Z):BT Z M n D:=by
 obtain⟨es,clock,c,d,f,g⟩:=a;exact⟨es,clock,b.oth _ _ c (fun _ _ _ e=>by cases e),d,f,g⟩
theorem bR(aq:MI W B0 k i typ pp a cap L)(aD:Bd l B0 W X)(aQ:N9 l)(aT:BT X M n D)(aU:VM D l)(bh:B0<=X.heap.size):
 Calls prog 73 #[.pointer (some ⟨k,0,none⟩),.map (some M)] X fun e Y=>e=.returned (.tuple #[])/\Bd l B0 X Y/\IT Y l L L.length:=by
 have aj:=Aa aq;have a4:=Aa aD;have p:=Aa aQ;have aK:=Aa aT;have aM:=Aa aU;have aC:=aD.at aq.b (by decide);have bz:=Ac aC;have bH:=Ab aC;have bA:=aq.l;clear aq aD aQ aT aU aC;go_enter func73,ntmps73;go_wp2;go_loopg [5,6,7,13,20,34] L.length (fun m v5 v6 v7 v13 v20 v34 wr=>∃(t:Nat),v13=.int .i64 t/\t<=L.length/\L.length-t<=m/\Bd l B0 X wr/\IT wr l L t)
 case atStart=>exact⟨0,rfl,wZ _,wQ _,Bd.refl,fun t x aE=>absurd aE (Nat.not_lt_zero _)⟩
 case round=>
  obtain⟨t,rfl,bD,bE,hb,hd⟩:=hrel;obtain⟨h,rfl⟩:∃h:World,h=wr:=⟨_,rfl⟩;have ah:=Aa hb;have aI:=Aa hd;by_cases aS:t<L.length
  ·have ar:=wS aS
   have ab:L[t]∈L:=List.getElem_mem aS;generalize L[t]=y at ar ab;obtain⟨⟨N,O,P,args,d,aG⟩,bI,bJ⟩:=y;have az:=a4.o.trans p.o hb;obtain⟨g,aO,aV,I⟩:=Cw (az.own aj.o.o (by decide)) (fun _=>rfl) t _ ar;have bc:=(Value.slice.inj aV).1;subst bc;have J:=aj.o.s _ ab;obtain⟨v,B,Q⟩:=An J.a;obtain⟨w,C,aP⟩:=An J.c;simp only[]at Q aP;subst Q aP;obtain⟨G,bn⟩:∃f,AO pp aG=.pointer f:=by
    cases aG with
    |none=>exact⟨_,rfl⟩
    |some i=>exact⟨_,rfl⟩
   have bs:h.cell? ⟨g,t*6,none⟩=some (.int .i64 N):=by simpa using I 0 _ rfl
   have bK:h.cell? ⟨g,t*6+1,none⟩=some (.string O):=I 1 _ rfl;have bL:h.cell? ⟨g,t*6+2,none⟩=some (.string P):=I 2 _ rfl;have bM:h.cell? ⟨g,t*6+3,none⟩=some (.slice v args.length B):=I 3 _ rfl;have bN:h.cell? ⟨g,t*6+4,none⟩=some (.slice w d.length C):=I 4 _ rfl;have bO:h.cell? ⟨g,t*6+5,none⟩=some (.pointer G):=by rw[I 5 _ rfl];show some (AO pp aG)=_;rw[bn]
   have bB:g<h.heap.size:=wW h _ bs;have bl:=J.al;have bm:=J.cl;simp only[]at bl bm;have ag:=Aa J.a;have ai:=Aa J.c;have a7:=Aa (aj.o.za _ ab);have a8:=Aa (aj.o.zc _ ab);have ak:=Aa az;have a6:=Aa ar;have bi:B0<=h.heap.size:=wV bh hb.size;clear I aV J ab ar az hb hd;go_wp2_with fail;have bj:(h.alloc (.cells #[.int .i64 N,.string O,.string P,.slice v args.length B,.slice w d.length C,.pointer G] 229)).heap[h.heap.size]?=some (.cells #[.int .i64 N,.string O,.string P,.slice v args.length B,.slice w d.length C,.pointer G] 229 (0,0)):=wX h _;have aR:Bd l B0 h (h.alloc (.cells #[.int .i64 N,.string O,.string P,.slice v args.length B,.slice w d.length C,.pointer G] 229)):=Bd.of_below ((wR _ _).alloc (wQ _) _) bi;generalize h.alloc (.cells #[.int .i64 N,.string O,.string P,.slice v args.length B,.slice w d.length C,.pointer G] 229)=bt at*;generalize bk:h.heap.size=aN at*;clear bk;go_loopg [6,20] args.length (fun m v6 v20 wr=>∃(j:Nat),v20=.int .i64 j/\j<=args.length/\args.length-j<=m/\Bd l B0 h wr/\wr.heap[aN]?=some (.cells #[.int .i64 N,.string O,.string P,.slice v args.length B,.slice w d.length C,.pointer G] 229 (0,0))/\∀q,v=some ⟨q,0,none⟩->JP wr l q 236 (args.map Prod.snd) j)
   case atStart=>
    refine⟨0,rfl,wZ _,wQ _,aR,bj,fun q z=>by
    rcases Xs ag.o with e|⟨bg,a9,e,bo,aA⟩
    ·rw[e]at z;cases z
    ·rw[e]at z
     cases z;obtain⟨c3,aH,_⟩:=(ak.o.trans p.o aR).arr _ _ _ _ aA (by decide);exact⟨c3,aH,fun j u aB=>absurd aB (Nat.not_lt_zero _)⟩⟩
   case round=>
    obtain⟨j,rfl,bp,bq,V,ad,U⟩:=hrel;obtain⟨w1,rfl⟩:∃w1:World,w1=wr:=⟨_,rfl⟩;have R:=Aa V;have aL:=Aa ad;have a2:=Aa U;have bu:=Ac ad;have bF:=Ab ad;by_cases aa:j<args.length
    ·have A:=wS aa
     have K:args[j]∈args:=List.getElem_mem aa;generalize args[j]=u at A K;obtain⟨aw,bw,aW,ao⟩:=Cw ag.o (fun _=>rfl) j u A;have ba:=(Value.slice.inj aW).1;subst ba;obtain⟨au,r⟩:=FG ag.o aw rfl;have ay:=(ag.o.lt aw rfl).1;have af:Iq au j u.2:=⟨by rw[<-Ac r];exact ao 1 _ rfl,by rw[<-Ac r];exact ao 2 _ rfl,by rw[<-Ac r];exact ao 3 _ rfl⟩;have Z:=ak.o.trans p.o V;have S:=Aa (Un (by decide) p.o r ay Z (show(args.map Prod.snd)[j]?=some u.2 by rw[xI,A];rfl) af (a7.o u K) ((aK.o.bd ah.o).bd V) aM.o (U aw rfl));clear ao aW r af Z A K V ad U;go_wp2_with fail;refine S.o.mono ?_;rintro _ w5 ⟨rfl,F,T⟩;have E:=Aa (xZ (R.o.trans p.o F) (xZ (F.at aL.o (by decide)) T));clear F T S;go_wp2;go_roundg (args.length-(j+1))
     case measure=>omega
     case rel=>exact⟨j+1,by go_num,by omega,wQ _,E.o.1,E.o.2.1,fun q e=>by cases e;exact E.o.2.2⟩
    ·have av:j=args.length:=by omega
     subst av;have aZ:=Aa (show Jp w1 l (.slice v args.length B) 236 (args.map Prod.snd)from fun q aO e=>by
      have Q:=(Value.slice.inj e).1;have:=U q Q
      rwa [xT])
     clear V ad U a2;go_wp2;go_loopg [7,34] d.length (fun m v7 v34 wr=>∃(j:Nat),v34=.int .i64 j/\j<=d.length/\d.length-j<=m/\Bd l B0 w1 wr/\wr.heap[aN]?=some (.cells #[.int .i64 N,.string O,.string P,.slice v args.length B,.slice w d.length C,.pointer G] 229 (0,0))/\∀q,w=some ⟨q,0,none⟩->JP wr l q 238 (d.map Prod.snd) j)
     case atStart=>
      refine⟨0,rfl,wZ _,wQ _,Bd.refl,aL.o,fun q z=>by
      rcases Xs ai.o with e|⟨bg,a9,e,bo,aA⟩
      ·rw[e]at z;cases z
      ·rw[e]at z
       cases z;obtain⟨c3,aH,_⟩:=(ak.o.trans p.o R.o).arr _ _ _ _ aA (by decide);exact⟨c3,aH,fun j u aB=>absurd aB (Nat.not_lt_zero _)⟩⟩
     case round=>
      obtain⟨j,rfl,bp,bq,H,ae,am⟩:=hrel;obtain⟨w2,rfl⟩:∃w2:World,w2=wr:=⟨_,rfl⟩;have a0:=Aa H;have a5:=Aa ae;have bv:=Ac ae;have bG:=Ab ae;by_cases aa:j<d.length
      ·have A:=wS aa
       have K:d[j]∈d:=List.getElem_mem aa;generalize d[j]=u at A K;obtain⟨ax,bx,aX,ap⟩:=Cw ai.o (fun _=>rfl) j u A;have bb:=(Value.slice.inj aX).1;subst bb;obtain⟨au,r⟩:=FG ai.o ax rfl;have ay:=(ai.o.lt ax rfl).1;have af:Iq au j u.2:=⟨by rw[<-Ac r];exact ap 1 _ rfl,by rw[<-Ac r];exact ap 2 _ rfl,by rw[<-Ac r];exact ap 3 _ rfl⟩;have Z:=(ak.o.trans p.o R.o).trans p.o H;have S:=Aa (Un (by decide) p.o r ay Z (show(d.map Prod.snd)[j]?=some u.2 by rw[xI,A];rfl) af (a8.o u K) (((aK.o.bd ah.o).bd R.o).bd H) aM.o (am ax rfl));clear ap aX r af Z A K H ae am;go_wp2_with fail;refine S.o.mono ?_;rintro _ w5 ⟨rfl,F,T⟩;have E:=Aa (xZ (a0.o.trans p.o F) (xZ (F.at a5.o (by decide)) T));clear F T S;go_wp2;go_roundg (d.length-(j+1))
       case measure=>omega
       case rel=>exact⟨j+1,by go_num,by omega,wQ _,E.o.1,E.o.2.1,fun q e=>by cases e;exact E.o.2.2⟩
      ·have av:j=d.length:=by omega
       subst av;have a1:=Aa (show Jp w2 l (.slice w d.length C) 238 (d.map Prod.snd)from fun q aO e=>by
        have Q:=(Value.slice.inj e).1;have:=am q Q
        rwa [xT])
       have aJ:=Aa (show Bd l B0 h w2 from R.o.trans p.o H);have a3:=Aa (show IT w2 l L (t+1)from fun aY br bC aF=>by
        by_cases bf:aY=t
        ·subst bf
         rw[a6.o]at aF;cases aF;exact⟨aZ.o.bd (by decide) p.o H,a1.o⟩
        ·exact(aI.o.bd p.o aJ.o) aY br (by omega) aF)
       clear H ae am;go_wp2;go_roundg (L.length-(t+1))
       case measure=>omega
       case rel=>exact⟨t+1,by go_num,by omega,wQ _,ah.o.trans p.o aJ.o,a3.o⟩
  ·have aE:t=L.length:=by omega
   subst aE;clear hb hd;go_wp2;go_end0;exact⟨rfl,ah.o,aI.o⟩
end
theorem Jp.b{a:World}{l:AN}{v:Value}{T:TypeId}{d:List PV}(f:Jp a l v T d):Qw a l v d:=fun j u g cap c k=>by
 obtain⟨e,h,i⟩:=f g cap k;exact⟨e,T,h,i j u (wU.1 c).1 c⟩
theorem YI(l:AN)(pp:List Nat):∀a:List SX,(a.map (fun y=>((Hu l y.1,y.2.1,y.2.2):SX))).flatMap (sL pp)=a.flatMap (sL pp)
 |[]=>rfl
 |y::r=>by rw[List.map_cons,List.flatMap_cons,List.flatMap_cons,YI l pp r];rfl
theorem CQ.bp{W:World}{B0 i:Nat}{pp:List Nat}{P:Ai}(f:CQ W B0 pp i P)(n:∀x∈P.sels,∀y∈x.args,y.2.1=9->y.2.2.2.size<=4000)(p:∀x∈P.sels,∀y∈x.conds,y.2.1=9->y.2.2.2.size<=4000):∃k a cap b,pp[i]?=some k/\B0<=k/\MI W B0 k i P.typ pp a cap b/\b.map Prod.fst=P.sels:=by
 obtain⟨k,q,b,g,h,j,c,e,l,m⟩:=f.ex;obtain⟨a,cap,rfl⟩:=An e;exact⟨k,a,cap,b,g,j,⟨h,e,m,l,fun x d=>n x.1 (by rw[<-c];exact List.mem_map.2 ⟨x,d,rfl⟩),fun x d=>p x.1 (by rw[<-c];exact List.mem_map.2 ⟨x,d,rfl⟩)⟩,c⟩
theorem MI.bound{W Y:World}{B0 k i cap:Nat}{pp:List Nat}{P:Ai}{a:Option Addr}{d:List SX}{l:AN}(e:MI W B0 k i P.typ pp a cap d)(q:pp[i]?=some k)(m:B0<=k)(n:d.map Prod.fst=P.sels)(f:Bd l B0 W Y)(hd:IT Y l d d.length):CQ Y B0 pp i ⟨P.typ,P.sels.map (Hu l)⟩:=by
 refine⟨k,.slice a d.length cap,d.map (fun y=>(Hu l y.1,y.2.1,y.2.2)),q,f.at e.b (by decide),m,?_,?_,by simpa using e.l,fun x r=>?_⟩
 ·rw[List.map_map]
  show d.map (fun y=>Hu l y.1)=P.sels.map (Hu l);rw[<-n,List.map_map];rfl
 ·rw[YI,xT]
  exact f.own e.o (by decide)
 ·obtain⟨y,j,rfl⟩:=List.mem_map.1 r
  obtain⟨t,h⟩:=List.getElem?_of_mem j;have g:=hd t y (wU.1 h).1 h;have o:=e.s y j;exact⟨aT o.a f g.1.b,dP o.c f g.2.b,by simpa [Hu]using o.al,by simpa [Hu]using o.cl,o.p⟩
end Go.Proofs.YtogdodlibkckkaaGreatDoor
