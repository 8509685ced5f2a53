import Derived.Test.YtogdodlibkckkaaGreatDoorZ33
import Derived.Test.YtogdodlibkckkaaGreatDoorZ30
namespace Go.Proofs.YtogdodlibkckkaaGreatDoor
set_option maxHeartbeats 20000000
set_option maxRecDepth 100000
open Go.RowKit Tryz
open Go.Maps Tryz
theorem TM(x:As):∀(l:List QF),(∀y∈l,y.1.key≠x.key)->Dd x l=l++[(x,x.part.toList)]
 |[],_=>rfl
 |y::l,a=>by
  rw[Dd,xG (a y yB),TM x l (fun z b=>a z (yA _ b))];rfl
theorem TO(x:As):∀(l:List QF) (j:Nat) (y:QF),l[j]?=some y->y.1.key=x.key->(∀z∈l.take j,z.1.key≠x.key)->Dd x l=l.set j (y.1,y.2++x.part.toList)
 |[],j,y,a,_,_=>by simp at a
 |z::l,0,y,a,e,_=>by
  simp at a;subst a;rw[Dd,xH e];rfl
 |z::l,j+1,y,a,e,b=>by
  rw[Dd,xG (b z (by simp)),TO x l j y (by simpa using a) e (fun u c=>b u (by simp[c]))];rfl
abbrev CX:=QF×(Nat×Nat)×Value
def Kf(y:CX):List Value:=[.pointer (some ⟨y.2.1.1,y.2.1.2,none⟩),y.2.2]
def Hw(y:CX):yF:=y.1.1.key
structure CO(X w0:World)(B0 B1 Cb S gO ko Mb Sb:Nat)(pp:List Nat)(vF:Value)(L:List CX)(seen:List Bool):Prop where
 b:X.heap[Cb]?=some (.cells #[.pointer (some ⟨S,0,none⟩),.pointer (some ⟨gO,ko,none⟩),vF,.map (some Mb),.slice (some ⟨Sb,0,none⟩) pp.length pp.length] 297 (0,0))
 f:X.ownsRow B1 254 2 vF L.length (L.flatMap Kf)
 sel:∀y∈L,Fg w0 B0 pp y.2.1.1 y.2.1.2 y.1.1
 own:∀(i:Nat) (y:CX),L[i]?=some y->X.ownsRow B1 120 1 y.2.2 y.1.2.length (Bz pp y.1.2)
 ap:∀(i j:Nat) (a b:CX),i≠j->L[i]?=some a->L[j]?=some b->GR a.2.2 b.2.2
 m:∃D,BS X Mb L.length D/\PM (L.map Hw) D
 nd:(L.map Hw).Nodup
 s:X.heap[Sb]?=some (.cells (Bw seen).toArray 4 (0,0))
 lc:B1<=Cb
 lm:B1<=Mb
 ls:B1<=Sb
theorem CO.below{d Y w0:World}{B0 B1 Cb S e g Mb Sb:Nat}{pp:List Nat}{h:Value}{c:List CX}{seen:List Bool}(a:CO d w0 B0 B1 Cb S e g Mb Sb pp h c seen)(hb:yG d Y):CO Y w0 B0 B1 Cb S e g Mb Sb pp h c seen:=by
 obtain⟨D,j,k⟩:=a.m;exact⟨(hb.block _ (Ab a.b)).trans a.b,AT a.f hb,a.sel,fun i y l=>AT (a.own i y l) hb,a.ap,⟨D,j.below hb,k⟩,a.nd,(hb.block _ (Ab a.s)).trans a.s,a.lc,a.lm,a.ls⟩
theorem nE{w:World}{a n:Nat}{D:DataW Unit}(b:BS w a n D)(x:yF)(h:x.size<=maxLen):∃c:Int,(Instr.lookup 65 (.map (some a)) (.string x) true).run prog w=.ok (.tuple #[.int .i64 c,.bool (Maps.has D (kl x))]) w/\D.atKey (kl x) (.lit (.int .i64 0))=.lit (.int .i64 c):=by
 have g:(Lit.int .i64 0).wf=true:=by decide
 obtain⟨v,i,e,f⟩:=World.ownsMap.look_ok b Ci underlying65 (GL w) (plainElem_int (H:=Unit) underlying3 g) (NC x h);obtain⟨c,rfl,d,_⟩:=plainElem_int_inv underlying3 f;exact⟨c,e,congrArg Prod.fst d⟩
theorem Kr{X:World}{a n:Nat}{D:DataW Unit}(d:BS X a n D){k:Nat}{cs:Array Value}{t:TypeId}{c:Nat×Nat}(b:X.heap[k]?=some (.cells cs t c)):k≠a:=fun e=>by
 obtain⟨es,cl,hb,_⟩:=d;rw[e,hb]at b;cases b
theorem aH{X:World}{B e s n:Nat}{u v v':Value}{xs:List Value}(d:X.ownsRow B e s u n xs)(b:GR u v)(c:∀k,v'.ownBlock=some k->v.ownBlock=some k\/X.heap.size<=k):GR u v':=by
 cases hb:u.ownBlock with
 |none=>exact .inl hb
 |some j=>
  refine .inr (fun e=>?_);rw[hb]at e;rcases c j e.symm with q|q
  ·rcases b with a|a
   ·rw[hb]at a;cases a
   ·exact a (hb.trans q.symm)
  ·have:=(d.lt j hb).2;omega
theorem RD(X:World)(N i:Nat)(u:Value):X.grownBy (X.setCell ⟨N,i,none⟩ u) (some N):=⟨rfl,rfl,rfl,by simp[World.setCell],fun k _ a=>xC _ _ _ _ (fun e=>a (by rw[show k=N from e]))⟩
theorem UJ(v':Value)(q:QF):∀(L:List CX) (j:Nat) (y:CX),L[j]?=some y->(L.set j (q,y.2.1,v')).flatMap Kf=(L.flatMap Kf).set (j*2+1) v'
 |[],j,y,a=>by simp at a
 |z::L,0,y,a=>by
  simp at a;subst a;rfl
 |z::L,j+1,y,a=>by
  simp only[List.set_cons_succ,List.flatMap_cons];rw[UJ v' q L j y (by simpa using a)];have:(j+1)*2+1=2+(j*2+1):=by omega
  rw[this,show(2:Nat)=(Kf z).length from rfl,List.set_append_right _ _ (by omega)];congr 2;omega
section
variable {X w0:World} {B0 B1 Cb S gO ko Mb Sb:Nat} {pp:List Nat} {vF:Value} {L:List CX} {seen:List Bool}
theorem CO.push{u w5:World}{x:As}{g o:Nat}{ob:Obj}{z:DataW Unit}{v':Value}(d:CO X w0 B0 B1 Cb S gO ko Mb Sb pp vF L seen)(U:B1<=X.heap.size)(hs:Fg w0 B0 pp g o x)(Q:x.key∉L.map Hw)(p:X.grownBy u (some Mb))(P:BS u Mb (L.length+1) z)(R:PM (L.map Hw++[x.key]) z)(n:(u.alloc ob).grownBy w5 vF.ownBlock)(H:w5.ownsRow B1 254 2 v' (L.length+1) (L.flatMap Kf++[.pointer (some ⟨g,o,none⟩),.slice none 0 0])):CO (w5.setCell ⟨Cb,2,none⟩ v') w0 B0 B1 Cb S gO ko Mb Sb pp v' (L++[((x,[]),(g,o),.slice none 0 0)]) seen/\Below B1 X (w5.setCell ⟨Cb,2,none⟩ v'):=by
 obtain⟨D,B, -⟩:=d.m;have z4:=p.size;have T:=n.size;simp at T;have w:∀(k:Nat) (cs:Array Value) (t:TypeId) (h:Nat×Nat),X.heap[k]?=some (.cells cs t h)->(u.alloc ob).heap[k]?=some (.cells cs t h):=fun k cs t h c=>(AJ _ _ _ (xA (Ab c) z4)).trans ((p.block k (Ab c) (fun e=>Kr B c (xD e))).trans c);have N:(u.alloc ob).ownsRow B1 254 2 vF L.length (L.flatMap Kf):=ID d.f (fun k G _ c=>w k _ _ _ c);have I:∀(k:Nat) (cs:Array Value) (t:TypeId) (h:Nat×Nat),X.heap[k]?=some (.cells cs t h)->t≠254->w5.heap[k]?=some (.cells cs t h):=fun k cs t h c C=>(n.block k (Ab (w k _ _ _ c)) (fun e=>By N (w k _ _ _ c) C e.symm)).trans (w k _ _ _ c);have F:=I Cb _ _ _ d.b (by decide);have J:∀(k:Nat) (cs:Array Value) (t:TypeId) (h:Nat×Nat),X.heap[k]?=some (.cells cs t h)->t≠254->t≠297->(w5.setCell ⟨Cb,2,none⟩ v').heap[k]?=some (.cells cs t h):=fun k cs t h c C A=>(xC _ _ _ _ (show k≠Cb from fun e=>by subst e;rw[d.b]at c;cases c;exact A rfl)).trans (I k _ _ _ c C);have M:some Mb≠vF.ownBlock:=fun e=>by
  obtain⟨G,A⟩:=FG d.f Mb e.symm;exact Kr B A rfl
 have K:some Mb≠some Cb:=fun e=>Kr B d.b (xD e).symm;refine⟨⟨AI F 2 v',?_,?_,?_,?_,⟨z,?_,?_⟩,?_,J Sb _ _ _ d.s (by decide) (by decide),d.lc,d.lm,d.ls⟩,?_⟩
 ·rw[xJ,List.flatMap_append]
  exact Ds H (fun e=>By H F (by decide) e) 2 v'
 ·intro y l
  rcases yD.1 l with q|q
  ·exact d.sel y q
  ·simp at q;subst q;exact hs
 ·intro i y l
  rcases Nat.lt_or_ge i L.length with q|q
  ·rw[xN q]at l
   exact ID (d.own i y l) (fun k G _ c=>J k _ _ _ c (by decide) (by decide))
  ·rw[xO q]at l
   have:i-L.length=0:=by
    rcases Nat.eq_zero_or_pos (i-L.length)with r|r
    ·exact r
    ·rw[List.getElem?_eq_none (by simp;omega)]at l;cases l
   rw[this]at l;simp at l;subst l;exact xF _ _ _ _
 ·intro i j a b O v hb
  rcases Nat.lt_or_ge i L.length with q|q
  ·rcases Nat.lt_or_ge j L.length with E|E
   ·rw[xN q]at v
    rw[xN E]at hb;exact d.ap i j a b O v hb
   ·rw[xO E]at hb
    have:b.2.2=.slice none 0 0:=by
     have:=wT hb;simp at this;rw[this]
    exact GR.symm (.inl (by rw[this];rfl))
  ·rw[xO q]at v
   have:a.2.2=.slice none 0 0:=by
    have:=wT v;simp at this;rw[this]
   exact .inl (by rw[this];rfl)
 ·rw[xJ]
  exact((P.alloc ob).kept n M).kept (RD w5 Cb 2 v') K
 ·rw[xY];exact R
 ·rw[xY,List.map_cons,List.map_nil,Py];exact⟨d.nd,Q⟩
 ·refine⟨n.os.trans p.os,n.tape.trans p.tape,n.output.trans p.output,by simp[World.setCell];omega,fun k c=>?_⟩
  exact(xC _ _ _ _ (show k≠Cb by have:=d.lc;omega)).trans ((n.block k (by simp;omega) (Ms d.f c)).trans ((AJ _ _ _ (by omega)).trans (p.block k (by omega) (fun e=>by have:=xD e;have:=d.lm;omega))))
theorem CO.part{w5:World}{h H j i k:Nat}{y:CX}{ob:Obj}{v':Value}(c:CO X w0 B0 B1 Cb S gO ko Mb Sb pp (.slice (some ⟨h,0,none⟩) L.length H) L seen)(ae:B1<=X.heap.size)(r:L[j]?=some y)(d:pp[i]?=some k)(p:(X.alloc ob).grownBy w5 y.2.2.ownBlock)(M:w5.ownsRow B1 120 1 v' (y.1.2.length+1) (Bz pp y.1.2++[.pointer (some ⟨k,0,none⟩)]))(V:∀k,v'.ownBlock=some k->y.2.2.ownBlock=some k\/X.heap.size<=k):CO (w5.setCell ⟨h,j*2+1,none⟩ v') w0 B0 B1 Cb S gO ko Mb Sb pp (.slice (some ⟨h,0,none⟩) L.length H) (L.set j ((y.1.1,y.1.2++[i]),y.2.1,v')) seen/\Below B1 X (w5.setCell ⟨h,j*2+1,none⟩ v'):=by
 obtain⟨D,B,Z⟩:=c.m;have ab:=p.size;simp at ab;have C:=c.own j y r;have Y:(X.alloc ob).ownsRow B1 120 1 y.2.2 y.1.2.length (Bz pp y.1.2):=C.alloc ob;have F:∀(k:Nat) (cs:Array Value) (t:TypeId) (l:Nat×Nat),X.heap[k]?=some (.cells cs t l)->(X.alloc ob).heap[k]?=some (.cells cs t l):=fun k cs t l d=>(AJ _ _ _ (Ab d)).trans d;have G:∀(k:Nat) (cs:Array Value) (t:TypeId) (l:Nat×Nat),X.heap[k]?=some (.cells cs t l)->t≠120->w5.heap[k]?=some (.cells cs t l):=fun k cs t l d E=>(p.block k (Ab (F k _ _ _ d)) (fun e=>By Y (F k _ _ _ d) E e.symm)).trans (F k _ _ _ d);obtain⟨ad,A⟩:=FG c.f h rfl;have I:=G h _ _ _ A (by decide);have O:∀(k:Nat) (cs:Array Value) (t:TypeId) (l:Nat×Nat),X.heap[k]?=some (.cells cs t l)->t≠120->t≠254->(w5.setCell ⟨h,j*2+1,none⟩ v').heap[k]?=some (.cells cs t l):=fun k cs t l d E x=>(xC _ _ _ _ (show k≠h from fun e=>by subst e;rw[A]at d;cases d;exact x rfl)).trans (G k _ _ _ d E);have U:some Mb≠y.2.2.ownBlock:=fun e=>by
  obtain⟨P,x⟩:=FG C Mb e.symm;exact Kr B x rfl
 have T:some Mb≠some h:=fun e=>Kr B A (xD e).symm;have J:(L.set j ((y.1.1,y.1.2++[i]),y.2.1,v')).map Hw=L.map Hw:=by
  rw[List.map_set];refine List.ext_getElem? (fun n=>?_);rw[List.getElem?_set];split
  ·rename_i e
   subst e;rw[xI,r];split
   ·rfl
   ·rename_i q
    exact absurd (by rw[xT];exact(wU.1 r).1) q
  ·rfl
 have ag:j<L.length:=(wU.1 r).1;refine⟨⟨O Cb _ _ _ (by have:=c.b;exact this) (by decide) (by decide),?_,?_,?_,?_,⟨D,?_,?_⟩,?_,O Sb _ _ _ c.s (by decide) (by decide),c.lc,c.lm,c.ls⟩,?_⟩
 ·rw[List.length_set,UJ v' (y.1.1,y.1.2++[i]) L j y r]
  exact Xu (ID c.f (fun k P _ d=>G k _ _ _ d (by decide))) v'
 ·intro u g
  rcases List.mem_or_eq_of_mem_set g with q|q
  ·exact c.sel u q
  ·subst q;exact c.sel y (wT r)
 ·intro n u g
  rw[List.getElem?_set]at g;split at g
  ·rename_i e
   subst e;cases g;show World.ownsRow _ B1 _ 1 v' (y.1.2++[i]).length (Bz pp (y.1.2++[i]));rw[xJ,XP];have R:Bz pp [i]=[.pointer (some ⟨k,0,none⟩)]:=by simp[Bz,AO,d]
   rw[R];exact Ds M (fun e=>By M I (by decide) e) _ v'
  ·rename_i e
   have aa:(X.alloc ob).ownsRow B1 120 1 u.2.2 u.1.2.length (Bz pp u.1.2):=(c.own n u g).alloc ob;have N:=aa.kept p (c.ap n j u y (fun q=>e q.symm) g r);exact Ds N (fun e=>By N I (by decide) e) _ v'
 ·intro a b u z w g v
  have K:∀n u,n≠j->L[n]?=some u->GR u.2.2 v':=fun n u W g=>aH (c.own n u g) (c.ap n j u y W g r) V;rw[List.getElem?_set]at g v;split at g
  ·rename_i e
   subst e;cases g;rw[xG w]at v;exact(K b z (fun q=>w q.symm) v).symm
  ·rename_i e
   split at v
   ·rename_i Q
    subst Q;cases v;exact K a u (fun q=>e q.symm) g
   ·exact c.ap a b u z w g v
 ·rw[List.length_set]
  exact((B.alloc ob).kept p U).kept (RD w5 h _ v') T
 ·rw[J];exact Z
 ·rw[J];exact c.nd
 ·refine⟨p.os,p.tape,p.output,by simp[World.setCell];omega,fun k d=>?_⟩
  have af:=(c.f.lt h rfl).1;exact(xC _ _ _ _ (show k≠h by omega)).trans ((p.block k (by simp;omega) (Ms C d)).trans (AJ _ _ _ (by omega)))
theorem CO.fld{j:Nat}{y:CX}(h:CO X w0 B0 B1 Cb S gO ko Mb Sb pp vF L seen)(i:L[j]?=some y):∃a d,vF=.slice (some ⟨a,0,none⟩) L.length d/\a<X.heap.size/\X.cell? ⟨a,j*2,none⟩=some (.pointer (some ⟨y.2.1.1,y.2.1.2,none⟩))/\X.cell? ⟨a,j*2+1,none⟩=some y.2.2:=by
 obtain⟨g,cap,e,c⟩:=Cw h.f (fun _=>rfl) j y i;have b:X.cell? ⟨g,j*2,none⟩=some (.pointer (some ⟨y.2.1.1,y.2.1.2,none⟩)):=by simpa using c 0 _ rfl
 exact⟨g,cap,e,wW X _ b,b,c 1 _ rfl⟩
end
end Go.Proofs.YtogdodlibkckkaaGreatDoor
