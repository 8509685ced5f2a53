import Derived.Test.YtogdodlibkckkaaGreatDoorZ33
import Derived.Test.YtogdodlibkckkaaGreatDoorZ30
namespace Go.Proofs.YtogdodlibkckkaaGreatDoor
set_option maxHeartbeats 20000000
set_option maxRecDepth 100000
open Go.RowKit Tryz
open Go.Maps Tryz
theorem TM(x:As):∀(l:List QF),(∀y∈l,y.1.key≠x.key)->Dd x l=l++[(x,x.part.toList)]
 |[],_=>rfl
 |y::l,a=>by
  rw[Dd,xG (a y yB),TM x l (fun z b=>a z (yA _ b))];rfl
theorem TO(x:As):∀(l:List QF) (j:Nat) (y:QF),l[j]?=some y->y.1.key=x.key->(∀z∈l.take j,z.1.key≠x.key)->Dd x l=l.set j (y.1,y.2++x.part.toList)
 |[],j,y,a,_,_=>by simp at a
 |z::l,0,y,a,e,_=>by
  simp at a;subst a;rw[Dd,xH e];rfl
 |z::l,j+1,y,a,e,b=>by
  rw[Dd,xG (b z (by simp)),TO x l j y (by simpa using a) e (fun u c=>b u (by simp[c]))];rfl
abbrev CX:=QF×(Nat×Nat)×Value
def Kf(y:CX):List Value:=[.pointer (some ⟨y.2.1.1,y.2.1.2,none⟩),y.2.2]
def Hw(y:CX):yF:=y.1.1.key
structure CO(X w0:World)(B0 B1 Cb S gO ko Mb Sb:Nat)(pp:List Nat)(vF:Value)(L:List CX)(seen:List Bool):Prop where
 b:X.heap[Cb]?=some (.cells #[.pointer (some ⟨S,0,none⟩),.pointer (some ⟨gO,ko,none⟩),vF,.map (some Mb),.slice (some ⟨Sb,0,none⟩) pp.length pp.length] 297 (0,0))
 f:X.ownsRow B1 254 2 vF L.length (L.flatMap Kf)
 sel:∀y∈L,Fg w0 B0 pp y.2.1.1 y.2.1.2 y.1.1
 own:∀(i:Nat) (y:CX),L[i]?=some y->X.ownsRow B1 120 1 y.2.2 y.1.2.length (Bz pp y.1.2)
 ap:∀(i j:Nat) (a b:CX),i≠j->L[i]?=some a->L[j]?=some b->GR a.2.2 b.2.2
 m:∃D,BS X Mb L.length D/\PM (L.map Hw) D
 nd:(L.map Hw).Nodup
 s:X.heap[Sb]?=some (.cells (Bw seen).toArray 4 (0,0))
 lc:B1<=Cb
 lm:B1<=Mb
 ls:B1<=Sb
theorem CO.below{d Y w0:World}{B0 B1 Cb S e g Mb Sb:Nat}{pp:List Nat}{h:Value}{c:List CX}{seen:List Bool}(a:CO d w0 B0 B1 Cb S e g Mb Sb pp h c seen)(hb:yG d Y):CO Y w0 B0 B1 Cb S e g Mb Sb pp h c seen:=by
 obtain⟨D,j,k⟩:=a.m;exact⟨(hb.block _ (Ab a.b)).trans a.b,AT a.f hb,a.sel,fun i y l=>AT (a.own i y l) hb,a.ap,⟨D,j.below hb,k⟩,a.nd,(hb.block _ (Ab a.s)).trans a.s,a.lc,a.lm,a.ls⟩
theorem nE{w:World}{a n:Nat}{D:DataW Unit}(b:BS w a n D)(x:yF)(h:x.size<=maxLen):∃c:Int,(Instr.lookup 65 (.map (some a)) (.string x) true).run prog w=.ok (.tuple #[.int .i64 c,.bool (Maps.has D (kl x))]) w/\D.atKey (kl x) (.lit (.int .i64 0))=.lit (.int .i64 c):=by
 have g:(Lit.int .i64 0).wf=true:=by decide
 obtain⟨v,i,e,f⟩:=World.ownsMap.look_ok b Ci underlying65 (GL w) (plainElem_int (H:=Unit) underlying3 g) (NC x h);obtain⟨c,rfl,d,_⟩:=plainElem_int_inv underlying3 f;exact⟨c,e,congrArg Prod.fst d⟩
theorem Kr{X:World}{a n:Nat}{D:DataW Unit}(f:BS X a n D){k:Nat}{c:Array Value}{t:TypeId}{d:Nat×Nat}(b:X.heap[k]?=some (.cells c t d)):k≠a:=fun e=>by
 obtain⟨es,cl,hb,_⟩:=f;rw[e,hb]at b;cases b
theorem aH{X:World}{B e s n:Nat}{u v v':Value}{f:List Value}(d:X.ownsRow B e s u n f)(b:GR u v)(c:∀k,v'.ownBlock=some k->v.ownBlock=some k\/X.heap.size<=k):GR u v':=by
 cases hb:u.ownBlock with
 |none=>exact .inl hb
 |some j=>
  refine .inr (fun e=>?_);rw[hb]at e;rcases c j e.symm with q|q
  ·rcases b with a|a
   ·rw[hb]at a;cases a
   ·exact a (hb.trans q.symm)
  ·have:=(d.lt j hb).2;omega
theorem RD(X:World)(N i:Nat)(u:Value):X.grownBy (X.setCell ⟨N,i,none⟩ u) (some N):=⟨rfl,rfl,rfl,by simp[World.setCell],fun k _ a=>xC _ _ _ _ (fun e=>a (by rw[show k=N from e]))⟩
theorem UJ(v':Value)(q:QF):∀(L:List CX) (j:Nat) (y:CX),L[j]?=some y->(L.set j (q,y.2.1,v')).flatMap Kf=(L.flatMap Kf).set (j*2+1) v'
 |[],j,y,a=>by simp at a
 |z::L,0,y,a=>by
  simp at a;subst a;rfl
 |z::L,j+1,y,a=>by
  simp only[List.set_cons_succ,List.flatMap_cons];rw[UJ v' q L j y (by simpa using a)];have:(j+1)*2+1=2+(j*2+1):=by omega
  rw[this,show(2:Nat)=(Kf z).length from rfl,List.set_append_right _ _ (by omega)];congr 2;omega
section
variable {X w0:World} {B0 B1 Cb S gO ko Mb Sb:Nat} {pp:List Nat} {vF:Value} {L:List CX} {seen:List Bool}
theorem CO.push{v w5:World}{x:As}{g o:Nat}{ob:Obj}{A:DataW Unit}{v':Value}(d:CO X w0 B0 B1 Cb S gO ko Mb Sb pp vF L seen)(Y:B1<=X.heap.size)(U:Fg w0 B0 pp g o x)(R:x.key∉L.map Hw)(u:X.grownBy v (some Mb))(Q:BS v Mb (L.length+1) A)(T:PM (L.map Hw++[x.key]) A)(p:(v.alloc ob).grownBy w5 vF.ownBlock)(I:w5.ownsRow B1 254 2 v' (L.length+1) (L.flatMap Kf++[.pointer (some ⟨g,o,none⟩),.slice none 0 0])):CO (w5.setCell ⟨Cb,2,none⟩ v') w0 B0 B1 Cb S gO ko Mb Sb pp v' (L++[((x,[]),(g,o),.slice none 0 0)]) seen/\Below B1 X (w5.setCell ⟨Cb,2,none⟩ v'):=by
 obtain⟨D,C, -⟩:=d.m;have V:=u.size;have W:=p.size;simp at W;have z:∀(k:Nat) (h:Array Value) (t:TypeId) (l:Nat×Nat),X.heap[k]?=some (.cells h t l)->(v.alloc ob).heap[k]?=some (.cells h t l):=fun k h t l c=>(AJ _ _ _ (xA (Ab c) V)).trans ((u.block k (Ab c) (fun e=>Kr C c (xD e))).trans c);have O:(v.alloc ob).ownsRow B1 254 2 vF L.length (L.flatMap Kf):=ID d.f (fun k H _ c=>z k _ _ _ c);have J:∀(k:Nat) (h:Array Value) (t:TypeId) (l:Nat×Nat),X.heap[k]?=some (.cells h t l)->t≠254->w5.heap[k]?=some (.cells h t l):=fun k h t l c E=>(p.block k (Ab (z k _ _ _ c)) (fun e=>By O (z k _ _ _ c) E e.symm)).trans (z k _ _ _ c);have G:=J Cb _ _ _ d.b (by decide);have K:∀(k:Nat) (h:Array Value) (t:TypeId) (l:Nat×Nat),X.heap[k]?=some (.cells h t l)->t≠254->t≠297->(w5.setCell ⟨Cb,2,none⟩ v').heap[k]?=some (.cells h t l):=fun k h t l c E B=>(xC _ _ _ _ (show k≠Cb from fun e=>by subst e;rw[d.b]at c;cases c;exact B rfl)).trans (J k _ _ _ c E);have N:some Mb≠vF.ownBlock:=fun e=>by
  obtain⟨H,B⟩:=FG d.f Mb e.symm;exact Kr C B rfl
 have M:some Mb≠some Cb:=fun e=>Kr C d.b (xD e).symm;refine⟨⟨AI G 2 v',?_,?_,?_,?_,⟨A,?_,?_⟩,?_,K Sb _ _ _ d.s (by decide) (by decide),d.lc,d.lm,d.ls⟩,?_⟩
 ·rw[xJ,List.flatMap_append]
  exact Ds I (fun e=>By I G (by decide) e) 2 v'
 ·intro y n
  rcases yD.1 n with q|q
  ·exact d.sel y q
  ·simp at q;subst q;exact U
 ·intro i y n
  rcases Nat.lt_or_ge i L.length with q|q
  ·rw[xN q]at n
   exact ID (d.own i y n) (fun k H _ c=>K k _ _ _ c (by decide) (by decide))
  ·rw[xO q]at n
   have:i-L.length=0:=by
    rcases Nat.eq_zero_or_pos (i-L.length)with r|r
    ·exact r
    ·rw[List.getElem?_eq_none (by simp;omega)]at n;cases n
   rw[this]at n;simp at n;subst n;exact xF _ _ _ _
 ·intro i j a b P w hb
  rcases Nat.lt_or_ge i L.length with q|q
  ·rcases Nat.lt_or_ge j L.length with F|F
   ·rw[xN q]at w
    rw[xN F]at hb;exact d.ap i j a b P w hb
   ·rw[xO F]at hb
    have:b.2.2=.slice none 0 0:=by
     have:=wT hb;simp at this;rw[this]
    exact GR.symm (.inl (by rw[this];rfl))
  ·rw[xO q]at w
   have:a.2.2=.slice none 0 0:=by
    have:=wT w;simp at this;rw[this]
   exact .inl (by rw[this];rfl)
 ·rw[xJ]
  exact((Q.alloc ob).kept p N).kept (RD w5 Cb 2 v') M
 ·rw[xY];exact T
 ·rw[xY,List.map_cons,List.map_nil,Py];exact⟨d.nd,R⟩
 ·refine⟨p.os.trans u.os,p.tape.trans u.tape,p.output.trans u.output,by simp[World.setCell];omega,fun k c=>?_⟩
  exact(xC _ _ _ _ (show k≠Cb by have:=d.lc;omega)).trans ((p.block k (by simp;omega) (Ms d.f c)).trans ((AJ _ _ _ (by omega)).trans (u.block k (by omega) (fun e=>by have:=xD e;have:=d.lm;omega))))
theorem CO.part{w5:World}{h I j i k:Nat}{y:CX}{ob:Obj}{v':Value}(c:CO X w0 B0 B1 Cb S gO ko Mb Sb pp (.slice (some ⟨h,0,none⟩) L.length I) L seen)(af:B1<=X.heap.size)(v:L[j]?=some y)(d:pp[i]?=some k)(r:(X.alloc ob).grownBy w5 y.2.2.ownBlock)(N:w5.ownsRow B1 120 1 v' (y.1.2.length+1) (Bz pp y.1.2++[.pointer (some ⟨k,0,none⟩)]))(W:∀k,v'.ownBlock=some k->y.2.2.ownBlock=some k\/X.heap.size<=k):CO (w5.setCell ⟨h,j*2+1,none⟩ v') w0 B0 B1 Cb S gO ko Mb Sb pp (.slice (some ⟨h,0,none⟩) L.length I) (L.set j ((y.1.1,y.1.2++[i]),y.2.1,v')) seen/\Below B1 X (w5.setCell ⟨h,j*2+1,none⟩ v'):=by
 obtain⟨D,C,aa⟩:=c.m;have ad:=r.size;simp at ad;have E:=c.own j y v;have Z:(X.alloc ob).ownsRow B1 120 1 y.2.2 y.1.2.length (Bz pp y.1.2):=E.alloc ob;have G:∀(k:Nat) (l:Array Value) (t:TypeId) (p:Nat×Nat),X.heap[k]?=some (.cells l t p)->(X.alloc ob).heap[k]?=some (.cells l t p):=fun k l t p d=>(AJ _ _ _ (Ab d)).trans d;have H:∀(k:Nat) (l:Array Value) (t:TypeId) (p:Nat×Nat),X.heap[k]?=some (.cells l t p)->t≠120->w5.heap[k]?=some (.cells l t p):=fun k l t p d F=>(r.block k (Ab (G k _ _ _ d)) (fun e=>By Z (G k _ _ _ d) F e.symm)).trans (G k _ _ _ d);obtain⟨ae,B⟩:=FG c.f h rfl;have J:=H h _ _ _ B (by decide);have P:∀(k:Nat) (l:Array Value) (t:TypeId) (p:Nat×Nat),X.heap[k]?=some (.cells l t p)->t≠120->t≠254->(w5.setCell ⟨h,j*2+1,none⟩ v').heap[k]?=some (.cells l t p):=fun k l t p d F A=>(xC _ _ _ _ (show k≠h from fun e=>by subst e;rw[B]at d;cases d;exact A rfl)).trans (H k _ _ _ d F);have V:some Mb≠y.2.2.ownBlock:=fun e=>by
  obtain⟨Q,A⟩:=FG E Mb e.symm;exact Kr C A rfl
 have U:some Mb≠some h:=fun e=>Kr C B (xD e).symm;have K:(L.set j ((y.1.1,y.1.2++[i]),y.2.1,v')).map Hw=L.map Hw:=by
  rw[List.map_set];refine List.ext_getElem? (fun n=>?_);rw[List.getElem?_set];split
  ·rename_i e
   subst e;rw[xI,v];split
   ·rfl
   ·rename_i q
    exact absurd (by rw[xT];exact(wU.1 v).1) q
  ·rfl
 have ah:j<L.length:=(wU.1 v).1;refine⟨⟨P Cb _ _ _ (by have:=c.b;exact this) (by decide) (by decide),?_,?_,?_,?_,⟨D,?_,?_⟩,?_,P Sb _ _ _ c.s (by decide) (by decide),c.lc,c.lm,c.ls⟩,?_⟩
 ·rw[List.length_set,UJ v' (y.1.1,y.1.2++[i]) L j y v]
  exact Xu (ID c.f (fun k Q _ d=>H k _ _ _ d (by decide))) v'
 ·intro u g
  rcases List.mem_or_eq_of_mem_set g with q|q
  ·exact c.sel u q
  ·subst q;exact c.sel y (wT v)
 ·intro n u g
  rw[List.getElem?_set]at g;split at g
  ·rename_i e
   subst e;cases g;show World.ownsRow _ B1 _ 1 v' (y.1.2++[i]).length (Bz pp (y.1.2++[i]));rw[xJ,XP];have T:Bz pp [i]=[.pointer (some ⟨k,0,none⟩)]:=by simp[Bz,AO,d]
   rw[T];exact Ds N (fun e=>By N J (by decide) e) _ v'
  ·rename_i e
   have ab:(X.alloc ob).ownsRow B1 120 1 u.2.2 u.1.2.length (Bz pp u.1.2):=(c.own n u g).alloc ob;have O:=ab.kept r (c.ap n j u y (fun q=>e q.symm) g v);exact Ds O (fun e=>By O J (by decide) e) _ v'
 ·intro a b u z x g w
  have M:∀n u,n≠j->L[n]?=some u->GR u.2.2 v':=fun n u Y g=>aH (c.own n u g) (c.ap n j u y Y g v) W;rw[List.getElem?_set]at g w;split at g
  ·rename_i e
   subst e;cases g;rw[xG x]at w;exact(M b z (fun q=>x q.symm) w).symm
  ·rename_i e
   split at w
   ·rename_i R
    subst R;cases w;exact M a u (fun q=>e q.symm) g
   ·exact c.ap a b u z x g w
 ·rw[List.length_set]
  exact((C.alloc ob).kept r V).kept (RD w5 h _ v') U
 ·rw[K];exact aa
 ·rw[K];exact c.nd
 ·refine⟨r.os,r.tape,r.output,by simp[World.setCell];omega,fun k d=>?_⟩
  have ag:=(c.f.lt h rfl).1;exact(xC _ _ _ _ (show k≠h by omega)).trans ((r.block k (by simp;omega) (Ms E d)).trans (AJ _ _ _ (by omega)))
theorem CO.fld{j:Nat}{y:CX}(h:CO X w0 B0 B1 Cb S gO ko Mb Sb pp vF L seen)(i:L[j]?=some y):∃a d,vF=.slice (some ⟨a,0,none⟩) L.length d/\a<X.heap.size/\X.cell? ⟨a,j*2,none⟩=some (.pointer (some ⟨y.2.1.1,y.2.1.2,none⟩))/\X.cell? ⟨a,j*2+1,none⟩=some y.2.2:=by
 obtain⟨g,cap,e,c⟩:=Cw h.f (fun _=>rfl) j y i;have b:X.cell? ⟨g,j*2,none⟩=some (.pointer (some ⟨y.2.1.1,y.2.1.2,none⟩)):=by simpa using c 0 _ rfl
 exact⟨g,cap,e,wW X _ b,b,c 1 _ rfl⟩
end
end Go.Proofs.YtogdodlibkckkaaGreatDoor
