import Derived.Test.YtadneapobijejaaGreatDoorC33
import Derived.Test.YtadneapobijejaaGreatDoorC30
namespace Go.Proofs.YtadneapobijejaaGreatDoor
set_option maxHeartbeats 20000000
set_option maxRecDepth 100000
open Go.RowKit Tryz
open Go.Maps Tryz
theorem SY(x:Aq):∀(l:List QF),(∀y∈l,y.1.key≠x.key)->CU x l=l++[(x,x.part.toList)]
 |[],_=>rfl
 |y::l,h=>by
  rw[CU,uB (h y uX),SY x l (fun z hz=>h z (uW _ hz))];rfl
theorem Ta(x:Aq):∀(l:List QF) (j:Nat) (y:QF),l[j]?=some y->y.1.key=x.key->(∀z∈l.take j,z.1.key≠x.key)->CU x l=l.set j (y.1,y.2++x.part.toList)
 |[],j,y,h,_,_=>by simp at h
 |z::l,0,y,h,e,_=>by
  simp at h;subst h;rw[CU,uC e];rfl
 |z::l,j+1,y,h,e,hn=>by
  rw[CU,uB (hn z (by simp)),Ta x l j y (by simpa using h) e (fun u hu=>hn u (by simp[hu]))];rfl
abbrev CX:=QF×(Nat×Nat)×Value
def JS(y:CX):List Value:=[.pointer (some ⟨y.2.1.1,y.2.1.2,none⟩),y.2.2]
def Hj(y:CX):vD:=y.1.1.key
structure CO(X w0:World)(B0 B1 Cb S gO ko Mb Sb:Nat)(pp:List Nat)(vF:Value)(L:List CX)(seen:List Bool):Prop where
 b:X.heap[Cb]?=some (.cells #[.pointer (some ⟨S,0,none⟩),.pointer (some ⟨gO,ko,none⟩),vF,.map (some Mb),.slice (some ⟨Sb,0,none⟩) pp.length pp.length] 264 (0,0))
 f:X.ownsRow B1 209 2 vF L.length (L.flatMap JS)
 sel:∀y∈L,ET w0 B0 pp y.2.1.1 y.2.1.2 y.1.1
 own:∀(i:Nat) (y:CX),L[i]?=some y->X.ownsRow B1 89 1 y.2.2 y.1.2.length (Bw pp y.1.2)
 ap:∀(i j:Nat) (a b:CX),i≠j->L[i]?=some a->L[j]?=some b->GD a.2.2 b.2.2
 m:∃D,BP X Mb L.length D/\PM (L.map Hj) D
 nd:(L.map Hj).Nodup
 s:X.heap[Sb]?=some (.cells (Bp seen).toArray 4 (0,0))
 lc:B1<=Cb
 lm:B1<=Mb
 ls:B1<=Sb
theorem CO.below{X Y w0:World}{B0 B1 Cb S gO ko Mb Sb:Nat}{pp:List Nat}{vF:Value}{L:List CX}{seen:List Bool}(h:CO X w0 B0 B1 Cb S gO ko Mb Sb pp vF L seen)(hb:vE X Y):CO Y w0 B0 B1 Cb S gO ko Mb Sb pp vF L seen:=by
 obtain⟨D,h1,h2⟩:=h.m;exact⟨(hb.block _ (Ab h.b)).trans h.b,AT h.f hb,h.sel,fun i y hy=>AT (h.own i y hy) hb,h.ap,⟨D,h1.below hb,h2⟩,h.nd,(hb.block _ (Ab h.s)).trans h.s,h.lc,h.lm,h.ls⟩
theorem jU{w:World}{M n:Nat}{D:DataW Unit}(h:BP w M n D)(x:vD)(hx:x.size<=maxLen):∃c:Int,(Instr.lookup 73 (.map (some M)) (.string x) true).run prog w=.ok (.tuple #[.int .i64 c,.bool (Maps.has D (kl x))]) w/\D.atKey (kl x) (.lit (.int .i64 0))=.lit (.int .i64 c):=by
 have hw0:(Lit.int .i64 0).wf=true:=by decide
 obtain⟨v,ps,hrun,hv⟩:=World.ownsMap.look_ok h Ca underlying73 (Gy w) (plainElem_int (H:=Unit) underlying3 hw0) (Nd x hx);obtain⟨c,rfl,hc,_⟩:=plainElem_int_inv underlying3 hv;exact⟨c,hrun,congrArg Prod.fst hc⟩
theorem Kc{X:World}{M n:Nat}{D:DataW Unit}(h:BP X M n D){k:Nat}{cs:Array Value}{t:TypeId}{fr:Nat×Nat}(hk:X.heap[k]?=some (.cells cs t fr)):k≠M:=fun e=>by
 obtain⟨es,cl,hb,_⟩:=h;rw[e,hb]at hk;cases hk
theorem Ze{X:World}{B e s n:Nat}{u v v':Value}{xs:List Value}(hu:X.ownsRow B e s u n xs)(ha:GD u v)(hl:∀k,v'.ownBlock=some k->v.ownBlock=some k\/X.heap.size<=k):GD u v':=by
 cases hb:u.ownBlock with
 |none=>exact .inl hb
 |some j=>
  refine .inr (fun e=>?_);rw[hb]at e;rcases hl j e.symm with q|q
  ·rcases ha with a|a
   ·rw[hb]at a;cases a
   ·exact a (hb.trans q.symm)
  ·have:=(hu.lt j hb).2;omega
theorem QN(X:World)(N i:Nat)(u:Value):X.grownBy (X.setCell ⟨N,i,none⟩ u) (some N):=⟨rfl,rfl,rfl,by simp[World.setCell],fun k _ hk=>tX _ _ _ _ (fun e=>hk (by rw[show k=N from e]))⟩
theorem TM(v':Value)(q:QF):∀(L:List CX) (j:Nat) (y:CX),L[j]?=some y->(L.set j (q,y.2.1,v')).flatMap JS=(L.flatMap JS).set (j*2+1) v'
 |[],j,y,h=>by simp at h
 |z::L,0,y,h=>by
  simp at h;subst h;rfl
 |z::L,j+1,y,h=>by
  simp only[List.set_cons_succ,List.flatMap_cons];rw[TM v' q L j y (by simpa using h)];have:(j+1)*2+1=2+(j*2+1):=by omega
  rw[this,show(2:Nat)=(JS z).length from rfl,List.set_append_right _ _ (by omega)];congr 2;omega
section
variable {X w0:World} {B0 B1 Cb S gO ko Mb Sb:Nat} {pp:List Nat} {vF:Value} {L:List CX} {seen:List Bool}
theorem CO.push{W4 w5:World}{x:Aq}{g o:Nat}{ob:Obj}{D':DataW Unit}{v':Value}(h:CO X w0 B0 B1 Cb S gO ko Mb Sb pp vF L seen)(hB:B1<=X.heap.size)(hs:ET w0 B0 pp g o x)(hni:x.key∉L.map Hj)(hg4:X.grownBy W4 (some Mb))(hm4:BP W4 Mb (L.length+1) D')(hpm:PM (L.map Hj++[x.key]) D')(hg5:(W4.alloc ob).grownBy w5 vF.ownBlock)(ho5:w5.ownsRow B1 209 2 v' (L.length+1) (L.flatMap JS++[.pointer (some ⟨g,o,none⟩),.slice none 0 0])):CO (w5.setCell ⟨Cb,2,none⟩ v') w0 B0 B1 Cb S gO ko Mb Sb pp v' (L++[((x,[]),(g,o),.slice none 0 0)]) seen/\Below B1 X (w5.setCell ⟨Cb,2,none⟩ v'):=by
 obtain⟨D,hm, -⟩:=h.m;have z4:=hg4.size;have z5:=hg5.size;simp at z5;have s4:∀(k:Nat) (cs:Array Value) (t:TypeId) (fr:Nat×Nat),X.heap[k]?=some (.cells cs t fr)->(W4.alloc ob).heap[k]?=some (.cells cs t fr):=fun k cs t fr hk=>(AK _ _ _ (tV (Ab hk) z4)).trans ((hg4.block k (Ab hk) (fun e=>Kc hm hk (tY e))).trans hk);have hf4:(W4.alloc ob).ownsRow B1 209 2 vF L.length (L.flatMap JS):=Ir h.f (fun k cur _ hk=>s4 k _ _ _ hk);have s5:∀(k:Nat) (cs:Array Value) (t:TypeId) (fr:Nat×Nat),X.heap[k]?=some (.cells cs t fr)->t≠209->w5.heap[k]?=some (.cells cs t fr):=fun k cs t fr hk ht=>(hg5.block k (Ab (s4 k _ _ _ hk)) (fun e=>Bv hf4 (s4 k _ _ _ hk) ht e.symm)).trans (s4 k _ _ _ hk);have b5:=s5 Cb _ _ _ h.b (by decide);have s6:∀(k:Nat) (cs:Array Value) (t:TypeId) (fr:Nat×Nat),X.heap[k]?=some (.cells cs t fr)->t≠209->t≠264->(w5.setCell ⟨Cb,2,none⟩ v').heap[k]?=some (.cells cs t fr):=fun k cs t fr hk ht hc=>(tX _ _ _ _ (show k≠Cb from fun e=>by subst e;rw[h.b]at hk;cases hk;exact hc rfl)).trans (s5 k _ _ _ hk ht);have hMF:some Mb≠vF.ownBlock:=fun e=>by
  obtain⟨cur,hc⟩:=Fx h.f Mb e.symm;exact Kc hm hc rfl
 have hMC:some Mb≠some Cb:=fun e=>Kc hm h.b (tY e).symm;refine⟨⟨AI b5 2 v',?_,?_,?_,?_,⟨D',?_,?_⟩,?_,s6 Sb _ _ _ h.s (by decide) (by decide),h.lc,h.lm,h.ls⟩,?_⟩
 ·rw[uE,List.flatMap_append]
  exact Di ho5 (fun e=>Bv ho5 b5 (by decide) e) 2 v'
 ·intro y hy
  rcases uZ.1 hy with q|q
  ·exact h.sel y q
  ·simp at q;subst q;exact hs
 ·intro i y hy
  rcases Nat.lt_or_ge i L.length with q|q
  ·rw[uI q]at hy
   exact Ir (h.own i y hy) (fun k cur _ hk=>s6 k _ _ _ hk (by decide) (by decide))
  ·rw[uJ q]at hy
   have:i-L.length=0:=by
    rcases Nat.eq_zero_or_pos (i-L.length)with r|r
    ·exact r
    ·rw[List.getElem?_eq_none (by simp;omega)]at hy;cases hy
   rw[this]at hy;simp at hy;subst hy;exact uA _ _ _ _
 ·intro i j a b hij ha hb
  rcases Nat.lt_or_ge i L.length with q|q
  ·rcases Nat.lt_or_ge j L.length with q'|q'
   ·rw[uI q]at ha
    rw[uI q']at hb;exact h.ap i j a b hij ha hb
   ·rw[uJ q']at hb
    have:b.2.2=.slice none 0 0:=by
     have:=tO hb;simp at this;rw[this]
    exact GD.symm (.inl (by rw[this];rfl))
  ·rw[uJ q]at ha
   have:a.2.2=.slice none 0 0:=by
    have:=tO ha;simp at this;rw[this]
   exact .inl (by rw[this];rfl)
 ·rw[uE]
  exact((hm4.alloc ob).kept hg5 hMF).kept (QN w5 Cb 2 v') hMC
 ·rw[uU];exact hpm
 ·rw[uU,List.map_cons,List.map_nil,OM];exact⟨h.nd,hni⟩
 ·refine⟨hg5.os.trans hg4.os,hg5.tape.trans hg4.tape,hg5.output.trans hg4.output,by simp[World.setCell];omega,fun k hk=>?_⟩
  exact(tX _ _ _ _ (show k≠Cb by have:=h.lc;omega)).trans ((hg5.block k (by simp;omega) (LW h.f hk)).trans ((AK _ _ _ (by omega)).trans (hg4.block k (by omega) (fun e=>by have:=tY e;have:=h.lm;omega))))
theorem CO.part{w5:World}{gF cF j i k:Nat}{y:CX}{ob:Obj}{v':Value}(h:CO X w0 B0 B1 Cb S gO ko Mb Sb pp (.slice (some ⟨gF,0,none⟩) L.length cF) L seen)(hB:B1<=X.heap.size)(hj:L[j]?=some y)(hk:pp[i]?=some k)(hg5:(X.alloc ob).grownBy w5 y.2.2.ownBlock)(ho5:w5.ownsRow B1 89 1 v' (y.1.2.length+1) (Bw pp y.1.2++[.pointer (some ⟨k,0,none⟩)]))(hl5:∀k,v'.ownBlock=some k->y.2.2.ownBlock=some k\/X.heap.size<=k):CO (w5.setCell ⟨gF,j*2+1,none⟩ v') w0 B0 B1 Cb S gO ko Mb Sb pp (.slice (some ⟨gF,0,none⟩) L.length cF) (L.set j ((y.1.1,y.1.2++[i]),y.2.1,v')) seen/\Below B1 X (w5.setCell ⟨gF,j*2+1,none⟩ v'):=by
 obtain⟨D,hm,hpm⟩:=h.m;have z5:=hg5.size;simp at z5;have hoj:=h.own j y hj;have hoj1:(X.alloc ob).ownsRow B1 89 1 y.2.2 y.1.2.length (Bw pp y.1.2):=hoj.alloc ob;have s4:∀(k:Nat) (cs:Array Value) (t:TypeId) (fr:Nat×Nat),X.heap[k]?=some (.cells cs t fr)->(X.alloc ob).heap[k]?=some (.cells cs t fr):=fun k cs t fr hk=>(AK _ _ _ (Ab hk)).trans hk;have s5:∀(k:Nat) (cs:Array Value) (t:TypeId) (fr:Nat×Nat),X.heap[k]?=some (.cells cs t fr)->t≠89->w5.heap[k]?=some (.cells cs t fr):=fun k cs t fr hk ht=>(hg5.block k (Ab (s4 k _ _ _ hk)) (fun e=>Bv hoj1 (s4 k _ _ _ hk) ht e.symm)).trans (s4 k _ _ _ hk);obtain⟨curF,hcF⟩:=Fx h.f gF rfl;have hcF5:=s5 gF _ _ _ hcF (by decide);have s6:∀(k:Nat) (cs:Array Value) (t:TypeId) (fr:Nat×Nat),X.heap[k]?=some (.cells cs t fr)->t≠89->t≠209->(w5.setCell ⟨gF,j*2+1,none⟩ v').heap[k]?=some (.cells cs t fr):=fun k cs t fr hk ht hc=>(tX _ _ _ _ (show k≠gF from fun e=>by subst e;rw[hcF]at hk;cases hk;exact hc rfl)).trans (s5 k _ _ _ hk ht);have hMP:some Mb≠y.2.2.ownBlock:=fun e=>by
  obtain⟨cur,hc⟩:=Fx hoj Mb e.symm;exact Kc hm hc rfl
 have hMC:some Mb≠some gF:=fun e=>Kc hm hcF (tY e).symm;have hkeys:(L.set j ((y.1.1,y.1.2++[i]),y.2.1,v')).map Hj=L.map Hj:=by
  rw[List.map_set];refine List.ext_getElem? (fun n=>?_);rw[List.getElem?_set];split
  ·rename_i e
   subst e;rw[uD,hj];split
   ·rfl
   ·rename_i q
    exact absurd (by rw[uP];exact(tP.1 hj).1) q
  ·rfl
 have hjl:j<L.length:=(tP.1 hj).1;refine⟨⟨s6 Cb _ _ _ (by have:=h.b;exact this) (by decide) (by decide),?_,?_,?_,?_,⟨D,?_,?_⟩,?_,s6 Sb _ _ _ h.s (by decide) (by decide),h.lc,h.lm,h.ls⟩,?_⟩
 ·rw[List.length_set,TM v' (y.1.1,y.1.2++[i]) L j y hj]
  exact Wo (Ir h.f (fun k cur _ hk=>s5 k _ _ _ hk (by decide))) v'
 ·intro u hu
  rcases List.mem_or_eq_of_mem_set hu with q|q
  ·exact h.sel u q
  ·subst q;exact h.sel y (tO hj)
 ·intro n u hu
  rw[List.getElem?_set]at hu;split at hu
  ·rename_i e
   subst e;cases hu;show World.ownsRow _ B1 _ 1 v' (y.1.2++[i]).length (Bw pp (y.1.2++[i]));rw[uE,WK];have e1:Bw pp [i]=[.pointer (some ⟨k,0,none⟩)]:=by simp[Bw,AM,hk]
   rw[e1];exact Di ho5 (fun e=>Bv ho5 hcF5 (by decide) e) _ v'
  ·rename_i e
   have hu1:(X.alloc ob).ownsRow B1 89 1 u.2.2 u.1.2.length (Bw pp u.1.2):=(h.own n u hu).alloc ob;have hu2:=hu1.kept hg5 (h.ap n j u y (fun q=>e q.symm) hu hj);exact Di hu2 (fun e=>Bv hu2 hcF5 (by decide) e) _ v'
 ·intro a b u z hab hu hz
  have hne:∀n u,n≠j->L[n]?=some u->GD u.2.2 v':=fun n u hn hu=>Ze (h.own n u hu) (h.ap n j u y hn hu hj) hl5;rw[List.getElem?_set]at hu hz;split at hu
  ·rename_i e
   subst e;cases hu;rw[uB hab]at hz;exact(hne b z (fun q=>hab q.symm) hz).symm
  ·rename_i e
   split at hz
   ·rename_i e'
    subst e';cases hz;exact hne a u (fun q=>e q.symm) hu
   ·exact h.ap a b u z hab hu hz
 ·rw[List.length_set]
  exact((hm.alloc ob).kept hg5 hMP).kept (QN w5 gF _ v') hMC
 ·rw[hkeys];exact hpm
 ·rw[hkeys];exact h.nd
 ·refine⟨hg5.os,hg5.tape,hg5.output,by simp[World.setCell];omega,fun k hk=>?_⟩
  have hgB:=(h.f.lt gF rfl).1;exact(tX _ _ _ _ (show k≠gF by omega)).trans ((hg5.block k (by simp;omega) (LW hoj hk)).trans (AK _ _ _ (by omega)))
theorem CO.fld{j:Nat}{y:CX}(h:CO X w0 B0 B1 Cb S gO ko Mb Sb pp vF L seen)(hj:L[j]?=some y):∃gF cF,vF=.slice (some ⟨gF,0,none⟩) L.length cF/\gF<X.heap.size/\X.cell? ⟨gF,j*2,none⟩=some (.pointer (some ⟨y.2.1.1,y.2.1.2,none⟩))/\X.cell? ⟨gF,j*2+1,none⟩=some y.2.2:=by
 obtain⟨g,cap,e,hc⟩:=Cn h.f (fun _=>rfl) j y hj;have h0:X.cell? ⟨g,j*2,none⟩=some (.pointer (some ⟨y.2.1.1,y.2.1.2,none⟩)):=by simpa using hc 0 _ rfl
 exact⟨g,cap,e,tR X _ h0,h0,hc 1 _ rfl⟩
end
end Go.Proofs.YtadneapobijejaaGreatDoor
