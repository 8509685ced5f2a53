import Derived.Test.YtgbloieahmkcjaaGreatC01
import Derived.Deep.AppendLies
import Derived.Deep.RegionLaw
namespace Go.Proofs.YtgbloieahmkcjaaGreat
set_option maxHeartbeats 20000000
set_option maxRecDepth 100000
section
variable {P:Program} (w:World)
theorem D3(t ty:TypeId)(base:Nat)(e:TypeId)(i:TypeInfo)(z:Value)(size bytes:Nat)(ht:P.underlying t=some (.slice e))(hi:P.info? e=some i)(hz:i.zero=some z)
 (Ni:i.size=size) (hby:i.bytes=bytes) (hzs:z.cells.size=size) (hsz:0<size)
 (v:Value) (n:Nat) (xs:List Value) (LJ:w.ownsRow base e size v n xs)
 (ad:Addr) (m c:Nat) (ML:List Value) (hl:ML.length=m*size) (M9:∀j u,ML[j]?=some u->w.cell? (ad.add j)=some u) (h1:∀u∈ML,u.oneCell'=true)
 (hm:0<m) (h63:n+m<=maxLen) (MP:(n+m)*bytes<=140737488355328) (Nl:base<=w.heap.size):
 ∃g cap w',(Builtin.append_ #[t,t] ty #[v,.slice (some ad) m c]).run P w=.ok (.slice (some ⟨g,0,none⟩) (n+m) cap) w'/\
  w'.ownsRow base e size (.slice (some ⟨g,0,none⟩) (n+m) cap) (n+m) (xs++ML)/\w'.ownsRow base e size v n xs/\w.grownBy w' v.ownBlock/\(v.ownBlock=some g\/g=w.heap.size)/\g<w'.heap.size:=by
 obtain⟨g,cap,w',hr,h2,h3,h4,h5⟩:=run_append_lies (P:=P) w t ty base e i z size bytes ht hi hz Ni hby hzs hsz v n xs LJ ad m c ML hl M9 h1 hm h63 MP Nl w.heap.size rfl;refine⟨g,cap,w',hr,h2,?_,h3,h4,h5⟩;have hsmall:n+m<=9223372036854775807:=by simp only[maxLen]at h63;omega
 subst Ni;subst hby
 rcases LJ.2 with⟨rfl,rfl⟩|⟨g0,cap0,cur,rfl,hbg,hg,hnc,hcm,hcs,Nv⟩
 ·have hx:xs=[]:=KZ (by simpa using LJ.1)
  subst hx;exact K7 _ _ _ _
 ·by_cases hroom:n+m<=cap0
  ·have Nn:n*i.size+ML.length<=cur.size:=by rw[hl,hcs,<-Nat.add_mul];exact Nat.mul_le_mul_right _ hroom
   have hr2:=run_append_room (P:=P) w t ty e i ht hi g0 n cap0 cur hg ad m c ML hl M9 h1 hroom Nn;rw[hr]at hr2;cases hr2;refine⟨LJ.1,.inr ⟨g,cap,_,rfl,hbg,setRow_heap w g cur _ e _ hg,hnc,hcm,?_,?_⟩⟩
   ·simp only[List.size_toArray,Lb,List.length_take,List.length_drop,Array.length_toList]
    omega
   ·rw[Nv,<-LJ.1,List.append_assoc]
    exact List.take_left
  ·have holds:∀j u,xs[j]?=some u->w.cell? ((⟨g0,0,none⟩:Addr).add j)=some u:=LJ.cells (g:=g0) rfl
   have hr2:=run_append_grow (P:=P) w t ty e i z ht hi hz ⟨g0,0,none⟩ n cap0 xs LJ.1 holds ad m c ML hl M9 (by omega) (by omega) (growslice_fits (by omega) MP);rw[hr]at hr2;cases hr2;exact⟨LJ.1,.inr ⟨g0,cap0,cur,rfl,hbg,((World.grownBy_alloc w.drew _ none).block g0 (Array.getElem?_eq_some_iff.1 hg).1 (by simp)).trans hg,hnc,hcm,hcs,Nv⟩⟩
theorem Fj{o:Oper}{a:Act}{K:Act->World->Prop}{Q:Exit->Act->World->Prop}(s x:Operand)(t:TypeId)
 (ho:o.op=.call {callee:=.builtin .append,args:=#[s,x],argTypes:=#[t,t]})
 (base:Nat) (e:TypeId) (i:TypeInfo) (z:Value) (size bytes:Nat) (ht:P.underlying t=some (.slice e)) (hi:P.info? e=some i) (hz:i.zero=some z)
 (Ni:i.size=size) (hby:i.bytes=bytes) (hzs:z.cells.size=size) (hsz:0<size)
 (v:Value) (n:Nat) (xs:List Value) (hs:a.eval s=v) (LJ:w.ownsRow base e size v n xs)
 (ad:Addr) (m c:Nat) (ML:List Value) (hx:a.eval x=.slice (some ad) m c) (hl:ML.length=m*size) (M9:∀j u,ML[j]?=some u->w.cell? (ad.add j)=some u) (h1:∀u∈ML,u.oneCell'=true)
 (hm:0<m) (h63:n+m<=maxLen) (MP:(n+m)*bytes<=140737488355328) (Nl:base<=w.heap.size)
 (h:∀g cap w',w'.ownsRow base e size (.slice (some ⟨g,0,none⟩) (n+m) cap) (n+m) (xs++ML)->w'.ownsRow base e size v n xs->w.grownBy w' v.ownBlock->(v.ownBlock=some g\/g=w.heap.size)->g<w'.heap.size->K (a.put o.dst (.slice (some ⟨g,0,none⟩) (n+m) cap)) w'):o.wp P a w K Q:=by
 obtain⟨g,cap,w',hr,h2,h2',h3,h4,h5⟩:=D3 (P:=P) w t o.type base e i z size bytes ht hi hz Ni hby hzs hsz v n xs LJ ad m c ML hl M9 h1 hm h63 MP Nl;unfold Oper.wp execOp;simp only[ho,resolve,invoke,builtin,Sem.run_bind,Sem.run_pure,Result.andThen_ok,List.map_toArray,List.map_cons,List.map_nil,hs,hx,hr];exact h g cap w' h2 h2' h3 h4 h5
theorem qc{ops:Array Oper}{rest:List Oper}{o:Oper}{a:Act}{Q:Exit->Act->World->Prop}(hgd:o.guard=none)(s x:Operand)(t:TypeId)
 (ho:o.op=.call {callee:=.builtin .append,args:=#[s,x],argTypes:=#[t,t]})
 (base:Nat) (e:TypeId) (i:TypeInfo) (z:Value) (size bytes:Nat) (ht:P.underlying t=some (.slice e)) (hi:P.info? e=some i) (hz:i.zero=some z)
 (Ni:i.size=size) (hby:i.bytes=bytes) (hzs:z.cells.size=size) (hsz:0<size)
 (v:Value) (n:Nat) (xs:List Value) (hs:a.eval s=v) (LJ:w.ownsRow base e size v n xs)
 (ad:Addr) (m c:Nat) (ML:List Value) (hx:a.eval x=.slice (some ad) m c) (hl:ML.length=m*size) (M9:∀j u,ML[j]?=some u->w.cell? (ad.add j)=some u) (h1:∀u∈ML,u.oneCell'=true)
 (hm:0<m) (h63:n+m<=maxLen) (MP:(n+m)*bytes<=140737488355328) (Nl:base<=w.heap.size)
 (h:∀g cap w',w'.ownsRow base e size (.slice (some ⟨g,0,none⟩) (n+m) cap) (n+m) (xs++ML)->w'.ownsRow base e size v n xs->w.grownBy w' v.ownBlock->(v.ownBlock=some g\/g=w.heap.size)->g<w'.heap.size->wpList P ops Q rest (a.put o.dst (.slice (some ⟨g,0,none⟩) (n+m) cap)) w'):wpList P ops Q (o::rest) a w:=
 wpList_plain hgd fun _ hK=>Fj w s x t ho base e i z size bytes ht hi hz Ni hby hzs hsz v n xs hs LJ ad m c ML hx hl M9 h1 hm h63 MP Nl fun g cap w' h2 h2' h3 h4 h5=>hK _ _ (h g cap w' h2 h2' h3 h4 h5)
end
end Go.Proofs.YtgbloieahmkcjaaGreat
