import Derived.Test.YtgbloieahmkcjaaGreatC39
import Derived.Test.YtgbloieahmkcjaaGreatC01
import Derived.Laws.IdiomCopy
import Derived.Tactics
import Derived.Below
namespace Go.Proofs.YtgbloieahmkcjaaGreat
set_option maxHeartbeats 20000000
set_option maxRecDepth 100000
open Go.RowKit Tryz
theorem Jp{P:Program}(w:World)(dT sT ty elem:TypeId)(size g o NI Om:Nat)(sp:Option Addr)(Oa:Nat)(hu:P.underlying dT=some (.slice elem))(hs:(P.info? elem).map (·.size)=some size):
 (Builtin.copy_ #[dT,sT] ty #[.slice (some ⟨g,o,none⟩) NI Om,.slice sp 0 Oa]).run P w=.ok (goInt 0) w:=by
 cases hq:P.info? elem with
 |none=>simp[hq]at hs
 |some i=>cases sp<;>simp[Builtin.copy_,run_underlying hu,Builtin.lenOf,Builtin.firstCells,sizeOf,typeInfo,hq,storeCells,loadCells,loadCellsFrom]
theorem Df{P:Program}{w:World}{ops:Array Oper}{rest:List Oper}{o:Oper}{a:Act}{Q:Exit->Act->World->Prop}(hgd:o.guard=none)(d s:Operand)(dT sT:TypeId)
 (ho:o.op=.call {callee:=.builtin .copy,args:=#[d,s],argTypes:=#[dT,sT]}) (elem:TypeId) (size:Nat) (hu:P.underlying dT=some (.slice elem)) (hsz:(P.info? elem).map (·.size)=some size)
 (g NI Om:Nat) (sp:Option Addr) (Np Oa:Nat) (hd:a.eval d=.slice (some ⟨g,0,none⟩) NI Om) (hs:a.eval s=.slice sp Np Oa) (hle:Np<=NI)
 (cur:Array Value) (t:TypeId) (hg:w.heap[g]?=some (.cells cur t (0,0))) (cs:List Value) (hn:cs.length=Np*size)
 (hsrc:Np=0\/∃ad,sp=some ad/\∀j v,cs[j]?=some v->w.cell? (ad.add j)=some v) (Nn:cs.length<=cur.size) (h1:∀v∈cs,v.oneCell'=true) (B:Nat) (w0:World) (hb:Below B w0 w) (hBg:B<=g)
 (h:∀w',Hi (w'.heap[g]?=some (.cells (cs++cur.toList.drop cs.length).toArray t (0,0)))->Below B w0 w'->w'.heap.size=w.heap.size->(∀k,k≠g->w'.heap[k]?=w.heap[k]?)->wpList P ops Q rest (a.put o.dst (goInt Np)) w'):
 wpList P ops Q (o::rest) a w:=by
 refine wpList_plain hgd fun K hK=>?_;by_cases h0:Np=0
 ·subst h0
  have Oc:=Jp (P:=P) w dT sT o.type elem size g 0 NI Om sp Oa hu hsz;have hc:cs=[]:=KZ (by simpa using hn);subst hc;unfold Oper.wp;simp[execOp,ho,resolve,invoke,builtin,hd,hs,Oc,Result.andThen];exact hK _ _ (h w (show _=_ by simpa using hg) hb rfl (fun _ _=>rfl))
 ·obtain⟨ad,rfl,hsr⟩:=hsrc.resolve_left h0
  have Oc:=FG (P:=P) w dT sT o.type elem size g 0 NI Om ad Np Oa Np cur t cs hu hsz hg (by simp[hle]) hn hsr (by simpa using Nn) h1;unfold Oper.wp;simp[execOp,ho,resolve,invoke,builtin,hd,hs,Oc,Result.andThen];refine hK _ _ (h _ (show _=_ by simpa using setRow_heap w g cur _ t _ hg) (hb.trans ⟨rfl,rfl,rfl,by simp[World.setRow],fun k hk=>setRow_other w g k _ (by omega)⟩) (by simp[World.setRow]) (fun k hk=>setRow_other w g k _ hk))
end Go.Proofs.YtgbloieahmkcjaaGreat
