import Derived.Test.YtogdodlibkckkaaGreatDoorZ13
import Derived.Test.YtogdodlibkckkaaGreatDoorZ12
import Derived.Deep.AppendLies
import Derived.Laws.OwnMore
import Derived.Deep.RegionLaw
import Derived.Deep.DrawnRows
namespace Go.Proofs.YtogdodlibkckkaaGreatDoor
set_option maxHeartbeats 20000000
set_option maxRecDepth 100000
open Go.RowKit Tryz
theorem KW{w w':World}{k:Nat}{o:Obj}(hb:yG w w')(a:w.heap[k]?=some o):w'.heap[k]?=some o:=(hb.block k (Ab a)).trans a
theorem Xu{w:World}{base n size g cap j:Nat}{e:TypeId}{c:List Value}(a:w.ownsRow base e size (.slice (some ⟨g,0,none⟩) n cap) n c)(u:Value):(w.setCell ⟨g,j,none⟩ u).ownsRow base e size (.slice (some ⟨g,0,none⟩) n cap) n (c.set j u):=by
 rcases a.2 with⟨y,_⟩|⟨s,r,d,b,p,q,i,k,l,m⟩
 ·cases y
 ·have f:=(Addr.mk.inj (xD (Value.slice.inj b).1)).1
  have h:=(Value.slice.inj b).2.2;subst f h;exact⟨by rw[List.length_set];exact a.1,Or.inr ⟨g,cap,d.setIfInBounds j u,rfl,p,AI q j u,i,k,by rw[Array.size_setIfInBounds];exact l,by rw[Array.toList_setIfInBounds,List.take_set,m]⟩⟩
def LZ(a id:yF):Bool:=decide (a=Iu)==decide (id=bE)
theorem Ht(w:World)(a b c:Obj):(((w.alloc a).alloc b).alloc c).heap[w.heap.size]?=some a/\(((w.alloc a).alloc b).alloc c).heap[w.heap.size+1]?=some b/\(((w.alloc a).alloc b).alloc c).heap[w.heap.size+1+1]?=some c:=by
 refine⟨?_,?_,?_⟩
 ·rw[AJ _ _ _ (by simp;omega),AJ _ _ _ (by simp)];exact wX w a
 ·rw[AJ _ _ _ (by simp)];simpa using wX (w.alloc a) b
 ·simpa using wX ((w.alloc a).alloc b) c

theorem Ba.elem{w:World}{B:Nat->Prop}{k i:Nat}{v:FV}{sh:Nat}{n:Int}{s:yF}{l:List RV}{r:RV}(c:Ba w B k v (.mk sh n s l))(a:l[i]?=some r):∃q g f,v.la=some ⟨g,0,none⟩/\B g/\w.cell? ⟨g,i*4,none⟩=some (.int .i64 (FV.sh f))/\w.cell? ⟨g,i*4+1,none⟩=some (.int .i64 f.n)/\w.cell? ⟨g,i*4+2,none⟩=some (.string f.s)/\w.cell? ⟨g,i*4+3,none⟩=some (.slice f.la f.ln f.lc)/\Ba w B q f r:=by
 cases k with
 |zero=>obtain⟨_,_,_,h,_⟩:=c;subst h;simp at a
 |succ k=>
  obtain⟨_,_,_,_,fs,t,b,j⟩:=c;rcases b with e|⟨g,p,m,b⟩
  ·subst e;simp at a
  ·have u:=(wU.1 a).1
   have d:=wS (show i<fs.length by omega);obtain⟨c0,c1,c2,c3⟩:=b i _ d;exact⟨k,g,_,m,p,c0,c1,c2,c3,j i _ r d a⟩
theorem Ba.parts{w:World}{B:Nat->Prop}{k:Nat}{v:FV}{sh:Nat}{n:Int}{s:yF}{l:List RV}(e:Ba w B k v (.mk sh n s l)):v.sh=sh/\v.n=n/\v.s=s/\v.ln=l.length:=by
 cases k with
 |zero=>obtain⟨a,b,c,d,f⟩:=e;subst d;exact⟨a,b,c,f⟩
 |succ k=>obtain⟨a,b,c,d,_⟩:=e;exact⟨a,b,c,d⟩
theorem ON{α:Type}{l:List α}{i:Nat}{x:α}(a:l[i]?=some x):l.drop i=x::l.drop (i+1):=by
 obtain⟨b,rfl⟩:=wU.1 a;exact xX b
end Go.Proofs.YtogdodlibkckkaaGreatDoor
