import Derived.Test.YtadneapobijejaaGreatDoorC13
import Derived.Test.YtadneapobijejaaGreatDoorC12
import Derived.Deep.AppendLies
import Derived.Laws.OwnMore
import Derived.Deep.RegionLaw
import Derived.Deep.DrawnRows
namespace Go.Proofs.YtadneapobijejaaGreatDoor
set_option maxHeartbeats 20000000
set_option maxRecDepth 100000
open Go.RowKit Tryz
theorem KC{w w':World}{k:Nat}{o:Obj}(hb:vE w w')(h:w.heap[k]?=some o):w'.heap[k]?=some o:=(hb.block k (Ab h)).trans h
theorem Wo{w:World}{base n size g cap j:Nat}{e:TypeId}{xs:List Value}(h:w.ownsRow base e size (.slice (some ⟨g,0,none⟩) n cap) n xs)(u:Value):(w.setCell ⟨g,j,none⟩ u).ownsRow base e size (.slice (some ⟨g,0,none⟩) n cap) n (xs.set j u):=by
 rcases h.2 with⟨y,_⟩|⟨g',cap',cur,hv,hg,hh,h1,h2,h3,h4⟩
 ·cases y
 ·have e1:=(Addr.mk.inj (tY (Value.slice.inj hv).1)).1
  have e2:=(Value.slice.inj hv).2.2;subst e1 e2;exact⟨by rw[List.length_set];exact h.1,Or.inr ⟨g,cap,cur.setIfInBounds j u,rfl,hg,AI hh j u,h1,h2,by rw[Array.size_setIfInBounds];exact h3,by rw[Array.toList_setIfInBounds,List.take_set,h4]⟩⟩
def Ly(ty id:vD):Bool:=decide (ty=Ig)==decide (id=bE)
theorem Hg(w:World)(a b c:Obj):(((w.alloc a).alloc b).alloc c).heap[w.heap.size]?=some a/\(((w.alloc a).alloc b).alloc c).heap[w.heap.size+1]?=some b/\(((w.alloc a).alloc b).alloc c).heap[w.heap.size+1+1]?=some c:=by
 refine⟨?_,?_,?_⟩
 ·rw[AK _ _ _ (by simp;omega),AK _ _ _ (by simp)];exact tS w a
 ·rw[AK _ _ _ (by simp)];simpa using tS (w.alloc a) b
 ·simpa using tS ((w.alloc a).alloc b) c

theorem AX.elem{w:World}{B:Nat->Prop}{k i:Nat}{v:FV}{sh:Nat}{n:Int}{s:vD}{l:List RV}{r:RV}(h:AX w B k v (.mk sh n s l))(hi:l[i]?=some r):∃k' g f,v.la=some ⟨g,0,none⟩/\B g/\w.cell? ⟨g,i*4,none⟩=some (.int .i64 (FV.sh f))/\w.cell? ⟨g,i*4+1,none⟩=some (.int .i64 f.n)/\w.cell? ⟨g,i*4+2,none⟩=some (.string f.s)/\w.cell? ⟨g,i*4+3,none⟩=some (.slice f.la f.ln f.lc)/\AX w B k' f r:=by
 cases k with
 |zero=>obtain⟨_,_,_,h4,_⟩:=h;subst h4;simp at hi
 |succ k=>
  obtain⟨_,_,_,_,fs,h5,h6,h7⟩:=h;rcases h6 with e|⟨g,hg,ha,h6⟩
  ·subst e;simp at hi
  ·have hil:=(tP.1 hi).1
   have hf:=tN (show i<fs.length by omega);obtain⟨c0,c1,c2,c3⟩:=h6 i _ hf;exact⟨k,g,_,ha,hg,c0,c1,c2,c3,h7 i _ r hf hi⟩
theorem AX.parts{w:World}{B:Nat->Prop}{k:Nat}{v:FV}{sh:Nat}{n:Int}{s:vD}{l:List RV}(h:AX w B k v (.mk sh n s l)):v.sh=sh/\v.n=n/\v.s=s/\v.ln=l.length:=by
 cases k with
 |zero=>obtain⟨h1,h2,h3,h4,h5⟩:=h;subst h4;exact⟨h1,h2,h3,h5⟩
 |succ k=>obtain⟨h1,h2,h3,h4,_⟩:=h;exact⟨h1,h2,h3,h4⟩
theorem Oe{α:Type}{l:List α}{i:Nat}{x:α}(h:l[i]?=some x):l.drop i=x::l.drop (i+1):=by
 obtain⟨hl,rfl⟩:=tP.1 h;exact uT hl
end Go.Proofs.YtadneapobijejaaGreatDoor
