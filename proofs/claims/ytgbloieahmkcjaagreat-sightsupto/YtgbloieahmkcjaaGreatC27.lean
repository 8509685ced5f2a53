import Derived.Test.YtgbloieahmkcjaaGreatC26
import Derived.Test.YtgbloieahmkcjaaGreatRows
import Derived.WalkKit
import Derived.ProofKit
import Derived.OpenShut
import Derived.JoinedCond
import Derived.Deep.SlicePairs
import Derived.Deep.Strs
import Derived.Lib.SmallJoins
import Derived.Carry
namespace Go.Proofs.YtgbloieahmkcjaaGreat
set_option maxHeartbeats 20000000
set_option maxRecDepth 100000
open Go.ChangeShapes Go.WideShapes Go.ChangeAt Go.RowKit Go.Deep Go.Proofs.Tryz
open Go.ChangeMaps (open_string shut_string)
theorem tR{H:Type}(d:DataW H):1<=Rows.uptoBulk d:=by
 cases d with
 |lit l=>cases l<;>simp[Rows.uptoBulk]
 |nil=>simp[Rows.uptoBulk]
 |ptr d=>simp[Rows.uptoBulk]
 |slice elems spare=>simp[Rows.uptoBulk]
 |agg parts=>simp[Rows.uptoBulk]
 |iface t d=>simp[Rows.uptoBulk]
 |map entries=>simp[Rows.uptoBulk]
 |held h=>simp[Rows.uptoBulk]
theorem Cc{H:Type}{d:DataW H}{l:List (DataW H)}(h:d∈l):Rows.uptoBulk d<=Rows.uptoBulkAll l:=by
 induction l with
 |nil=>cases h
 |cons x r ih=>
  simp only[Rows.uptoBulkAll];cases List.mem_cons.1 h with
  |inl e=>subst e;omega
  |inr e=>have:=ih e;omega
theorem CY{H:Type}(k:Nat)(l:List (DataW H))(h:∀d∈l,k<=Rows.uptoBulk d):l.length*k<=Rows.uptoBulkAll l:=by
 induction l with
 |nil=>simp[Rows.uptoBulkAll]
 |cons x r ih=>
  have h1:=h x (by simp);have h2:=ih (fun d hd=>h d (by simp[hd]));simp only[Rows.uptoBulkAll,Lm,Nat.add_mul,Nat.one_mul];omega
theorem J7{H:Type}(s:Ls):Rows.uptoBulk (DataW.lit (H:=H) (.string s.data.toList))=s.size+1:=by
 have e:s.data.toList.length=s.size:=by rw[Array.length_toList];rfl
 simp[Rows.uptoBulk,e]
theorem fl37:∃f0 f1 f2,prog.underlying 37=some (.struct #[f0,f1,f2])/\f0.type=9/\f1.type=9/\f2.type=35/\f0.offset=0/\f1.offset=1/\f2.offset=2:=by
 have h1:prog.underlying 37=some (.struct (prog.fieldsOf 37)):=by kernel_rfl
 have h2:(prog.fieldsOf 37).toList.map (fun f=>(f.type,f.offset))=[(9,0),(9,1),(35,2)]:=by kernel_rfl
 have h3:(prog.fieldsOf 37).size=3:=by have:=congrArg List.length h2;simpa using this
 obtain⟨f0,f1,f2,e⟩:=Joins.array3 h3;rw[e]at h1 h2;simp at h2;exact⟨f0,f1,f2,h1,h2.1.1,h2.2.1.1,h2.2.2.1,h2.1.2,h2.2.1.2,h2.2.2.2⟩
theorem fl2{t:TypeId}(h1:prog.underlying t=some (.struct (prog.fieldsOf t)))(h2:(prog.fieldsOf t).toList.map (fun f=>(f.type,f.offset))=[(9,0),(9,1)]):∃f0 f1,prog.fieldsOf t=#[f0,f1]/\prog.underlying t=some (.struct #[f0,f1])/\f0.type=9/\f1.type=9/\f0.offset=0/\f1.offset=1:=by
 have h3:(prog.fieldsOf t).size=2:=by have:=congrArg List.length h2;simpa using this
 obtain⟨f0,f1,e⟩:=Joins.array2 h3;rw[e]at h1 h2;simp at h2;exact⟨f0,f1,e,h1,h2.1.1,h2.2.1,h2.1.2,h2.2.2⟩
theorem cells9:prog.cellsOf 9=1:=by kernel_rfl
theorem cells35:prog.cellsOf 35=1:=by kernel_rfl
theorem cells34:prog.cellsOf 34=2:=by kernel_rfl
theorem cells37:prog.cellsOf 37=3:=by kernel_rfl
theorem cells25:prog.cellsOf 25=2:=by kernel_rfl
section
variable {H:Type} {enc:TypeId×Value->H} {w:World} {base:Nat} {spare:Nat->Bool} {held:Bool}
theorem BW{α:Type}{n:Nat}{p:Nat->α->Prop}(h:∀i,i<n->∃x,p i x):∃l:List α,l.length=n/\∀i x,l[i]?=some x->p i x:=by
 induction n with
 |zero=>exact⟨[],rfl,fun i x hx=>by simp at hx⟩
 |succ n ih=>
  obtain⟨l,hl,hp⟩:=ih (fun i hi=>h i (by omega));obtain⟨x,hx⟩:=h n (by omega);refine⟨l++[x],by simp[hl],fun i y hy=>?_⟩;by_cases hi:i<l.length
  ·rw[Lf hi]at hy;exact hp i y hy
  ·rw[Lg (by omega)]at hy
   have:i=n:=by have:=(KO.1 hy).1;simp at this;omega
   subst this;rw[hl]at hy;simp at hy;subst hy;exact hx
theorem xP{a:Addr}{v:Value}(h:w.cell? a=some v):∃g off,a=⟨g,off,none⟩:=by
 obtain⟨g,off,sp⟩:=a;unfold World.cell? at h;split at h
 ·split at h
  ·cases h
  ·rename_i q;simp at q;subst q;exact⟨g,off,rfl⟩
 ·cases h
theorem qF{fuel:Nat}{t:TypeId}{v:Value}{x:DataW H×List MemPlace}(ht:t=9)(h:DataW.trod enc prog w base spare held fuel t [v]=some x):∃s:Ls,v=.string s/\Rows.uptoBulk x.1=s.size+1/\s.size<=maxLen:=by
 subst ht;obtain⟨s,e,d,hm⟩:=DataW.trod_string underlying9 h;subst d;exact⟨s,by simpa using e,J7 s,hm⟩
theorem EX{fuel:Nat}{v:Value}{x:DataW H×List MemPlace}(h:DataW.trod enc prog w base spare held fuel 35 [v]=some x):
 ∃l:List dd,kK w v l/\l.length*3<=Rows.uptoBulk x.1/\∀c∈l,c.2.size<=Rows.uptoBulk x.1:=by
 obtain⟨f0,f1, -,hu,t0,t1,o0,o1⟩:=fl2 (t:=34) (by kernel_rfl) (by kernel_rfl);rcases open_slice_pairs underlying35 hu cells34 o0 o1 (by rw[t0];exact cells9) (by rw[t1];exact cells9) h with⟨e,_⟩|⟨a,len,cap,m,n,V0,V1,D0,D1,P0,P1,e,_,hl,_,hm,rfl,hx⟩
 ·cases e;exact⟨[],⟨none,0,rfl,KK _,.inl rfl⟩,by simp,fun c hc=>by simp at hc⟩
 ·cases e
  have hlm:len<=m:=by rw[hm];split<;>omega
  obtain⟨l,rfl,hp⟩:=BW (α:=dd) (n:=len) (p:=fun i c=>V0 i=.string c.1/\V1 i=.string c.2/\c.2.size+1<=Rows.uptoBulk (D1 i)) (fun i hi=>by
   obtain⟨_,_,h2,h3⟩:=hx i (by omega);obtain⟨s0,e0,_⟩:=qF t0 h2;obtain⟨s1,e1,d1,_⟩:=qF t1 h3;exact⟨(s0,s1),e0,e1,Nat.le_of_eq d1.symm⟩)
  refine⟨l,⟨some a,cap,rfl,hl,?_⟩,?_,fun c hc=>?_⟩
  ·by_cases h0:l=[]
   ·exact .inl h0
   ·have hlp:0<l.length:=List.length_pos_iff.2 h0
    obtain⟨g,off,rfl⟩:=xP (by simpa [Addr.add]using(hx 0 (by omega)).1);refine .inr ⟨g,off,rfl,fun j c hj=>?_⟩;have hjl:=(KO.1 hj).1;obtain⟨q0,q1,_⟩:=hp j c hj;obtain⟨r0,r1,_⟩:=hx j (by omega);rw[add_plain]at r0 r1;exact⟨by rw[r0,q0],by rw[Nat.add_assoc,r1,q1]⟩
  ·have:=CY 3 ((List.range l.length).map fun i=>DataW.agg [D0 i,D1 i]) (fun d hd=>by
    obtain⟨i,_,rfl⟩:=List.mem_map.1 hd;have h0:=tR (D0 i);have h1:=tR (D1 i);simp only[Rows.uptoBulk,Rows.uptoBulkAll];omega)
   simp only[Ll,List.length_range]at this;simp only[Rows.uptoBulk];omega
  ·obtain⟨j,hj⟩:=List.mem_iff_getElem?.1 hc
   have hjl:=(KO.1 hj).1;have h1:=(hp j c hj).2.2;have h2:=Cc (show DataW.agg [D0 j,D1 j]∈(List.range l.length).map fun i=>DataW.agg [D0 i,D1 i]from List.mem_map.2 ⟨j,List.mem_range.2 hjl,rfl⟩);simp only[Rows.uptoBulk,Rows.uptoBulkAll]at h2⊢;omega
theorem Ds{fuel:Nat}{v:Value}{x:DataW H×List MemPlace}(h:DataW.trod enc prog w base spare held fuel 23 [v]=some x):
 ∃(a:Option Addr) (cap:Nat) (ys:List bo),v=.slice a ys.length cap/\eM w v ys/\ys.length*4<=Rows.uptoBulk x.1/\∀y∈ys,y.2.1.size<=Rows.uptoBulk x.1/\y.2.2.length*3<=Rows.uptoBulk x.1/\∀c∈y.2.2,c.2.size<=Rows.uptoBulk x.1:=by
 obtain⟨f0,f1,f2,hu,t0,t1,t2,o0,o1,o2⟩:=fl37;rcases open_slice underlying23 h with⟨e,_⟩|⟨a,len,cap,m,n,D,Pl,e,_,hl,_,hm,rfl,hx⟩
 ·cases e;exact⟨none,0,[],rfl,⟨none,0,rfl,KK _,.inl rfl⟩,by simp,fun c hc=>by simp at hc⟩
 ·cases e
  have hlm:len<=m:=by rw[hm];split<;>omega
  obtain⟨ys,rfl,hp⟩:=BW (α:=bo) (n:=len) (p:=fun i y=>w.cell? (a.add (i*3))=some (.string y.1)/\w.cell? ((a.add (i*3)).add 1)=some (.string y.2.1)/\(∃u,w.cell? ((a.add (i*3)).add 2)=some u/\kK w u y.2.2)/\4<=Rows.uptoBulk (D i)/\y.2.1.size<=Rows.uptoBulk (D i)/\y.2.2.length*3<=Rows.uptoBulk (D i)/\∀c∈y.2.2,c.2.size<=Rows.uptoBulk (D i)) (fun i hi=>by
   obtain⟨cs',h1,h2⟩:=hx i (by omega);rw[cells37]at h1;obtain⟨_,Me,LQ⟩:=World.cells?_some h1;obtain⟨y0,y1,y2,k,hxy,_,g0,g1,g2⟩:=trod_struct3 hu h2
   match cs',Me with
   |[v0,v1,v2],_=>
    simp[o0,o1,o2,t0,t1,t2,cells9,cells35]at g0 g1 g2;have e0:=LQ 0 (by omega);have e1:=LQ 1 (by omega);have e2:=LQ 2 (by omega);obtain⟨s0,rfl,d0,_⟩:=qF rfl g0;obtain⟨s1,rfl,d1,_⟩:=qF rfl g1;obtain⟨l,hc,hn,ht⟩:=EX g2;have hD:D i=.agg [y0.1,y1.1,y2.1]:=congrArg Prod.fst hxy;have b2:=tR y2.1;refine⟨(s0,s1,l),by simpa [Addr.add]using e0,by simpa using e1,⟨v2,by simpa using e2,hc⟩,?_,?_,?_,fun c hc=>?_⟩<;>(rw[hD];simp only[Rows.uptoBulk,Rows.uptoBulkAll])<;>(try have:=ht c hc)<;>omega)
  refine⟨some a,cap,ys,rfl,⟨some a,cap,rfl,hl,?_⟩,?_,fun y hy=>?_⟩
  ·by_cases h0:ys=[]
   ·exact .inl h0
   ·have hlp:0<ys.length:=List.length_pos_iff.2 h0
    obtain⟨y,hy⟩:∃y,ys[0]?=some y:=⟨_,KM hlp⟩;obtain⟨g,off,rfl⟩:=xP (by simpa [Addr.add]using(hp 0 y hy).1);refine .inr ⟨g,off,rfl,fun j r hj=>?_⟩;obtain⟨q0,q1,⟨u,q2,q3⟩,_⟩:=hp j r hj;rw[add_plain]at q0 q1 q2;rw[add_plain]at q1 q2;exact⟨q0,q1,u,q2,q3⟩
  ·have:=CY 4 ((List.range ys.length).map D) (fun d hd=>by
    obtain⟨i,hi,rfl⟩:=List.mem_map.1 hd;have hi:=List.mem_range.1 hi;exact(hp i _ (KM hi)).2.2.2.1)
   simp only[Ll,List.length_range]at this;simp only[Rows.uptoBulk];omega
  ·obtain⟨j,hj⟩:=List.mem_iff_getElem?.1 hy
   have hjl:=(KO.1 hj).1;obtain⟨_,_,_,_,h1,h2,h3⟩:=hp j y hj;have hb:=Cc (show D j∈(List.range ys.length).map D from List.mem_map.2 ⟨j,List.mem_range.2 hjl,rfl⟩);simp only[Rows.uptoBulk];exact⟨by omega,by omega,fun c hc=>by have:=h3 c hc;omega⟩
end
end Go.Proofs.YtgbloieahmkcjaaGreat
