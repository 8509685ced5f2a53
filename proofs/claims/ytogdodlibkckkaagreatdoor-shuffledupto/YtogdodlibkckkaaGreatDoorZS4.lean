import Derived.Test.YtogdodlibkckkaaGreatDoorZ48
import Derived.Test.YtogdodlibkckkaaGreatDoorZ49
import Derived.Test.YtogdodlibkckkaaGreatDoorRows
import Derived.WalkKit
import Derived.ProofKit
import Derived.OpenShut
import Derived.JoinedCond
import Derived.Deep.SlicePairs
import Derived.Deep.Strs
import Derived.Lib.SmallJoins
import Derived.Carry
import Derived.Deep.DeepHandedRow
import Derived.Lib.LaidTab
namespace Go.Proofs.YtogdodlibkckkaaGreatDoor
set_option maxHeartbeats 20000000
set_option maxRecDepth 100000
open Go.ChangeShapes Go.WideShapes Go.ChangeAt Go.RowKit Go.Deep
open Go.ChangeMaps (open_string shut_string)
theorem OG{H:Type}(d:DataW H):1<=Rows.uptoBulk d:=by
 cases d with
 |lit l=>cases l<;>simp[Rows.uptoBulk]
 |nil=>simp[Rows.uptoBulk]
 |ptr d=>simp[Rows.uptoBulk]
 |slice elems spare=>simp[Rows.uptoBulk]
 |agg parts=>simp[Rows.uptoBulk]
 |iface t d=>simp[Rows.uptoBulk]
 |map entries=>simp[Rows.uptoBulk]
 |held h=>simp[Rows.uptoBulk]
theorem Up{H:Type}{d:DataW H}{l:List (DataW H)}(h:d∈l):Rows.uptoBulk d<=Rows.uptoBulkAll l:=by
 induction l with
 |nil=>cases h
 |cons x r ih=>
  simp only[Rows.uptoBulkAll];cases yE.1 h with
  |inl e=>subst e;omega
  |inr e=>have:=ih e;omega
theorem Uo{H:Type}(k:Nat)(l:List (DataW H))(h:∀d∈l,k<=Rows.uptoBulk d):l.length*k<=Rows.uptoBulkAll l:=by
 induction l with
 |nil=>simp[Rows.uptoBulkAll]
 |cons x r ih=>
  have h1:=h x (by simp);have h2:=ih (fun d hd=>h d (by simp[hd]));simp only[Rows.uptoBulkAll,xU,Nat.add_mul,Nat.one_mul];omega
theorem bX{H:Type}(s:yF):Rows.uptoBulk (DataW.lit (H:=H) (.string s.data.toList))=s.size+1:=by
 have e:s.data.toList.length=s.size:=by rw[Array.length_toList];rfl
 simp[Rows.uptoBulk,e]
theorem Tryz.flRow:∃f0 f1 f2,Tryz.prog.underlying 38=some (.struct #[f0,f1,f2])/\f0.type=9/\f1.type=9/\f2.type=36/\f0.offset=0/\f1.offset=1/\f2.offset=2:=by
 have h1:Tryz.prog.underlying 38=some (.struct (Tryz.prog.fieldsOf 38)):=by kernel_rfl
 have h2:(Tryz.prog.fieldsOf 38).toList.map (fun f=>(f.type,f.offset))=[(9,0),(9,1),(36,2)]:=by kernel_rfl
 have h3:(Tryz.prog.fieldsOf 38).size=3:=by have:=congrArg List.length h2;simpa using this
 obtain⟨f0,f1,f2,e⟩:=Joins.array3 h3;rw[e]at h1 h2;simp at h2;exact⟨f0,f1,f2,h1,h2.1.1,h2.2.1.1,h2.2.2.1,h2.1.2,h2.2.1.2,h2.2.2.2⟩
theorem Tryz.fl2{t:TypeId}(h1:Tryz.prog.underlying t=some (.struct (Tryz.prog.fieldsOf t)))(h2:(Tryz.prog.fieldsOf t).toList.map (fun f=>(f.type,f.offset))=[(9,0),(9,1)]):∃f0 f1,Tryz.prog.fieldsOf t=#[f0,f1]/\Tryz.prog.underlying t=some (.struct #[f0,f1])/\f0.type=9/\f1.type=9/\f0.offset=0/\f1.offset=1:=by
 have h3:(Tryz.prog.fieldsOf t).size=2:=by have:=congrArg List.length h2;simpa using this
 obtain⟨f0,f1,e⟩:=Joins.array2 h3;rw[e]at h1 h2;simp at h2;exact⟨f0,f1,e,h1,h2.1.1,h2.2.1,h2.1.2,h2.2.2⟩
theorem Tryz.cells9:Tryz.prog.cellsOf 9=1:=by kernel_rfl
theorem Tryz.cellsCells:Tryz.prog.cellsOf 36=1:=by kernel_rfl
theorem Tryz.cellsCell:Tryz.prog.cellsOf 41=2:=by kernel_rfl
theorem Tryz.cellsRow:Tryz.prog.cellsOf 38=3:=by kernel_rfl
theorem Tryz.cellsViewer:Tryz.prog.cellsOf 24=2:=by kernel_rfl
section
variable {H:Type} {enc:TypeId×Value->H} {w:World} {base:Nat} {spare:Nat->Bool} {held:Bool}
theorem Wb{α:Type}{n:Nat}{p:Nat->α->Prop}(h:∀i,i<n->∃x,p i x):∃l:List α,l.length=n/\∀i x,l[i]?=some x->p i x:=by
 induction n with
 |zero=>exact⟨[],rfl,fun i x hx=>by simp at hx⟩
 |succ n ih=>
  obtain⟨l,hl,hp⟩:=ih (fun i hi=>h i (by omega));obtain⟨x,hx⟩:=h n (by omega);refine⟨l++[x],by simp[hl],fun i y hy=>?_⟩;by_cases hi:i<l.length
  ·rw[xN hi]at hy;exact hp i y hy
  ·rw[xO (by omega)]at hy
   have:i=n:=by have:=(wU.1 hy).1;simp at this;omega
   subst this;rw[hl]at hy;simp at hy;subst hy;exact hx
theorem YT{a:Addr}{v:Value}(h:w.cell? a=some v):∃g off,a=⟨g,off,none⟩:=by
 obtain⟨g,off,sp⟩:=a;unfold World.cell? at h;split at h
 ·split at h
  ·cases h
  ·rename_i q;simp at q;subst q;exact⟨g,off,rfl⟩
 ·cases h
theorem Kz{fuel:Nat}{t:TypeId}{v:Value}{x:DataW H×List MemPlace}(ht:t=9)(h:DataW.trod enc Tryz.prog w base spare held fuel t [v]=some x):∃s:yF,v=.string s/\Rows.uptoBulk x.1=s.size+1/\s.size<=maxLen:=by
 subst ht;obtain⟨s,e,d,hm⟩:=DataW.trod_string Tryz.underlying9 h;subst d;exact⟨s,by simpa using e,bX s,hm⟩
theorem cE{fuel:Nat}{v:Value}{x:DataW H×List MemPlace}(h:DataW.trod enc Tryz.prog w base spare held fuel 36 [v]=some x):
 ∃l:List IN,Jr w v l/\l.length*3<=Rows.uptoBulk x.1/\∀c∈l,c.2.size<=Rows.uptoBulk x.1:=by
 obtain⟨f0,f1, -,hu,t0,t1,o0,o1⟩:=Tryz.fl2 (t:=41) (by kernel_rfl) (by kernel_rfl);rcases open_slice_pairs Tryz.underlying36 hu Tryz.cellsCell o0 o1 (by rw[t0];exact Tryz.cells9) (by rw[t1];exact Tryz.cells9) h with⟨e,_⟩|⟨a,len,cap,m,n,V0,V1,D0,D1,P0,P1,e,_,hl,_,hm,rfl,hx⟩
 ·cases e;exact⟨[],⟨none,0,rfl,wQ _,.inl rfl⟩,by simp,fun c hc=>by simp at hc⟩
 ·cases e
  have hlm:len<=m:=by rw[hm];split<;>omega
  obtain⟨l,rfl,hp⟩:=Wb (α:=IN) (n:=len) (p:=fun i c=>V0 i=.string c.1/\V1 i=.string c.2/\c.2.size+1<=Rows.uptoBulk (D1 i)) (fun i hi=>by
   obtain⟨_,_,h2,h3⟩:=hx i (by omega);obtain⟨s0,e0,_⟩:=Kz t0 h2;obtain⟨s1,e1,d1,_⟩:=Kz t1 h3;exact⟨(s0,s1),e0,e1,Nat.le_of_eq d1.symm⟩)
  refine⟨l,⟨some a,cap,rfl,hl,?_⟩,?_,fun c hc=>?_⟩
  ·by_cases h0:l=[]
   ·exact .inl h0
   ·have hlp:0<l.length:=List.length_pos_iff.2 h0
    obtain⟨g,off,rfl⟩:=YT (by simpa [Addr.add]using(hx 0 (by omega)).1);refine .inr ⟨g,off,rfl,fun j c hj=>?_⟩;have hjl:=(wU.1 hj).1;obtain⟨q0,q1,_⟩:=hp j c hj;obtain⟨r0,r1,_⟩:=hx j (by omega);rw[add_plain]at r0 r1;exact⟨by rw[r0,q0],by rw[Nat.add_assoc,r1,q1]⟩
  ·have:=Uo 3 ((List.range l.length).map fun i=>DataW.agg [D0 i,D1 i]) (fun d hd=>by
    obtain⟨i,_,rfl⟩:=List.mem_map.1 hd;have h0:=OG (D0 i);have h1:=OG (D1 i);simp only[Rows.uptoBulk,Rows.uptoBulkAll];omega)
   simp only[xT,List.length_range]at this;simp only[Rows.uptoBulk];omega
  ·obtain⟨j,hj⟩:=List.mem_iff_getElem?.1 hc
   have hjl:=(wU.1 hj).1;have h1:=(hp j c hj).2.2;have h2:=Up (show DataW.agg [D0 j,D1 j]∈(List.range l.length).map fun i=>DataW.agg [D0 i,D1 i]from List.mem_map.2 ⟨j,List.mem_range.2 hjl,rfl⟩);simp only[Rows.uptoBulk,Rows.uptoBulkAll]at h2⊢;omega
theorem tE{fuel:Nat}{v:Value}{x:DataW H×List MemPlace}(h:DataW.trod enc Tryz.prog w base spare held fuel 22 [v]=some x):
 ∃(a:Option Addr) (cap:Nat) (ys:List AY),v=.slice a ys.length cap/\Fv w v ys/\ys.length*4<=Rows.uptoBulk x.1/\∀y∈ys,y.2.1.size<=Rows.uptoBulk x.1/\y.2.2.length*3<=Rows.uptoBulk x.1/\∀c∈y.2.2,c.2.size<=Rows.uptoBulk x.1:=by
 obtain⟨f0,f1,f2,hu,t0,t1,t2,o0,o1,o2⟩:=Tryz.flRow;rcases open_slice Tryz.underlying22 h with⟨e,_⟩|⟨a,len,cap,m,n,D,Pl,e,_,hl,_,hm,rfl,hx⟩
 ·cases e;exact⟨none,0,[],rfl,⟨none,0,rfl,wQ _,.inl rfl⟩,by simp,fun c hc=>by simp at hc⟩
 ·cases e
  have hlm:len<=m:=by rw[hm];split<;>omega
  obtain⟨ys,rfl,hp⟩:=Wb (α:=AY) (n:=len) (p:=fun i y=>w.cell? (a.add (i*3))=some (.string y.1)/\w.cell? ((a.add (i*3)).add 1)=some (.string y.2.1)/\(∃u,w.cell? ((a.add (i*3)).add 2)=some u/\Jr w u y.2.2)/\4<=Rows.uptoBulk (D i)/\y.2.1.size<=Rows.uptoBulk (D i)/\y.2.2.length*3<=Rows.uptoBulk (D i)/\∀c∈y.2.2,c.2.size<=Rows.uptoBulk (D i)) (fun i hi=>by
   obtain⟨cs',h1,h2⟩:=hx i (by omega);rw[Tryz.cellsRow]at h1;obtain⟨_,hlen,hcell⟩:=World.cells?_some h1;obtain⟨y0,y1,y2,k,hxy,_,g0,g1,g2⟩:=trod_struct3 hu h2
   match cs',hlen with
   |[v0,v1,v2],_=>
    simp[o0,o1,o2,t0,t1,t2,Tryz.cells9,Tryz.cellsCells]at g0 g1 g2;have e0:=hcell 0 (by omega);have e1:=hcell 1 (by omega);have e2:=hcell 2 (by omega);obtain⟨s0,rfl,d0,_⟩:=Kz rfl g0;obtain⟨s1,rfl,d1,_⟩:=Kz rfl g1;obtain⟨l,hc,hn,ht⟩:=cE g2;have hD:D i=.agg [y0.1,y1.1,y2.1]:=congrArg Prod.fst hxy;have b2:=OG y2.1;refine⟨(s0,s1,l),by simpa [Addr.add]using e0,by simpa using e1,⟨v2,by simpa using e2,hc⟩,?_,?_,?_,fun c hc=>?_⟩<;>(rw[hD];simp only[Rows.uptoBulk,Rows.uptoBulkAll])<;>(try have:=ht c hc)<;>omega)
  refine⟨some a,cap,ys,rfl,⟨some a,cap,rfl,hl,?_⟩,?_,fun y hy=>?_⟩
  ·by_cases h0:ys=[]
   ·exact .inl h0
   ·have hlp:0<ys.length:=List.length_pos_iff.2 h0
    obtain⟨y,hy⟩:∃y,ys[0]?=some y:=⟨_,wS hlp⟩;obtain⟨g,off,rfl⟩:=YT (by simpa [Addr.add]using(hp 0 y hy).1);refine .inr ⟨g,off,rfl,fun j r hj=>?_⟩;obtain⟨q0,q1,⟨u,q2,q3⟩,_⟩:=hp j r hj;rw[add_plain]at q0 q1 q2;rw[add_plain]at q1 q2;exact⟨q0,q1,u,q2,q3⟩
  ·have:=Uo 4 ((List.range ys.length).map D) (fun d hd=>by
    obtain⟨i,hi,rfl⟩:=List.mem_map.1 hd;have hi:=List.mem_range.1 hi;exact(hp i _ (wS hi)).2.2.2.1)
   simp only[xT,List.length_range]at this;simp only[Rows.uptoBulk];omega
  ·obtain⟨j,hj⟩:=List.mem_iff_getElem?.1 hy
   have hjl:=(wU.1 hj).1;obtain⟨_,_,_,_,h1,h2,h3⟩:=hp j y hj;have hb:=Up (show D j∈(List.range ys.length).map D from List.mem_map.2 ⟨j,List.mem_range.2 hjl,rfl⟩);simp only[Rows.uptoBulk];exact⟨by omega,by omega,fun c hc=>by have:=h3 c hc;omega⟩
end
theorem kT:ownKnob Tryz.prog.godebug=none:=by kernel_rfl
theorem VQ:laidOutB Tryz.prog=true:=by kernel_rfl
theorem Tryz.cellsAsk:Tryz.prog.cellsOf 26=5:=by kernel_rfl
theorem Tryz.cells3:Tryz.prog.cellsOf 3=1:=by kernel_rfl
theorem Tryz.flAsk:∃f0 f1 f2 f3,Tryz.prog.underlying 26=some (.struct #[f0,f1,f2,f3])/\f0.type=24/\f1.type=9/\f2.type=9/\f3.type=3/\f0.offset=0/\f1.offset=2/\f2.offset=3/\f3.offset=4:=by
 have h1:Tryz.prog.underlying 26=some (.struct (Tryz.prog.fieldsOf 26)):=by kernel_rfl
 have h2:(Tryz.prog.fieldsOf 26).toList.map (fun f=>(f.type,f.offset))=[(24,0),(9,2),(9,3),(3,4)]:=by kernel_rfl
 have h3:(Tryz.prog.fieldsOf 26).size=4:=by have:=congrArg List.length h2;simpa using this
 obtain⟨f0,f1,f2,f3,e⟩:=Joins.array4 h3;rw[e]at h1 h2;simp at h2;exact⟨f0,f1,f2,f3,h1,h2.1.1,h2.2.1.1,h2.2.2.1.1,h2.2.2.2.1,h2.1.2,h2.2.1.2,h2.2.2.1.2,h2.2.2.2.2⟩
theorem aZ{α:Type}{cs:Array α}(h:cs.size=5):∃c0 c1 c2 c3 c4,cs=#[c0,c1,c2,c3,c4]:=by
 obtain⟨l⟩:=cs
 match l,h with
 |[c0,c1,c2,c3,c4],_=>exact⟨c0,c1,c2,c3,c4,rfl⟩
theorem bB{H:Type}{enc:TypeId×Value->H}{W:World}{r:Go.Reach}{b0 base:Nat}{spare:Nat->Bool}{held:Bool}{v:Value}{d:DataW H}{p:List MemPlace}(hv:Value.okWide Tryz.prog W r b0 26 v)(h:DataW.Trod enc Tryz.prog W base spare held 26 v d p):∃(role vid qt vt:yF) (b:Int),v=.agg #[.string role,.string vid,.string qt,.string vt,.int .i64 b]/\role.size<=Rows.uptoBulk d/\qt.size<=Rows.uptoBulk d/\vt.size<=Rows.uptoBulk d:=by
 obtain⟨f0,f1,f2,f3,hu,t0,t1,t2,t3,o0,o1,o2,o3⟩:=Tryz.flAsk;obtain⟨g0,g1,_,hw,s0,s1,q0,q1⟩:=Tryz.fl2 (t:=24) (by kernel_rfl) (by kernel_rfl);obtain⟨cs,rfl,hsz⟩:=okWide_struct hu hv;obtain⟨c0,c1,c2,c3,c4,rfl⟩:=aZ (hsz.trans Tryz.cellsAsk);obtain⟨fuel,hf⟩:=h;obtain⟨y0,y1,y2,y3,n,hx,_,h0,h1,h2,h3⟩:=Joins.trod_struct4 hu hf;simp only[Value.cells,t0,t1,t2,t3,o0,o1,o2,o3,Tryz.cellsViewer,Tryz.cells9,Tryz.cells3]at h0 h1 h2 h3;simp at h0 h1 h2 h3;obtain⟨z0,z1,m,hz,_,k0,k1⟩:=trod_struct2 hw h0;simp[s0,s1,q0,q1,Tryz.cells9]at k0 k1;obtain⟨role,rfl,r0,_⟩:=Kz rfl k0;obtain⟨vid,rfl,r1,_⟩:=Kz rfl k1;obtain⟨qt,rfl,r2,_⟩:=Kz rfl h1;obtain⟨vt,rfl,r3,_⟩:=Kz rfl h2;obtain⟨b,e,_⟩:=DataW.trod_int Tryz.underlying3 h3;simp at e;subst e;have hd:d=.agg [y0.1,y1.1,y2.1,y3.1]:=congrArg Prod.fst hx;have hy:y0.1=.agg [z0.1,z1.1]:=congrArg Prod.fst hz;refine⟨role,vid,qt,vt,b,rfl,?_,?_,?_⟩<;>(rw[hd];simp only[Rows.uptoBulk,Rows.uptoBulkAll,hy])<;>omega
end Go.Proofs.YtogdodlibkckkaaGreatDoor
