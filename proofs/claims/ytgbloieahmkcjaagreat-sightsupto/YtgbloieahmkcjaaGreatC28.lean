import Derived.Test.YtgbloieahmkcjaaGreatC22
import Derived.Test.YtgbloieahmkcjaaGreatC18
import Derived.Deep.RegionLaw
import Derived.Deep.AppendLies
import Derived.Deep.DrawnRows
namespace Go.Proofs.YtgbloieahmkcjaaGreat
set_option maxHeartbeats 20000000
set_option maxRecDepth 100000
open Go.RowKit Tryz
structure cy where
 d:Nat
 id:Ls
 names:List Ls
 vals:List RV
def oE(w:World)(B:Nat->Prop)(fs:List FV)(vs:List RV):Prop:=fs.length=vs.length/\∀(i:Nat) (f:FV) (v:RV),fs[i]?=some f->vs[i]?=some v->bI w B 1603 f v
structure pT(w:World)(vN vV:Value)(r:cy)(fs:List FV):Prop where
 n:cH w vN r.names
 v:n7 w vV fs
 l:oE w (fun g=>g<w.heap.size) fs r.vals
 e:r.vals.length=r.names.length
theorem oE.below{w w':World}{fs:List FV}{vs:List RV}(h:oE w (fun g=>g<w.heap.size) fs vs)(hb:Lt w w'):oE w' (fun g=>g<w'.heap.size) fs vs:=
 ⟨h.1,fun i f v hf hv=>(h.2 i f v hf hv).frame (fun _ hg o=>hb.cell (p:=⟨_,o,none⟩) hg) (fun _ hg=>KV hg hb.size)⟩
theorem pT.below{w w':World}{vN vV:Value}{r:cy}{fs:List FV}(h:pT w vN vV r fs)(hb:Lt w w'):pT w' vN vV r fs:=⟨h.n.below hb,h.v.below hb,h.l.below hb,h.e⟩
def uh(w:World)(B:Nat->Prop)(v:Value)(l:List Ls):Prop:=∃a cap,v=.slice a l.length cap/\l.length<=cap/\(l=[]\/∃g off,B g/\a=some ⟨g,off,none⟩/\∀j x,l[j]?=some x->w.cell? ⟨g,off+j,none⟩=some (.string x))
def yQ(w:World)(B:Nat->Prop)(v:Value)(l:List FV):Prop:=∃a cap,v=.slice a l.length cap/\l.length<=cap/\(l=[]\/∃g off,B g/\a=some ⟨g,off,none⟩/\∀j c,l[j]?=some c->w.cell? ⟨g,off+j*4,none⟩=some (.int .i64 c.sh)/\w.cell? ⟨g,off+j*4+1,none⟩=some (.int .i64 c.n)/\w.cell? ⟨g,off+j*4+2,none⟩=some (.string c.s)/\w.cell? ⟨g,off+j*4+3,none⟩=some (.slice c.la c.ln c.lc))
structure kN(w:World)(B:Nat->Prop)(vN vV:Value)(r:cy)(fs:List FV):Prop where
 n:uh w B vN r.names
 v:yQ w B vV fs
 l:oE w B fs r.vals
 e:r.vals.length=r.names.length
theorem kN.frame{w w':World}{B B':Nat->Prop}{vN vV:Value}{r:cy}{fs:List FV}(h:kN w B vN vV r fs)(hc:∀g,B g->∀o,w'.cell? ⟨g,o,none⟩=w.cell? ⟨g,o,none⟩)(hB:∀g,B g->B' g):kN w' B' vN vV r fs:=by
 obtain⟨⟨a,cap,h1,h2,h3⟩,⟨a',LM,k1,k2,k3⟩,hl,he⟩:=h;refine⟨⟨a,cap,h1,h2,h3.imp (fun e=>e) ?_⟩,⟨a',LM,k1,k2,k3.imp (fun e=>e) ?_⟩,⟨hl.1,fun i f v hf hv=>(hl.2 i f v hf hv).frame hc hB⟩,he⟩
 ·rintro⟨g,off,hg,ha,hh⟩
  exact⟨g,off,hB g hg,ha,fun j x hj=>by rw[hc g hg];exact hh j x hj⟩
 ·rintro⟨g,off,hg,ha,hh⟩
  exact⟨g,off,hB g hg,ha,fun j x hj=>by rw[hc g hg,hc g hg,hc g hg,hc g hg];exact hh j x hj⟩
theorem kN.at{w:World}{B:Nat->Prop}{vN vV:Value}{r:cy}{fs:List FV}(h:kN w B vN vV r fs)(hB:∀g,B g->g<w.heap.size):pT w vN vV r fs:=by
 obtain⟨⟨a,cap,h1,h2,h3⟩,⟨a',LM,k1,k2,k3⟩,hl,he⟩:=h;refine⟨⟨a,cap,h1,h2,h3.imp (fun e=>e) ?_⟩,⟨a',LM,k1,k2,k3.imp (fun e=>e) ?_⟩,⟨hl.1,fun i f v hf hv=>(hl.2 i f v hf hv).frame (fun _ _ _=>rfl) hB⟩,he⟩
 ·rintro⟨g,off,hg,ha,hh⟩;exact⟨g,off,ha,hh⟩
 ·rintro⟨g,off,hg,ha,hh⟩;exact⟨g,off,ha,hh⟩
theorem uh.of_own{w:World}{base:Nat}{B:Nat->Prop}{v:Value}{l:List Ls}(h:w.ownsRow base 9 1 v l.length (bt l))(hB:∀g,v.ownBlock=some g->B g):uh w B v l:=by
 rcases h.2 with⟨hv,h0⟩|⟨g,cap,cur,hv,hg,hh,hr⟩
 ·exact⟨none,0,by rw[hv,h0],by omega,Or.inl (KZ h0)⟩
 ·subst hv
  refine⟨some ⟨g,0,none⟩,cap,rfl,hr.1,Or.inr ⟨g,0,hB g rfl,rfl,fun j x hj=>?_⟩⟩;have hjl:j<l.length:=(KO.1 hj).1;rw[Nat.zero_add,h.cellAt j (by omega)];simp[bt,hj]
def xy(LS:List bj)(n:Ls):Bool:=match LS[(ah (LS.map bj.name) n).toNat]? with
 |some f=>decide (f.arg=ik)
 |none=>false
def ql(LS:List bj)(seen:List Ls)(c:dd):Bool:=jV c.2&&(!ba c.1 seen&&(decide (0<=ah (LS.map bj.name) c.1)&&!xy LS c.1))
def ly(LS:List bj):List Ls->List dd->Bool
 |_,[]=>true
 |seen,c::cs=>ql LS seen c&&ly LS (seen++[c.1]) cs
def nt(ty id:Ls):Bool:=decide (ty=kC)==decide (id=bE)
def il(Lv:List ap)(y:bo):Bool:=match Lv[(ah (Lv.map ap.name) y.1).toNat]? with
 |some d=>decide (0<=ah (Lv.map ap.name) y.1)&&(decide (d.sort=0)&&(nt y.1 y.2.1&&ly d.fields [] y.2.2))
 |none=>false
def bO(Lv:List ap)(y:bo):cy:=⟨(ah (Lv.map ap.name) y.1).toNat,y.2.1,y.2.2.map (·.1),y.2.2.map (fun c=>du c.2)⟩
theorem yB{Lv:List ap}{y:bo}(h:ah (Lv.map ap.name) y.1<0):il Lv y=false:=by
 unfold il;split
 ·rw[KT (by omega)];rfl
 ·rfl
theorem uS{Lv:List ap}{y:bo}{k:Nat}{d:ap}(h:ah (Lv.map ap.name) y.1=k)(hd:Lv[k]?=some d):il Lv y=(decide (d.sort=0)&&(nt y.1 y.2.1&&ly d.fields [] y.2.2)):=by
 unfold il;rw[h,Lk,hd];simp
theorem uQ(w:World)(a b c:Obj):(((w.alloc a).alloc b).alloc c).heap[w.heap.size]?=some a/\(((w.alloc a).alloc b).alloc c).heap[w.heap.size+1]?=some b/\(((w.alloc a).alloc b).alloc c).heap[w.heap.size+1+1]?=some c:=by
 refine⟨?_,?_,?_⟩
 ·rw[bp _ _ _ (by simp;omega),bp _ _ _ (by simp)];exact KS w a
 ·rw[bp _ _ _ (by simp)];simpa using KS (w.alloc a) b
 ·simpa using KS ((w.alloc a).alloc b) c
def wM:cy:=⟨0,⟨#[]⟩,[],[]⟩
theorem yD(w:World)(B:Nat->Prop):kN w B (.slice none 0 0) (.slice none 0 0) wM []:=
 ⟨⟨none,0,rfl,KK _,Or.inl rfl⟩,⟨none,0,rfl,KK _,Or.inl rfl⟩,⟨rfl,fun i f v hf _=>by simp at hf⟩,rfl⟩
theorem ET{α:Type}{l:List α}{i:Nat}{x:α}(h:l[i]?=some x):l.drop i=x::l.drop (i+1):=by
 obtain⟨hl,rfl⟩:=KO.1 h;exact Lq hl
structure ni(w:World)(B0:Nat)(vN vV:Value)(fs:List FV)(vs:List RV):Prop where
 own:w.ownsRow B0 119 4 vV fs.length (fs.flatMap lD)
 sub:oE w (fun g=>B0<=g/\g<w.heap.size/\vV.ownBlock≠some g/\vN.ownBlock≠some g) fs vs
 ne:∀g,vV.ownBlock=some g->vN.ownBlock≠some g
theorem ni.far{w x:World}{B0:Nat}{vN vN' vV:Value}{fs:List FV}{vs:List RV}(h:ni w B0 vN vV fs vs)(hf:∀k,B0<=k->k<w.heap.size->vN.ownBlock≠some k->x.heap[k]?=w.heap[k]?)(hs:w.heap.size<=x.heap.size)(hn:∀g,vN'.ownBlock=some g->vN.ownBlock=some g\/w.heap.size<=g):ni x B0 vN' vV fs vs:=by
 have hno:∀g,g<w.heap.size->vN.ownBlock≠some g->vN'.ownBlock≠some g:=fun g hg h1 h2=>by
  rcases hn g h2 with q|q
  ·exact h1 q
  ·omega
 refine⟨⟨h.own.1,?_⟩,⟨h.sub.1,fun i f v hi hv=>(h.sub.2 i f v hi hv).frame (fun g hg o=>World.cell?_of_block (a:=⟨g,o,none⟩) (hf g hg.1 hg.2.1 hg.2.2.2)) (fun g hg=>⟨hg.1,KV hg.2.1 hs,hg.2.2.1,hno g hg.2.1 hg.2.2.2⟩)⟩,fun g hg=>hno g (ep h.own g hg) (h.ne g hg)⟩;rcases h.own.2 with e|⟨g,cap,cur,hv,hg,hh,r⟩
 ·exact Or.inl e
 ·exact Or.inr ⟨g,cap,cur,hv,hg,(hf g hg (ag hh) (h.ne g (by rw[hv];rfl))).trans hh,r⟩
theorem ni.push{w x:World}{B0 g' LM:Nat}{vN vV:Value}{fs:List FV}{vs:List RV}{f:FV}{v:RV}(h:ni w B0 vN vV fs vs)(hv:bI w (fun g=>B0<=g/\g<w.heap.size/\vV.ownBlock≠some g/\vN.ownBlock≠some g) 1603 f v)
 (LJ:x.ownsRow B0 119 4 (.slice (some ⟨g',0,none⟩) (fs.length+1) LM) (fs.length+1) (fs.flatMap lD++lD f)) (Nf:∀k,B0<=k->k<w.heap.size->vV.ownBlock≠some k->x.heap[k]?=w.heap[k]?) (hwh:vV.ownBlock=some g'\/w.heap.size<=g') (hs:w.heap.size<=x.heap.size) (hnl:∀g,vN.ownBlock=some g->g<w.heap.size):
 ni x B0 vN (.slice (some ⟨g',0,none⟩) (fs.length+1) LM) (fs++[f]) (vs++[v]):=by
 have hfr:∀{f:FV} {v:RV},bI w (fun g=>B0<=g/\g<w.heap.size/\vV.ownBlock≠some g/\vN.ownBlock≠some g) 1603 f v->bI x (fun g=>B0<=g/\g<x.heap.size/\(Value.slice (some ⟨g',0,none⟩) (fs.length+1) LM).ownBlock≠some g/\vN.ownBlock≠some g) 1603 f v:=fun hh=>
  hh.frame (fun g hg o=>World.cell?_of_block (a:=⟨g,o,none⟩) (Nf g hg.1 hg.2.1 hg.2.2.1)) (fun g hg=>⟨hg.1,KV hg.2.1 hs,fun e=>by
   have e':g'=g:=KY e;rcases hwh with q|q
   ·exact hg.2.2.1 (by rw[<-e'];exact q)
   ·have:=hg.2.1;omega,hg.2.2.2⟩)
 refine⟨by rw[Lb,List.flatMap_append];simpa using LJ,⟨by simp[h.sub.1],fun i a b hi hb=>?_⟩,fun g e q=>?_⟩
 ·rcases Nat.lt_or_ge i fs.length with hlt|hge
  ·rw[Lf hlt]at hi
   rw[Lf (by rw[<-h.sub.1];exact hlt)]at hb;exact hfr (h.sub.2 i a b hi hb)
  ·have hi2:i=fs.length:=by have:=(KO.1 hi).1;simp at this;omega
   subst hi2;have e1:a=f:=by simpa using hi.symm
   have e2:b=v:=by rw[h.sub.1]at hb;simpa using hb.symm
   subst e1 e2;exact hfr hv
 ·have e':g'=g:=KY e
  rcases hwh with r|r
  ·exact h.ne g (by rw[<-e'];exact r) q
  ·have:=hnl g q;omega
theorem ni.vals{w:World}{B0:Nat}{vN vV:Value}{fs:List FV}{vs:List RV}(h:ni w B0 vN vV fs vs){B:Nat->Prop}(hB:∀g,B0<=g->g<w.heap.size->B g):yQ w B vV fs/\oE w B fs vs:=by
 refine⟨?_,h.sub.1,fun i f v hf hv=>(h.sub.2 i f v hf hv).frame (fun _ _ _=>rfl) (fun g hg=>hB g hg.1 hg.2.1)⟩;rcases h.own.2 with⟨hv,h0⟩|⟨g,cap,cur,hv,hg,hh,hr⟩
 ·exact⟨none,0,by rw[hv,h0],by omega,Or.inl (KZ h0)⟩
 ·refine⟨some ⟨g,0,none⟩,cap,hv,hr.1,Or.inr ⟨g,0,hB g hg (ag hh),rfl,fun j c hj=>?_⟩⟩
  subst hv;have hjl:j<fs.length:=(KO.1 hj).1;have q:∀i,i<4->w.cell? ⟨g,0+j*4+i,none⟩=(lD c)[i]?:=fun i hi=>by
   rw[Nat.zero_add,h.own.cellAt _ (by omega)];exact wu fs j c i hj hi
  exact⟨q 0 (by omega),q 1 (by omega),q 2 (by omega),q 3 (by omega)⟩
theorem E7(aR:Option Addr)(nR cR:Nat)(aD:Option Addr)(cD:Nat)(Lv:List ap)(aC:Option Addr)(cC:Nat)(y:bo)(w:World)(hD:i5 w (.slice aD Lv.length cD) Lv)(hC:kK w (.slice aC y.2.2.length cC) y.2.2)
 (hdl:Lv.length<=801) (hfl:∀d∈Lv,d.fields.length<=801) (hcl:y.2.2.length<=1000000) (hts:∀c∈y.2.2,c.2.size<=maxLen):
 Calls prog 46 #[.agg #[.slice aR nR cR,.slice aD Lv.length cD],.agg #[.string y.1,.string y.2.1,.slice aC y.2.2.length cC]] w fun e w'=>∃vN vV r fs,e=.returned (.tuple #[.agg #[.int .i64 r.d,.string r.id,vN,vV],.bool (il Lv y)])/\kN w' (fun g=>w.heap.size<=g/\g<w'.heap.size) vN vV r fs/\(il Lv y=true->r=bO Lv y)/\Lt w w':=by
 obtain⟨ty,id,cells⟩:=y;obtain⟨iS,hiS,zS0,zS1,zS2⟩:=info_parts info9';obtain⟨iV,hiV,zV0,zV1,zV2⟩:=info_parts info119;simp only at hC hcl hts⊢;have HCD:=aa (fun W (hW:Lt w W)=>sq aR nR cR (.slice aD Lv.length cD) ty (Lv.map ap.name) W ((hD.below hW).names) (by simp;omega));have HD:=aa hD;have HC:=aa hC;have HN:=aa (yB (Lv:=Lv) (y:=(ty,id,cells)));have HA:=aa (fun k d=>uS (Lv:=Lv) (y:=(ty,id,cells)) (k:=k) (d:=d));simp only at HN HA;generalize il Lv (ty,id,cells)=q at*;clear hD hC;go_enter func46,ntmps46;go_wp2_with fail;refine(HCD.o _ (by repeat' with_reducible first|exact KL _ _|refine bA ?_ _)).mono ?_;rintro _ w1 ⟨rfl,b1⟩;obtain⟨hX,hY,hR⟩:=uQ w (.cells #[.slice aR nR cR,.slice aD Lv.length cD] 62) (.cells #[.string ty,.string id,.slice aC cells.length cC] 37) (.cells #[.int .i64 0,.string ⟨#[]⟩,.slice none 0 0,.slice none 0 0] 113);have hX:=(b1.block _ (by simp<;>omega)).trans hX;have hY:=(b1.block _ (by simp<;>omega)).trans hY;have hR:=(b1.block _ (by simp)).trans hR;have hB1:=aa (bT (bA (bA (bA (KL w.heap.size w) _) _) _) b1);have cX:=ae hX;have cY:=ae hY;have cS:=ae hR;have fR:=ar hR;have hlR:=ag hR;have HX:=aa hX;have HY:=aa hY;have HR:=aa hR;clear b1 HCD;have RET:=aa (fun(X:World) (hX:Lt w X) (hq:q=false)=>show∃vN vV r fs,Ending.returned (Value.tuple #[.agg #[.int .i64 0,.string ⟨#[]⟩,.slice none 0 0,.slice none 0 0],.bool false])=.returned (.tuple #[.agg #[.int .i64 (cy.d r),.string r.id,vN,vV],.bool q])/\kN X (fun g=>w.heap.size<=g/\g<X.heap.size) vN vV r fs/\(q=true->r=bO Lv (ty,id,cells))/\Lt w X from
  ⟨_,_,wM,[],by rw[hq];rfl,yD X _,fun e=>(by rw[hq]at e;cases e),hX⟩)
 by_cases hneg:ah (Lv.map ap.name) ty<0
 ·have HF:=aa (HN.o hneg)
  clear HN HA;generalize ah (Lv.map ap.name) ty=k at*;go_wp2_with fail;refine bodyPost_ret (v:=.tuple #[.agg #[.int .i64 0,.string ⟨#[]⟩,.slice none 0 0,.slice none 0 0],.bool false]) (by simp[results,results46,go_sem,cS]) rfl (RET.o _ ?_ HF.o);repeat' with_reducible first|exact hB1.o|refine bA ?_ _|refine bS ?_ _ (by show _<=_+1+1;omega) _
 ·obtain⟨k,d,hk,hd,hdn,hkl⟩:=iW ap.name Lv ty hneg
  have HK:=aa (HA.o k d hk hd);have HKD:=aa (And.intro hk hd);obtain⟨gD,aF,cF,aA,cA,aT,cT,e,d0,d1,d2,d3,d4,d5,hda⟩:=(HD.o.below hB1.o).at hd;subst e;have hgD:=KQ w1 _ d0;have hq:nt ty id=((ty.toList==[81,117,101,114,121])==id.toList.isEmpty):=by
   unfold nt;rw[kL,<-bY,Lib.toList_data kC];rfl
  rw[hq]at HK;have HDA:=aa hda;have hdf:=hfl d (KN hd);clear HN HA hneg hq hda;rw[hk];clear hk hd hdn;cases hs:((d.sort:Int)!=0)
  rotate_left
  ·have HF:=aa (show q=false from by rw[HK.o,KT (by simp at hs;omega)];rfl)
   go_wp2_with fail;refine bodyPost_ret (v:=.tuple #[.agg #[.int .i64 0,.string ⟨#[]⟩,.slice none 0 0,.slice none 0 0],.bool false]) (by simp[results,results46,go_sem,cS]) rfl (RET.o _ ?_ HF.o);repeat' with_reducible first|exact hB1.o|refine bA ?_ _|refine bS ?_ _ (by show _<=_+1+1;omega) _
  ·have hs0:d.sort=0:=by simp at hs;omega
   rw[Le hs0]at HK;cases tq:(ty.toList==[81,117,101,114,121])<;>cases te:id.toList.isEmpty<;>rw[tq,te]at HK
   case false.true|true.false=>
    have HF:=aa (show q=false from HK.o);go_wp2_with fail;refine bodyPost_ret (v:=.tuple #[.agg #[.int .i64 0,.string ⟨#[]⟩,.slice none 0 0,.slice none 0 0],.bool false]) (by simp[results,results46,go_sem,cS]) rfl (RET.o _ ?_ HF.o);repeat' with_reducible first|exact hB1.o|refine bA ?_ _|refine bS ?_ _ (by show _<=_+1+1;omega) _
   all_goals
    have HG:=aa (show q=ly d.fields [] cells from by rw[HK.o];simp);go_wp2_with fail;clear HK hs tq te hs0 RET hX hY hR cX cY cS fR d0 d1 d2 d3 d4 d5;go_loopg [8,9,10,11,12] cells.length (fun m v8 v9 v10 v11 v12 wr=>∃(i:Nat) (ns:List Ls) (vs:List RV) (vN vV:Value) (fs:List FV),v8=.int .i64 i/\i<=cells.length/\cells.length-i<=m/\wr.heap[w1.heap.size]?=some (.cells #[.int .i64 k,.string id,vN,vV] 113 (0,0))/\wr.ownsRow (w1.heap.size+1) 9 1 vN ns.length (bt ns)/\ni wr (w1.heap.size+1) vN vV fs vs/\ns.length=i/\fs.length=i/\Lt w1 wr/\ns=(cells.take i).map (·.1)/\vs=(cells.take i).map (fun c=>du c.2)/\w1.heap.size+1<=wr.heap.size/\q=ly d.fields ns (cells.drop i))
    case atStart=>
     refine⟨0,[],[],_,_,[],rfl,KU _,KK _,KS w1 _,K7 _ _ _ _,⟨K7 _ _ _ _,⟨rfl,fun i f v hf _=>by simp at hf⟩,fun g e=>by cases e⟩,rfl,rfl,bA (KL _ _) _,rfl,rfl,by simp,HG.o⟩
    case round=>
     obtain⟨i,ns,vs,vN,vV,fs,rfl,hil,hm,hr,hoN,hV,hni,hfs,hb,hns,hvs,hsz,hg⟩:=hrel;obtain⟨aN,cN,hvN⟩:=bc hoN;subst hvN;obtain⟨aV,cV,hvV⟩:=bc hV.own;subst hvV;have HG2:=aa hg;have hX:=(hb.block _ (by omega)).trans HX.o;have hY:=(hb.block _ (by omega)).trans HY.o;have hR:=(hb.block _ (by omega)).trans HR.o;have cX:=ae hX;have cY:=ae hY;have cr:=ae hr;have fr:=ar hr;have HB:=aa hb;have HON:=aa hoN;have HVR:=aa hV;have Hr:=aa hr;have hlr:=ag hr;have hlX:=ag hX;have hlY:=ag hY;have hlR:=ag hR;have HFS:=aa hfs;have HNI:=aa hni;have HNV:=aa (And.intro hns hvs);clear hg hX hY hb hoN hV hr hfs hni hns hvs HG;by_cases hlt:i<cells.length
     ·have hx:=KM hlt
      generalize cells[i]=c at hx;obtain⟨gC,oC,e,c0,c1⟩:=(HC.o.below (bT hB1.o HB.o)).at hx;subst e;have hgC:=KQ wr _ c0;obtain⟨gD',aF',cF',aA',cA',aT',cT',e,d0,d1,d2,d3,d4,d5,hda⟩:=((HD.o.below (bT hB1.o HB.o))).at HKD.o.2;cases e;have hgD2:=KQ wr _ d0;have HF:=aa (fun W (hW:Lt wr W)=>rt d.sort d.name aA' aT' d.Ly.length cA' d.Lw.length cT' d.LC (.slice aF' d.fields.length cF') c.1 (d.fields.map bj.name) W ((hda.f.below hW).names) (by simp;omega));have HDA2:=aa hda.f;clear hda;go_upto_region 8 with fail;go_cut [9] (fun v9 wc=>v9=.int .i64 (ah (d.fields.map bj.name) c.1)/\Lt wr wc)
      case first=>
       go_region_with (go_at_call 49;refine(HF.o _ ?_).mono ?_;(first|exact(KL _ _).drew|exact KL _ _);rintro e w' ⟨rfl,hb'⟩);all_goals(try go_wp2_with fail)
       all_goals(go_meet;exact⟨rfl,(KL _ _).drew.trans hb'⟩)
      case rest=>
       obtain⟨rfl,hbc⟩:=hcut;have cX:=ae ((hbc.block _ hlX).trans (((HB.o.block _ (by omega)).trans HX.o)));have cY:=ae ((hbc.block _ hlY).trans (((HB.o.block _ (by omega)).trans HY.o)));have hr:=(hbc.block _ hlr).trans Hr.o;have cr:=ae hr;have fr:=ar hr;have c0:=ao hbc c0;have c1:=ao hbc c1;clear d0 d1 d2 d3 d4 d5 HF;have hcx:=KN hx;have HRC:=aa (Dr c.2 wc (hts c hcx));go_wp2_with fail;refine HRC.o.mono ?_;rintro _ w2 ⟨fv,rfl,b2,hv⟩;unfold bw;have HV:=aa (fun e=>(hv e).frame (fun _ _ _=>rfl) (fun g hg=>(⟨KP hbc.size hg.1,hg.2⟩:wr.heap.size<=g/\g<w2.heap.size)));have b2w:=bT hbc b2;have HB2:=aa b2w;have cX:=fun j=>(b2.cell (p:=⟨w.heap.size,j,none⟩) (by have:=hbc.size;show w.heap.size<_;omega)).trans (cX j);have cY:=fun j=>(b2.cell (p:=⟨w.heap.size+1,j,none⟩) (by have:=hbc.size;show w.heap.size+1<_;omega)).trans (cY j);have hr:=(b2.block _ (ag hr)).trans hr;have cr:=ae hr;have fr:=ar hr;have c0:=ao b2 c0;have c1:=ao b2 c1;have hsz2:=b2w.size;have HM:=aa (fun n=>o5 c.1 (.slice aN ns.length cN) ns ((w2.alloc (.cells #[.int .i64 fv.sh,.int .i64 fv.n,.string fv.s,.slice fv.la fv.ln fv.lc] 119)).drewN n) (cH.of_own (bZ HON.o (below_drewN (bA HB2.o _) n))) (by have:=HNI.o;omega));have Hr2:=aa hr;have hgC2:gC<w2.heap.size:=by omega
       have hlX2:w.heap.size<w2.heap.size:=by omega
       have hlY2:w.heap.size+1<w2.heap.size:=by omega
       have hlR2:w.heap.size+1+1<w2.heap.size:=by omega
       have hlr2:w1.heap.size<w2.heap.size:=by omega
       have hgD3:gD<w2.heap.size:=by omega
       clear hr HRC b2 b2w hbc hv;have HGS:=aa (show q=(ql d.fields ns c&&ly d.fields (ns++[c.1]) (cells.drop (i+1)))from by rw[HG2.o,ET hx];rfl);have HOC:=aa (ql.eq_1 d.fields ns c);have RET:=aa (fun(X:World) (hX:Lt w X) (hq:q=false)=>show∃vN vV r fs,Ending.returned (Value.tuple #[.agg #[.int .i64 0,.string ⟨#[]⟩,.slice none 0 0,.slice none 0 0],.bool false])=.returned (.tuple #[.agg #[.int .i64 (cy.d r),.string r.id,vN,vV],.bool q])/\kN X (fun g=>w.heap.size<=g/\g<X.heap.size) vN vV r fs/\(q=true->r=bO Lv (ty,id,cells))/\Lt w X from
        ⟨_,_,wM,[],by rw[hq];rfl,yD X _,fun e=>(by rw[hq]at e;cases e),hX⟩)
       have HBF:=aa (bT (bT hB1.o HB.o) HB2.o);have hcS:=ae ((HB2.o.block _ hlR).trans ((HB.o.block _ (by omega)).trans HR.o));have hfS:=ar ((HB2.o.block _ hlR).trans ((HB.o.block _ (by omega)).trans HR.o));generalize hot:jV c.2=ot at*;generalize ba c.1 ns=mb at*;have HOT:=aa hot;clear hot;cases ot
       ·have HF:=aa (show q=false from by rw[HGS.o,HOC.o];rfl)
        go_wp2_with fail;go_quiet ((go_at_call 86;exact Calls.quiet_of_same (HM.o _)));go_wp2_with fail;refine bodyPost_ret (v:=.tuple #[.agg #[.int .i64 0,.string ⟨#[]⟩,.slice none 0 0,.slice none 0 0],.bool false]) (by simp[results,results46,go_sem,hcS,hlR2]) rfl (RET.o _ ?_ HF.o);repeat' with_reducible first|exact HBF.o|refine bA ?_ _|refine below_drewN ?_ _|refine bS ?_ _ (by show _<=_+1+1;omega) _
       ·cases mb
        rotate_left
        ·have HF:=aa (show q=false from by rw[HGS.o,HOC.o];rfl)
         go_wp2_with fail;go_quiet ((go_at_call 86;exact Calls.quiet_of_same (HM.o _)));go_wp2_with fail;refine bodyPost_ret (v:=.tuple #[.agg #[.int .i64 0,.string ⟨#[]⟩,.slice none 0 0,.slice none 0 0],.bool false]) (by simp[results,results46,go_sem,hcS,hlR2]) rfl (RET.o _ ?_ HF.o);repeat' with_reducible first|exact HBF.o|refine bA ?_ _|refine below_drewN ?_ _|refine bS ?_ _ (by show _<=_+1+1;omega) _
        ·by_cases hfn:ah (d.fields.map bj.name) c.1<0
         ·have HF:=aa (show q=false from by rw[HGS.o,HOC.o,KT (by omega)];rfl)
          generalize ah (d.fields.map bj.name) c.1=fi at*;go_wp2_with fail;go_quiet ((go_at_call 86;exact Calls.quiet_of_same (HM.o _)));go_wp2_with fail;refine bodyPost_ret (v:=.tuple #[.agg #[.int .i64 0,.string ⟨#[]⟩,.slice none 0 0,.slice none 0 0],.bool false]) (by simp[results,results46,go_sem,hcS,hlR2]) rfl (RET.o _ ?_ HF.o);repeat' with_reducible first|exact HBF.o|refine bA ?_ _|refine below_drewN ?_ _|refine bS ?_ _ (by show _<=_+1+1;omega) _
         ·obtain⟨fi,fld,hfi,hfl2,_,hfil⟩:=iW bj.name d.fields c.1 hfn
          have HIA:=aa (show xy d.fields c.1=(fld.arg.toList==[105,100])from by
           unfold xy;rw[hfi,Lk,hfl2];show decide (fld.arg=ik)=_;rw[<-bY,Lib.toList_data ik];rfl)
          have HOC2:=aa (show ql d.fields ns c=!(fld.arg.toList==[105,100])from by rw[HOC.o,HIA.o,hfi,Le (by omega)];simp);obtain⟨gD',aF',cF',aA',cA',aT',cT',e,d0,d1,d2,d3,d4,d5,hda⟩:=((HD.o.below (bT (bT hB1.o HB.o) HB2.o))).at HKD.o.2;cases e;obtain⟨gF,e,f0,f1,f2,f3,f4⟩:=hda.f.at hfl2;cases e;have hgF:=KQ w2 _ f0;rw[hfi];clear hfi hfn HOC HIA hda hfl2;cases har:(fld.arg.toList==[105,100])
          rotate_left
          ·have HF:=aa (show q=false from by rw[HGS.o,HOC2.o,har];rfl)
           go_wp2_with fail;go_quiet ((go_at_call 86;exact Calls.quiet_of_same (HM.o _)));go_wp2_with fail;refine bodyPost_ret (v:=.tuple #[.agg #[.int .i64 0,.string ⟨#[]⟩,.slice none 0 0,.slice none 0 0],.bool false]) (by simp[results,results46,go_sem,hcS,hlR2]) rfl (RET.o _ ?_ HF.o);repeat' with_reducible first|exact HBF.o|refine bA ?_ _|refine below_drewN ?_ _|refine bS ?_ _ (by show _<=_+1+1;omega) _
          ·go_wp2_with fail
           go_quiet ((go_at_call 86;exact Calls.quiet_of_same (HM.o _)));go_wp2_with fail;obtain⟨W3,hW3⟩:∃W3,W3=(w2.alloc (.cells #[.int .i64 fv.sh,.int .i64 fv.n,.string fv.s,.slice fv.la fv.ln fv.lc] 119)).drewN nq:=⟨_,rfl⟩;have hz3:W3.heap.size=w2.heap.size+1:=by rw[hW3];simp
           have b3:Lt w2 W3:=by rw[hW3];exact below_drewN (bA (KL _ _) _) _
           have hV3:W3.heap[w2.heap.size]?=some (.cells #[.int .i64 fv.sh,.int .i64 fv.n,.string fv.s,.slice fv.la fv.ln fv.lc] 119):=by rw[hW3];exact KS w2 _
           rw[<-hW3];clear hW3;have HB3:=aa (bT HB2.o b3);have HB23:=aa b3;have hr3:=(b3.block _ hlr2).trans Hr2.o;have cY:=fun j=>(b3.cell (p:=⟨w.heap.size+1,j,none⟩) hlY2).trans (cY j);have cr:=ae hr3;have fr:=ar hr3;have c0:=ao b3 c0;have HO3:=aa (bZ HON.o HB3.o);have hne:Option.some w1.heap.size≠(Value.slice aN ns.length cN).ownBlock:=fun e=>(jC HON.o (Nat.lt_succ_self _)) e.symm;have hnl:ns.length<=1000000:=by have:=HNI.o;omega
           have hl3:w1.heap.size<W3.heap.size:=by omega
           have hsz3:w1.heap.size+1<=W3.heap.size:=by omega
           have hv3:w2.heap.size<W3.heap.size:=by omega
           have hgC3:gC<W3.heap.size:=by omega
           have hlY3:w.heap.size+1<W3.heap.size:=by omega
           have HZ3:=aa hz3;clear hz3;have HAR:=aa har;clear d0 d1 d2 d3 d4 d5 f0 f1 f2 f3 f4 cX hcS hfS HM RET har;go_cut [] (fun wc=>∃g cap,wc.heap[w1.heap.size]?=some (.cells #[.int .i64 k,.string id,.slice (some ⟨g,0,none⟩) (ns.length+1) cap,.slice aV fs.length cV] 113 (0,0))/\wc.ownsRow (w1.heap.size+1) 9 1 (.slice (some ⟨g,0,none⟩) (ns.length+1) cap) (ns.length+1) (bt (ns++[c.1]))/\(∀j,j<W3.heap.size->j≠w1.heap.size->(Value.slice aN ns.length cN).ownBlock≠some j->wc.heap[j]?=W3.heap[j]?)/\W3.heap.size<=wc.heap.size/\((Value.slice aN ns.length cN).ownBlock=some g\/W3.heap.size<=g)/\Lt w1 wc)
           case first=>
            go_region_law (first|(refine step_append_lies _ (by rfl) _ _ _ (by rfl) (w1.heap.size+1) 9 iS _ 1 16 underlying50 hiS zS0 zS1 zS2 rfl (by decide) _ _ _ (by rfl) (bZ HO3.o (by repeat' with_reducible first|exact KL _ _|refine bA ?_ _|refine Below.drew ?_)) ⟨W3.heap.size,0,none⟩ 1 1 [.string c.1] (by rfl) (by rfl) (cell_one_new _ _ _) (fun u hu=>by simp at hu;subst hu;rfl) (by decide) (by unfold maxLen;omega) (by omega) (by simp;omega) (W3.heap.size+1) (by simp) ?_;intro g cap w5 LV hgrow hat hg5;have g5:=(hgrow.block w1.heap.size (by simp;omega) hne).trans ((by first|exact(bA (KL W3.heap.size W3) _).block _ hl3|exact(bA (KL W3.heap.size W3) _).drew.block _ hl3:_=W3.heap[w1.heap.size]?).trans hr3);have e5:=ae g5;have f5:=ar g5));all_goals(try go_wp2_with fail)
            all_goals(
             go_meet;have Nf:∀j,j<W3.heap.size->j≠w1.heap.size->(Value.slice aN ns.length cN).ownBlock≠some j->(w5.setCell ⟨w1.heap.size,2,none⟩ (.slice (some ⟨g,0,none⟩) (ns.length+1) cap)).heap[j]?=W3.heap[j]?:=fun j h1 h2 h3=>
              (KX _ _ _ _ h2).trans ((hgrow.block j (by simp;omega) (fun e=>h3 e.symm)).trans (by first|exact(bA (KL W3.heap.size W3) _).block _ h1|exact(bA (KL W3.heap.size W3) _).drew.block _ h1))
             have NC:=hgrow.size;simp at NC;refine⟨g,cap,aJ g5 2 _,?_,Nf,by simp[World.setCell];omega,hat.imp (fun e=>e) (fun e=>by omega),?_⟩
             ·rw[show bt (ns++[c.1])=bt ns++[.string c.1]from by simp[bt]]
              exact rU LV (Nat.lt_succ_self _) 2 _
             ·have hb3:=bT HB.o HB3.o
              exact⟨hgrow.os.trans hb3.os,hgrow.tape.trans hb3.tape,hgrow.output.trans hb3.output,by have:=hb3.size;simp[World.setCell];omega,fun j hj=>(Nf j (by omega) (by omega) (jC HON.o (by omega))).trans (hb3.block j hj)⟩)
           case rest=>
            obtain⟨g,cap,hr4,hoN4,NQ,hsz4,hwh4,hb4⟩:=hcut;have hnlt:∀j,(Value.slice aN ns.length cN).ownBlock=some j->j<wr.heap.size:=fun j hj=>ep HON.o j hj;have hvlt:∀j,(Value.slice aV fs.length cV).ownBlock=some j->j<wr.heap.size:=fun j hj=>ep HVR.o.own j hj;have hV4:=(NQ w2.heap.size hv3 (by omega) (fun e=>by have:=hnlt _ e;omega)).trans hV3;have HVR4:=aa (HVR.o.far (vN':=.slice (some ⟨g,0,none⟩) (ns.length+1) cap) (fun k h1 h2 h3=>(NQ k (by omega) (by omega) h3).trans (HB3.o.block k h2)) (by have:=HB3.o.size;omega) (fun g' e=>by
             have e':g=g':=KY e;subst e';exact hwh4.imp (fun e=>e) (fun e=>by have:=HB3.o.size;omega)))
            have HVA:=aa ((HV.o (by simp)).frame (B':=fun j=>w1.heap.size+1<=j/\j<wc.heap.size/\(Value.slice aV fs.length cV).ownBlock≠some j/\(Value.slice (some ⟨g,0,none⟩) (ns.length+1) cap).ownBlock≠some j) (fun j hj o=>World.cell?_of_block (a:=⟨j,o,none⟩) ((NQ j (by have:=HB23.o.size;omega) (by omega) (fun e=>by have:=hnlt _ e;omega)).trans (HB23.o.block j hj.2))) (fun j hj=>⟨by omega,by have:=HB23.o.size;omega,fun e=>(by have:=hvlt _ e;omega),fun e=>(by
             have e':g=j:=KY e;have:=HB23.o.size;rcases hwh4 with q|q
             ·have:=hnlt _ q;omega
             ·omega)⟩))
            have hcr:=ae hr4;have hfr:=ar hr4;have hlr4:=ag hr4;have cV4:=ae hV4;have hlV4:=ag hV4;have HON4:=aa hoN4;have HR4:=aa hr4;have HB4:=aa hb4;have HWH4:=aa hwh4;have MT:Option.some w1.heap.size≠(Value.slice aV fs.length cV).ownBlock:=fun e=>jC HVR.o.own (Nat.lt_succ_self _) e.symm;have hfsl:fs.length<=1000000:=by have:=HFS.o;omega
            have NC:w1.heap.size+1<=wc.heap.size:=by omega
            clear hoN4 NQ hwh4 hb4 hV4 hr4 cY cr fr c0 c1 hr3 hV3;go_wp2_with (at_builtin;refine wpList_append_lies _ rfl _ _ 111 rfl (w1.heap.size+1) 119 iV _ 4 56 underlying111 hiV zV0 zV1 zV2 rfl (by decide) _ _ _ rfl (HVR4.o.own.alloc _) ⟨wc.heap.size,0,none⟩ 1 1 [.int .i64 fv.sh,.int .i64 fv.n,.string fv.s,.slice fv.la fv.ln fv.lc] rfl rfl (de _ _ _ _ (by simp)) (uD rfl rfl rfl rfl) (by decide) (by unfold maxLen;omega) (by omega) (by simp;omega) (wc.heap.size+1) (by simp) ?_;intro g' LM x3 hown' hgrow hwh hgs;have hX5:=(hgrow.block w1.heap.size (by simp;omega) MT).trans ((bp _ _ _ hlr4).trans HR4.o);have hc5:=ae hX5;have hf5:=ar hX5;have HX5:=aa hX5;have MS:=aa hown';have LT:=aa hgrow;have HWH:=aa hwh;clear hX5 hown' hgrow hwh);have hgz:=LT.o.size;simp at hgz;have MX:=aa (show∀j,j<wc.heap.size->j≠w1.heap.size->(Value.slice aV fs.length cV).ownBlock≠some j->(x3.setCell ⟨w1.heap.size,3,none⟩ (.slice (some ⟨g',0,none⟩) (fs.length+1) LM)).heap[j]?=wc.heap[j]? from fun j h1 h2 h3=>
             (KX _ _ _ _ h2).trans ((LT.o.block j (by simp;omega) (fun e=>h3 e.symm)).trans (bp _ _ _ h1)))
            go_roundg (cells.length-(i+1))
            case measure=>omega
            case rel=>
             refine⟨i+1,ns++[c.1],vs++[du c.2],_,_,fs++[fv],by go_num,by omega,KK _,aJ HX5.o 3 _,?_,?_,by simp[HNI.o],by simp[HFS.o],?_,?_,?_,by simp[World.setCell];omega,?_⟩
             ·rw[Lb]
              exact kQ HON4.o (fun k hk=>MX.o k (ep HON4.o k hk) (fun e=>jC HON4.o (Nat.lt_succ_self _) (by rw[<-e];exact hk)) (fun e=>HVR4.o.ne k e hk))
             ·refine HVR4.o.push HVA.o (rU MS.o (Nat.lt_succ_self _) 3 _) (fun k h1 h2 h3=>MX.o k h2 (by omega) h3) (HWH.o.imp (fun e=>e) (fun e=>by omega)) (by simp[World.setCell];omega) (fun k hk=>ep HON4.o k hk)
             ·exact⟨LT.o.os.trans HB4.o.os,LT.o.tape.trans HB4.o.tape,LT.o.output.trans HB4.o.output,by have:=HB4.o.size;simp[World.setCell];omega,fun j hj=>(MX.o j (by omega) (by omega) (jC HVR.o.own (by omega))).trans (HB4.o.block j hj)⟩
             ·rw[Ld,hx];simp[HNV.o.1]
             ·rw[Ld,hx];simp[HNV.o.2]
             ·rw[HGS.o,HOC2.o,HAR.o];simp
     ·have hie:i=cells.length:=by omega
      subst hie;have HQT:=aa (show q=true from by rw[HG2.o,List.drop_length];rfl);have cS:=ae hR;have fS:=ar hR;clear hR;go_wp2_with fail;have Nf:∀x y z u j,w1.heap.size+1<=j->((((wr.setCell ⟨w.heap.size+1+1,0,none⟩ x).setCell ⟨w.heap.size+1+1,1,none⟩ y).setCell ⟨w.heap.size+1+1,2,none⟩ z).setCell ⟨w.heap.size+1+1,3,none⟩ u).heap[j]?=wr.heap[j]?:=fun x y z u j hj=>fD _ _ _ (by omega) _ _ _ _;refine bodyPost_ret (v:=.tuple #[.agg #[.int .i64 k,.string id,.slice aN ns.length cN,.slice aV fs.length cV],.bool true]) (by simp[results,results46,go_sem,cS]) rfl ⟨_,_,⟨k,id,ns,vs⟩,fs,by rw[HQT.o],⟨uh.of_own (kQ HON.o (fun j hj=>Nf _ _ _ _ j (i7 HON.o j hj))) (fun j hj=>⟨by have:=i7 HON.o j hj;omega,by have:=ep HON.o j hj;simpa using this⟩),?_,?_,?_⟩,fun _=>?_,?_⟩
      ·exact((HVR.o.far (vN':=.slice aN ns.length cN) (fun j h1 _ _=>Nf _ _ _ _ j h1) (by simp[World.setCell]) (fun _ e=>Or.inl e)).vals (fun j h1 h2=>⟨by omega,h2⟩)).1
      ·exact((HVR.o.far (vN':=.slice aN ns.length cN) (fun j h1 _ _=>Nf _ _ _ _ j h1) (by simp[World.setCell]) (fun _ e=>Or.inl e)).vals (fun j h1 h2=>⟨by omega,h2⟩)).2
      ·show vs.length=ns.length
       have:=HVR.o.sub.1;have:=HFS.o;have:=HNI.o;omega
      ·unfold bO
       simp only[HKD.o.1,Lk,HNV.o.1,HNV.o.2,List.take_length]
      ·have hbf:=bT hB1.o HB.o
       repeat' with_reducible first|exact hbf|refine bS ?_ _ (by show _<=_+1+1;omega) _
end Go.Proofs.YtgbloieahmkcjaaGreat
