import Derived.Test.YtgbloieahmkcjaaGreatC28
import Derived.Test.YtgbloieahmkcjaaGreatC20
import Derived.Test.YtgbloieahmkcjaaGreatC26
namespace Go.Proofs.YtgbloieahmkcjaaGreat
set_option maxHeartbeats 20000000
set_option maxRecDepth 100000
open Go.RowKit Tryz
theorem qD(t:dh):(ci t).size=(dE t).length:=by
 rw[<-kW];exact(Array.length_toList).symm
theorem BM(t:dh)(h:fZ t):nc (ci t)=(match t with| .one _ st=>st| .list _ st=>st):=by
 unfold nc;rw[kW];cases t with
 |one n st=>
  cases st with
  |true=>simp[dE]
  |false=>
   obtain⟨h1,h2⟩:=h;simp only[dE,Lj,if_false,List.append_nil,decide_eq_false_iff_not];intro e;have:=h2 33 (List.mem_of_getLast? e);revert this;decide
 |list t st=>
  cases st
  ·simp only[dE,Lj,if_false]
   rw[<-List.cons_append,List.getLast?_append];simp
  ·simp only[dE,if_true]
   rw[<-List.cons_append,List.getLast?_append];simp
theorem xG(t:dh)(h:fZ t):0<(ci t).size:=by
 rw[qD];cases t with
 |one n st=>have h1:0<n.data.toList.length:=h.1;simp only[dE,Lb];omega
 |list t st=>simp[dE]
theorem Kh(n:Ls)(st:Bool)(h:fZ (.one n st)):oR (ci (.one n st))=⟨#[]⟩:=by
 unfold oR;rw[K8 (by rw[qV _ h];simp[mw])]
theorem GO(t:dh)(st:Bool)(h:fZ (.list t st)):oR (ci (.list t st))=ci t:=by
 unfold oR;rw[K9 (by rw[qV _ h];rfl),BM _ h];apply ByteArray.ext;apply Array.toList_inj.1;rw[show(ci t).data.toList=dE t from kW t];cases st with
 |true=>
  simp only[if_true,ByteArray.data_extract,Array.toList_extract,qD];rw[Array.toList_extract,kW];simp[dE,List.extract,List.take_append];exact KW (by omega)
 |false=>
  simp only[Lj,if_false,ByteArray.data_extract,Array.toList_extract,qD];rw[kW];simp[dE,List.extract]
def fH(Lv:List ap)(rows:List cy)(c id:Ls):Bool:=
 if ah (rows.map cy.id) id<0 then true else match rows[(ah (rows.map cy.id) id).toNat]? with
 |none=>false
 |some r=>match Lv[r.d]?,Lv[(ah (Lv.map ap.name) c).toNat]? with
  |some d,some t=>!decide (d.name=kC)&&l9 d t r.d (ah (Lv.map ap.name) c).toNat
  |_,_=>false
def fk(R:Ls->Ls->Bool):dh->RV->Bool
 | .one c _,.mk sh _ s _=>if sh=0\/sh=6 then true else if c=j9 then decide (sh=1)else if c=oS\/c=lB then decide (sh=2)else if c=nx then decide (sh=3)else decide (sh=4)&&R c s
 | .list t _,.mk sh _ _ l=>if sh=0\/sh=6 then true else l.all (fk R t)&&decide (sh=5)
def lN(w:World)(v:Value)(rows:List cy):Prop:=∃a cap,v=.slice a rows.length cap/\rows.length<=cap/\(rows=[]\/∃g,a=some ⟨g,0,none⟩/\∀j r,rows[j]?=some r->w.cell? ⟨g,j*4,none⟩=some (.int .i64 r.d)/\w.cell? ⟨g,j*4+1,none⟩=some (.string r.id)/\∃vN vV fs,w.cell? ⟨g,j*4+2,none⟩=some vN/\w.cell? ⟨g,j*4+3,none⟩=some vV/\pT w vN vV r fs)
theorem lN.below{w w':World}{v:Value}{l:List cy}(h:lN w v l)(hb:Lt w w'):lN w' v l:=by
 obtain⟨a,cap,h1,h2,h3⟩:=h;refine⟨a,cap,h1,h2,?_⟩;rcases h3 with h3|⟨g,h3,h4⟩
 ·exact Or.inl h3
 ·refine Or.inr ⟨g,h3,fun j r hj=>?_⟩
  obtain⟨c0,c1,vN,vV,fs,c2,c3,hr⟩:=h4 j r hj;exact⟨ao hb c0,ao hb c1,vN,vV,fs,ao hb c2,ao hb c3,hr.below hb⟩
theorem lN.names{w:World}{v:Value}{l:List cy}(h:lN w v l):lU w v 4 1 (l.map cy.id):=by
 obtain⟨a,cap,h1,h2,h3⟩:=h;refine⟨a,cap,by rw[Ll];exact h1,?_⟩;rcases h3 with h3|⟨g,h3,h4⟩
 ·exact Or.inl (by rw[h3];rfl)
 ·refine Or.inr ⟨g,h3,fun j x hj=>?_⟩
  rw[La]at hj;cases hr:l[j]? with
  |none=>rw[hr]at hj;cases hj
  |some r=>rw[hr]at hj;cases hj;exact(h4 j r hr).2.1
theorem lN.at{w:World}{a:Option Addr}{cap j:Nat}{l:List cy}{r:cy}(h:lN w (.slice a l.length cap) l)(hj:l[j]?=some r):∃g aN cN aV cV fs,a=some ⟨g,0,none⟩/\w.cell? ⟨g,j*4,none⟩=some (.int .i64 r.d)/\w.cell? ⟨g,j*4+1,none⟩=some (.string r.id)/\w.cell? ⟨g,j*4+2,none⟩=some (.slice aN r.names.length cN)/\w.cell? ⟨g,j*4+3,none⟩=some (.slice aV fs.length cV)/\pT w (.slice aN r.names.length cN) (.slice aV fs.length cV) r fs:=by
 obtain⟨a',LM,e,_,h3⟩:=h;cases e;rcases h3 with e|⟨g,e,h4⟩
 ·rw[e]at hj;simp at hj
 ·obtain⟨c0,c1,vN,vV,fs,c2,c3,hr⟩:=h4 j r hj
  obtain⟨aN,cN,rfl,_⟩:=id hr.n;obtain⟨aV,cV,rfl,_⟩:=id hr.v;exact⟨g,aN,cN,aV,cV,fs,e,c0,c1,c2,c3,hr⟩
structure uX(w0:World)(aD:Option Addr)(cD:Nat)(aL:Option Addr)(cL:Nat)(Lv:List ap)(rows:List cy):Prop where
 d:i5 w0 (.slice aD Lv.length cD) Lv
 l:lN w0 (.slice aL rows.length cL) rows
 dl:Lv.length<=801
 ll:rows.length<=200
 da:∀d∈Lv,d.Ly.length<=801/\d.sort<=2
 rd:∀r∈rows,r.d<Lv.length
def md:Nat->RV->Prop
 |0,.mk _ _ _ l=>l=[]
 |k+1,.mk _ _ _ l=>l.length<=803/\∀r∈l,md k r
theorem md.up:∀{k:Nat} {r:RV},md k r->md (k+1) r
 |0,.mk _ _ _ l,h=>by
  have h':l=[]:=h;subst h';exact⟨by simp,fun r hr=>by simp at hr⟩
 |k+1,.mk _ _ _ l,h=>⟨h.1,fun r hr=>(h.2 r hr).up⟩
theorem DI:∀(f:Nat),(∀(d:Nat) (s:St),ln s<=801->md f (bz f d s).1)/\∀(d:Nat) (s:St),ln s<=801->(bJ f d s).1.length<=ln s/\∀r∈(bJ f d s).1,md f r:=by
 intro f
 induction f with
 |zero=>exact⟨fun d s _=>by rw[bz];exact rfl,fun d s _=>by rw[bJ];exact⟨by simp,fun r hr=>by simp at hr⟩⟩
 |succ f ih=>
  refine⟨fun d s hs=>?_,fun d s hs=>?_⟩
  ·rw[bz]
   split
   ·exact⟨by simp,fun r hr=>by simp at hr⟩
   ·split
    ·exact⟨by simp,fun r hr=>by simp at hr⟩
    ·split
     ·exact⟨by simp,fun r hr=>by simp at hr⟩
     ·have hl:ln (if 10<=d then none else ak s (af s 12))<=801:=by
       split
       ·simp[ln]
       ·exact KP (cg s _) hs
      have:=ih.2 d _ hl;exact⟨by omega,this.2⟩
  ·rw[bJ]
   split
   ·exact⟨by simp,fun r hr=>by simp at hr⟩
   ·rename_i hn
    split
    ·exact⟨by simp,fun r hr=>by simp at hr⟩
    ·by_cases hf:f=0
     ·subst hf
      rw[bJ];refine⟨?_,fun r hr=>?_⟩
      ·cases s with
       |none=>exact absurd rfl hn
       |some l=>simp[ln]
      ·simp at hr;subst hr
       exact(ih.1 (d+1) s hs).up
     ·have h1:=su (f-1) (d+1) s hn
      rw[show f-1+1=f from by omega]at h1;have h2:=ih.2 d (bz f (d+1) s).2 (by omega);refine⟨by simp only[Lm];omega,fun r hr=>?_⟩;rcases List.mem_cons.1 hr with e|e
      ·subst e;exact(ih.1 (d+1) s hs).up
      ·exact(h2.2 r e).up
theorem md.one{k:Nat}{sh:Nat}{n:Int}{s:Ls}{l:List RV}(h:md k (.mk sh n s l)):l.length<=803/\∀r∈l,md k r:=by
 cases k with
 |zero=>have h':l=[]:=h;subst h';exact⟨by simp,fun r hr=>by simp at hr⟩
 |succ k=>exact⟨h.1,fun r hr=>(h.2 r hr).up⟩
theorem bI.elem{w:World}{B:Nat->Prop}{k i:Nat}{v:FV}{sh:Nat}{n:Int}{s:Ls}{l:List RV}{r:RV}(h:bI w B k v (.mk sh n s l))(hi:l[i]?=some r):∃k' g f,v.la=some ⟨g,0,none⟩/\B g/\w.cell? ⟨g,i*4,none⟩=some (.int .i64 (FV.sh f))/\w.cell? ⟨g,i*4+1,none⟩=some (.int .i64 f.n)/\w.cell? ⟨g,i*4+2,none⟩=some (.string f.s)/\w.cell? ⟨g,i*4+3,none⟩=some (.slice f.la f.ln f.lc)/\bI w B k' f r:=by
 cases k with
 |zero=>obtain⟨_,_,_,h4,_⟩:=h;subst h4;simp at hi
 |succ k=>
  obtain⟨_,_,_,_,fs,h5,h6,h7⟩:=h;rcases h6 with e|⟨g,hg,ha,h6⟩
  ·subst e;simp at hi
  ·have hil:=(KO.1 hi).1
   have hf:=KM (show i<fs.length by omega);obtain⟨c0,c1,c2,c3⟩:=h6 i _ hf;exact⟨k,g,_,ha,hg,c0,c1,c2,c3,h7 i _ r hf hi⟩
def Fs(w0:World)(aR:Option Addr)(nR cR:Nat)(aD:Option Addr)(cD:Nat)(aL:Option Addr)(cL:Nat)(Lv:List ap)(rows:List cy)(ty:dh):Prop:=
 ∀(W:World) (v:FV) (r:RV) (k:Nat),Lt w0 W->bI W (fun g=>g<W.heap.size) k v r->md 1603 r->
  Calls prog 48 #[.agg #[.slice aR nR cR,.slice aD Lv.length cD],bw v,.string (ci ty),.slice aL rows.length cL] W fun e w'=>e=.returned (.bool (fk (fH Lv rows) ty r))/\Lt W w'
theorem bI.parts{w:World}{B:Nat->Prop}{k:Nat}{v:FV}{sh:Nat}{n:Int}{s:Ls}{l:List RV}(h:bI w B k v (.mk sh n s l)):v.sh=sh/\v.n=n/\v.s=s/\v.ln=l.length:=by
 cases k with
 |zero=>obtain⟨h1,h2,h3,h4,h5⟩:=h;subst h4;exact⟨h1,h2,h3,h5⟩
 |succ k=>obtain⟨h1,h2,h3,h4,_⟩:=h;exact⟨h1,h2,h3,h4⟩
theorem E9(ty:dh)(R:Ls->Ls->Bool)(sh:Nat)(n:Int)(s:Ls)(l:List RV)(h:sh=0\/sh=6):fk R ty (.mk sh n s l)=true:=by
 cases ty<;>rw[fk,K9 h]
theorem ow{α:Type}{l:List α}{i:Nat}{x:α}(h:l[i]?=some x):l.drop i=x::l.drop (i+1):=by
 obtain⟨hl,rfl⟩:=KO.1 h;exact Lq hl
end Go.Proofs.YtgbloieahmkcjaaGreat
