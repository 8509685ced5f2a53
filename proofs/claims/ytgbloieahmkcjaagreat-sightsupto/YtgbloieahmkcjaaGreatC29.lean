import Derived.Test.YtgbloieahmkcjaaGreatC28
import Derived.Test.YtgbloieahmkcjaaGreatC20
import Derived.Test.YtgbloieahmkcjaaGreatC26
import Derived.Test.YtgbloieahmkcjaaGreatC23
import Derived.Deep.RegionHeld3
import Derived.Deep.RegionLaw
import Derived.Deep.AppendLies
import Derived.Deep.DrawnRows
namespace Go.Proofs.YtgbloieahmkcjaaGreat
set_option maxHeartbeats 20000000
set_option maxRecDepth 100000
open Go.RowKit Tryz
theorem qD(t:dh):(ci t).size=(dE t).length:=by
 rw[<-kW];exact(Array.length_toList).symm
theorem BM(t:dh)(h:fZ t):nc (ci t)=(match t with| .one _ st=>st| .list _ st=>st):=by
 unfold nc;rw[kW];cases t with
 |one n st=>
  cases st with
  |true=>simp[dE]
  |false=>
   obtain⟨h1,h2⟩:=h;simp only[dE,Lj,if_false,List.append_nil,decide_eq_false_iff_not];intro e;have:=h2 33 (List.mem_of_getLast? e);revert this;decide
 |list t st=>
  cases st
  ·simp only[dE,Lj,if_false]
   rw[<-List.cons_append,List.getLast?_append];simp
  ·simp only[dE,if_true]
   rw[<-List.cons_append,List.getLast?_append];simp
theorem xG(t:dh)(h:fZ t):0<(ci t).size:=by
 rw[qD];cases t with
 |one n st=>have h1:0<n.data.toList.length:=h.1;simp only[dE,Lb];omega
 |list t st=>simp[dE]
theorem Kh(n:Ls)(st:Bool)(h:fZ (.one n st)):oR (ci (.one n st))=⟨#[]⟩:=by
 unfold oR;rw[K8 (by rw[qV _ h];simp[mw])]
theorem GO(t:dh)(st:Bool)(h:fZ (.list t st)):oR (ci (.list t st))=ci t:=by
 unfold oR;rw[K9 (by rw[qV _ h];rfl),BM _ h];apply ByteArray.ext;apply Array.toList_inj.1;rw[show(ci t).data.toList=dE t from kW t];cases st with
 |true=>
  simp only[if_true,ByteArray.data_extract,Array.toList_extract,qD];rw[Array.toList_extract,kW];simp[dE,List.extract,List.take_append];exact KW (by omega)
 |false=>
  simp only[Lj,if_false,ByteArray.data_extract,Array.toList_extract,qD];rw[kW];simp[dE,List.extract]
def fH(Lv:List ap)(rows:List cy)(c id:Ls):Bool:=
 if ah (rows.map cy.id) id<0 then true else match rows[(ah (rows.map cy.id) id).toNat]? with
 |none=>false
 |some r=>match Lv[r.d]?,Lv[(ah (Lv.map ap.name) c).toNat]? with
  |some d,some t=>!decide (d.name=kC)&&l9 d t r.d (ah (Lv.map ap.name) c).toNat
  |_,_=>false
def fk(R:Ls->Ls->Bool):dh->RV->Bool
 | .one c _,.mk sh _ s _=>if sh=0\/sh=6 then true else if c=j9 then decide (sh=1)else if c=oS\/c=lB then decide (sh=2)else if c=nx then decide (sh=3)else decide (sh=4)&&R c s
 | .list t _,.mk sh _ _ l=>if sh=0\/sh=6 then true else l.all (fk R t)&&decide (sh=5)
def lN(w:World)(v:Value)(rows:List cy):Prop:=∃a cap,v=.slice a rows.length cap/\rows.length<=cap/\(rows=[]\/∃g,a=some ⟨g,0,none⟩/\∀j r,rows[j]?=some r->w.cell? ⟨g,j*4,none⟩=some (.int .i64 r.d)/\w.cell? ⟨g,j*4+1,none⟩=some (.string r.id)/\∃vN vV fs,w.cell? ⟨g,j*4+2,none⟩=some vN/\w.cell? ⟨g,j*4+3,none⟩=some vV/\pT w vN vV r fs)
theorem lN.below{w w':World}{v:Value}{l:List cy}(h:lN w v l)(hb:Lt w w'):lN w' v l:=by
 obtain⟨a,cap,h1,h2,h3⟩:=h;refine⟨a,cap,h1,h2,?_⟩;rcases h3 with h3|⟨g,h3,h4⟩
 ·exact Or.inl h3
 ·refine Or.inr ⟨g,h3,fun j r hj=>?_⟩
  obtain⟨c0,c1,vN,vV,fs,c2,c3,hr⟩:=h4 j r hj;exact⟨ao hb c0,ao hb c1,vN,vV,fs,ao hb c2,ao hb c3,hr.below hb⟩
theorem lN.names{w:World}{v:Value}{l:List cy}(h:lN w v l):lU w v 4 1 (l.map cy.id):=by
 obtain⟨a,cap,h1,h2,h3⟩:=h;refine⟨a,cap,by rw[Ll];exact h1,?_⟩;rcases h3 with h3|⟨g,h3,h4⟩
 ·exact Or.inl (by rw[h3];rfl)
 ·refine Or.inr ⟨g,h3,fun j x hj=>?_⟩
  rw[La]at hj;cases hr:l[j]? with
  |none=>rw[hr]at hj;cases hj
  |some r=>rw[hr]at hj;cases hj;exact(h4 j r hr).2.1
theorem lN.at{w:World}{a:Option Addr}{cap j:Nat}{l:List cy}{r:cy}(h:lN w (.slice a l.length cap) l)(hj:l[j]?=some r):∃g aN cN aV cV fs,a=some ⟨g,0,none⟩/\w.cell? ⟨g,j*4,none⟩=some (.int .i64 r.d)/\w.cell? ⟨g,j*4+1,none⟩=some (.string r.id)/\w.cell? ⟨g,j*4+2,none⟩=some (.slice aN r.names.length cN)/\w.cell? ⟨g,j*4+3,none⟩=some (.slice aV fs.length cV)/\pT w (.slice aN r.names.length cN) (.slice aV fs.length cV) r fs:=by
 obtain⟨a',LM,e,_,h3⟩:=h;cases e;rcases h3 with e|⟨g,e,h4⟩
 ·rw[e]at hj;simp at hj
 ·obtain⟨c0,c1,vN,vV,fs,c2,c3,hr⟩:=h4 j r hj
  obtain⟨aN,cN,rfl,_⟩:=id hr.n;obtain⟨aV,cV,rfl,_⟩:=id hr.v;exact⟨g,aN,cN,aV,cV,fs,e,c0,c1,c2,c3,hr⟩
structure uX(w0:World)(aD:Option Addr)(cD:Nat)(aL:Option Addr)(cL:Nat)(Lv:List ap)(rows:List cy):Prop where
 d:i5 w0 (.slice aD Lv.length cD) Lv
 l:lN w0 (.slice aL rows.length cL) rows
 dl:Lv.length<=801
 ll:rows.length<=200
 da:∀d∈Lv,d.Ly.length<=801/\d.sort<=2
 rd:∀r∈rows,r.d<Lv.length
def md:Nat->RV->Prop
 |0,.mk _ _ _ l=>l=[]
 |k+1,.mk _ _ _ l=>l.length<=803/\∀r∈l,md k r
theorem md.up:∀{k:Nat} {r:RV},md k r->md (k+1) r
 |0,.mk _ _ _ l,h=>by
  have h':l=[]:=h;subst h';exact⟨by simp,fun r hr=>by simp at hr⟩
 |k+1,.mk _ _ _ l,h=>⟨h.1,fun r hr=>(h.2 r hr).up⟩
theorem DI:∀(f:Nat),(∀(d:Nat) (s:St),ln s<=801->md f (bz f d s).1)/\∀(d:Nat) (s:St),ln s<=801->(bJ f d s).1.length<=ln s/\∀r∈(bJ f d s).1,md f r:=by
 intro f
 induction f with
 |zero=>exact⟨fun d s _=>by rw[bz];exact rfl,fun d s _=>by rw[bJ];exact⟨by simp,fun r hr=>by simp at hr⟩⟩
 |succ f ih=>
  refine⟨fun d s hs=>?_,fun d s hs=>?_⟩
  ·rw[bz]
   split
   ·exact⟨by simp,fun r hr=>by simp at hr⟩
   ·split
    ·exact⟨by simp,fun r hr=>by simp at hr⟩
    ·split
     ·exact⟨by simp,fun r hr=>by simp at hr⟩
     ·have hl:ln (if 10<=d then none else ak s (af s 12))<=801:=by
       split
       ·simp[ln]
       ·exact KP (cg s _) hs
      have:=ih.2 d _ hl;exact⟨by omega,this.2⟩
  ·rw[bJ]
   split
   ·exact⟨by simp,fun r hr=>by simp at hr⟩
   ·rename_i hn
    split
    ·exact⟨by simp,fun r hr=>by simp at hr⟩
    ·by_cases hf:f=0
     ·subst hf
      rw[bJ];refine⟨?_,fun r hr=>?_⟩
      ·cases s with
       |none=>exact absurd rfl hn
       |some l=>simp[ln]
      ·simp at hr;subst hr
       exact(ih.1 (d+1) s hs).up
     ·have h1:=su (f-1) (d+1) s hn
      rw[show f-1+1=f from by omega]at h1;have h2:=ih.2 d (bz f (d+1) s).2 (by omega);refine⟨by simp only[Lm];omega,fun r hr=>?_⟩;rcases List.mem_cons.1 hr with e|e
      ·subst e;exact(ih.1 (d+1) s hs).up
      ·exact(h2.2 r e).up
theorem md.one{k:Nat}{sh:Nat}{n:Int}{s:Ls}{l:List RV}(h:md k (.mk sh n s l)):l.length<=803/\∀r∈l,md k r:=by
 cases k with
 |zero=>have h':l=[]:=h;subst h';exact⟨by simp,fun r hr=>by simp at hr⟩
 |succ k=>exact⟨h.1,fun r hr=>(h.2 r hr).up⟩
theorem bI.elem{w:World}{B:Nat->Prop}{k i:Nat}{v:FV}{sh:Nat}{n:Int}{s:Ls}{l:List RV}{r:RV}(h:bI w B k v (.mk sh n s l))(hi:l[i]?=some r):∃k' g f,v.la=some ⟨g,0,none⟩/\B g/\w.cell? ⟨g,i*4,none⟩=some (.int .i64 (FV.sh f))/\w.cell? ⟨g,i*4+1,none⟩=some (.int .i64 f.n)/\w.cell? ⟨g,i*4+2,none⟩=some (.string f.s)/\w.cell? ⟨g,i*4+3,none⟩=some (.slice f.la f.ln f.lc)/\bI w B k' f r:=by
 cases k with
 |zero=>obtain⟨_,_,_,h4,_⟩:=h;subst h4;simp at hi
 |succ k=>
  obtain⟨_,_,_,_,fs,h5,h6,h7⟩:=h;rcases h6 with e|⟨g,hg,ha,h6⟩
  ·subst e;simp at hi
  ·have hil:=(KO.1 hi).1
   have hf:=KM (show i<fs.length by omega);obtain⟨c0,c1,c2,c3⟩:=h6 i _ hf;exact⟨k,g,_,ha,hg,c0,c1,c2,c3,h7 i _ r hf hi⟩
def Fs(w0:World)(aR:Option Addr)(nR cR:Nat)(aD:Option Addr)(cD:Nat)(aL:Option Addr)(cL:Nat)(Lv:List ap)(rows:List cy)(ty:dh):Prop:=
 ∀(W:World) (v:FV) (r:RV) (k:Nat),Lt w0 W->bI W (fun g=>g<W.heap.size) k v r->md 1603 r->
  Calls prog 48 #[.agg #[.slice aR nR cR,.slice aD Lv.length cD],bw v,.string (ci ty),.slice aL rows.length cL] W fun e w'=>e=.returned (.bool (fk (fH Lv rows) ty r))/\Lt W w'
theorem bI.parts{w:World}{B:Nat->Prop}{k:Nat}{v:FV}{sh:Nat}{n:Int}{s:Ls}{l:List RV}(h:bI w B k v (.mk sh n s l)):v.sh=sh/\v.n=n/\v.s=s/\v.ln=l.length:=by
 cases k with
 |zero=>obtain⟨h1,h2,h3,h4,h5⟩:=h;subst h4;exact⟨h1,h2,h3,h5⟩
 |succ k=>obtain⟨h1,h2,h3,h4,_⟩:=h;exact⟨h1,h2,h3,h4⟩
theorem E9(ty:dh)(R:Ls->Ls->Bool)(sh:Nat)(n:Int)(s:Ls)(l:List RV)(h:sh=0\/sh=6):fk R ty (.mk sh n s l)=true:=by
 cases ty<;>rw[fk,K9 h]
theorem ow{α:Type}{l:List α}{i:Nat}{x:α}(h:l[i]?=some x):l.drop i=x::l.drop (i+1):=by
 obtain⟨hl,rfl⟩:=KO.1 h;exact Lq hl
theorem Kz{w0 W:World}{aR:Option Addr}{nR cR:Nat}{aD:Option Addr}{cD:Nat}{aL:Option Addr}{cL:Nat}{Lv:List ap}{rows:List cy}(hE:uX w0 aD cD aL cL Lv rows)(hB:Lt w0 W)
 (c tt vs:Ls) (vn:Int) (vla:Option Addr) (vln vlc kc fi:Nat) (r:cy) (d tc:ap)
 (hi:∀W,Calls prog 87 #[.string tt] W fun e w'=>e=.returned (.string ⟨#[]⟩)/\w'=W) (hc:∀W,Calls prog 88 #[.string tt] W fun e w'=>e=.returned (.string c)/\w'=W)
 (b1:(c.toList==[73,110,116])=false) (b2:(c.toList==[83,116,114,105,110,103])=false) (b3:(c.toList==[73,68])=false) (b4:(c.toList==[66,111,111,108,101,97,110])=false)
 (hkc:ah (Lv.map ap.name) c=kc) (htc:Lv[kc]?=some tc) (hfi:ah (rows.map cy.id) vs=fi) (hr:rows[fi]?=some r) (hd:Lv[r.d]?=some d):
 Calls prog 48 #[.agg #[.slice aR nR cR,.slice aD Lv.length cD],.agg #[.int .i64 4,.int .i64 vn,.string vs,.slice vla vln vlc],.string tt,.slice aL rows.length cL] W fun e w'=>e=.returned (.bool (!(d.name.toList==[81,117,101,114,121])&&l9 d tc r.d kc))/\Lt W w':=by
 have hll:=hE.ll;have hdl:=hE.dl;have hfil:=(KO.1 hr).1;have hof:=fun W (hW:Lt w0 W)=>Fc aR nR cR (.slice aD Lv.length cD) Lv d tc r.d kc W (hE.d.below hW) hd htc (by omega) (hE.da d (KN hd)).1 (hE.da tc (KN htc)).1 (hE.da tc (KN htc)).2;have hdf:=fun W (hW:Lt w0 W)=>sq aR nR cR (.slice aD Lv.length cD) c (Lv.map ap.name) W ((hE.d.below hW).names) (by simp;omega);have hf:=fun W (hW:Lt w0 W)=>wN (.slice aL rows.length cL) vs (rows.map cy.id) W ((hE.l.below hW).names) (by simp;omega);rw[hkc]at hdf;rw[hfi]at hf;obtain⟨gL,aN,cN,aV,cV,fs,e,r0,r1,r2,r3,_⟩:=(hE.l.below hB).at hr;subst e;obtain⟨gD,aF,cF,aA,cA,aT,cT,e,d0,d1,d2,d3,d4,d5,_⟩:=(hE.d.below hB).at hd;subst e;have hrd:=hE.rd r (KN hr);have HOF:=aa hof;have HDF:=aa hdf;generalize hq:(!(d.name.toList==[81,117,101,114,121])&&l9 d tc r.d kc)=q;have HG:=aa hq;clear hfi hkc hd htc hr hof hdf hq;go_enter func48,ntmps48;go_wp2_with fail;refine(hi _).mono ?_;rintro _ w' ⟨rfl,hw'⟩;have hw':=hw'.symm;subst hw';go_wp2_with fail;refine(hc _).mono ?_;rintro _ w' ⟨rfl,hw'⟩;have hw':=hw'.symm;subst hw';go_wp2_with fail;refine(hf _ (bA (bA hB _) _)).mono ?_;rintro _ w' ⟨rfl,hw'⟩;have hw':=hw'.symm;subst hw';go_wp2_with fail;obtain⟨X1,X2,X3⟩:=uw W (.cells #[.slice aR nR cR,.slice (some ⟨gD,0,none⟩) Lv.length cD] 62) (.cells #[.int .i64 4,.int .i64 vn,.string vs,.slice vla vln vlc] 119);generalize (W.alloc (.cells #[.slice aR nR cR,.slice (some ⟨gD,0,none⟩) Lv.length cD] 62)).alloc (.cells #[.int .i64 4,.int .i64 vn,.string vs,.slice vla vln vlc] 119)=W2 at*;have cx:=ae X1;have hlx:=ag X1;have r0:=ao X3 r0;have d1:=ao X3 d1;have HX3:=aa X3;have HB2:=aa (bT hB X3);clear r1 r2 r3 d0 d2 d3 d4 d5 hi hc hf X1 X2 X3 hB hE b1 b2 b3 b4;generalize l9 d tc r.d kc=qo at*;cases bq:(d.name.toList==[81,117,101,114,121])
 rotate_left
 ·rw[bq]at HG
  go_quiet (fail);go_wp2_with fail;go_ret;exact⟨am (by rw[<-HG.o];rfl),below_drewN HX3.o _⟩
 ·rw[bq]at HG
  have hi0:(0:Int)<=(fi:Int):=by omega
  have hi1:(fi:Int)<(rows.length:Int):=by omega
  have hk0:(0:Int)<=(r.d:Int):=by omega
  have hk1:(r.d:Int)<(Lv.length:Int):=by omega
  have HS:=aa (fun V (hV:Lt W2 V)=>And.intro hV (And.intro (ao hV r0) (And.intro (ao hV d1) (fun k=>(hV.cell (p:=⟨W.heap.size,k,none⟩) hlx).trans (cx k)))));clear r0 d1 cx;go_region_held3 (fun V=>Lt W2 V/\V.cell? ⟨gL,fi*4,none⟩=some (.int .i64 r.d)/\V.cell? ⟨gD,r.d*6+1,none⟩=some (.string d.name)/\∀k,V.cell? ⟨W.heap.size,k,none⟩=(#[.slice aR nR cR,.slice (some ⟨gD,0,none⟩) Lv.length cD]:Array Value)[k]?)
   (first|exact HS.o _ (KL _ _).drew|exact HS.o _ (bT bh b2)|exact HS.o _ (bT bh b1))
   (first
   |(go_at_call 74;obtain⟨bh, -⟩:= ‹Lt W2 _/\_›;refine(HDF.o _ (bT HB2.o bh)).mono ?_;rintro _ w1 ⟨rfl,b1⟩)
   |(go_at_call 89;obtain⟨bh, -⟩:= ‹Lt W2 _/\_›;refine(HOF.o _ (bT HB2.o bh)).mono ?_;rintro _ w2 ⟨rfl,b2⟩))
  all_goals(obtain⟨bh, -⟩:= ‹Lt W2 _/\_›;(try go_wp2_with fail);go_ret;exact⟨am (by rw[<-HG.o];simp),bT HX3.o bh⟩)
theorem JM{w0:World}{aR:Option Addr}{nR cR:Nat}{aD:Option Addr}{cD:Nat}{aL:Option Addr}{cL:Nat}{Lv:List ap}{rows:List cy}(hE:uX w0 aD cD aL cL Lv rows):
 ∀(ty:dh),fZ ty->(ci ty).size<=100000->(co (bN ty)=true\/¬ah (Lv.map ap.name) (bN ty)<0)->Fs w0 aR nR cR aD cD aL cL Lv rows ty:=by
 intro ty
 induction ty with
 |one c st=>
  intro hwf hsz hcore W v r k hB hv hsm;obtain⟨sh,n,s,l⟩:=r;obtain⟨vsh,vn,vs,vla,vln,vlc⟩:=v;obtain⟨e1,e2,e3,e4⟩:=hv.parts;simp only at e1 e2 e3 e4;subst e1 e3;have hi:=fun W=>yI (ci (.one c st)) W (xG _ hwf) (fun e=>by rw[qV _ hwf]at e;simp[mw]at e) hsz;rw[Kh c st hwf]at hi;have hc:=fun W=>vm (ci (.one c st)) W hsz;rw[tF _ hwf]at hc;simp only[bN]at hc hcore;have hq:fk (fH Lv rows) (.one c st) (.mk vsh n vs l)=if vsh=0\/vsh=6 then true else if (c.toList==[73,110,116])=true then decide (vsh=1)else if ((c.toList==[83,116,114,105,110,103])||(c.toList==[73,68]))=true then decide (vsh=2)else if (c.toList==[66,111,111,108,101,97,110])=true then decide (vsh=3)else decide (vsh=4)&&fH Lv rows c vs:=by
   have e:∀(l:List UInt8),(c.toList==l)=decide (c=aE l):=fun l=>by rw[<-bY,Lib.toList_data (aE l)];simp[aE]
   simp only[fk,e,Bool.or_eq_true,Lc];rfl
  have hsc:co c=((c.toList==[73,110,116])||(c.toList==[83,116,114,105,110,103])||(c.toList==[66,111,111,108,101,97,110])||(c.toList==[73,68])):=xA c;have HQ:=aa hq;have HSC:=aa hsc;have HCO:=aa hcore;generalize fk (fH Lv rows) (.one c st) (.mk vsh n vs l)=q at*;generalize ci (.one c st)=tt at*;simp only[bw];clear hq hsc hcore hv hsm e2 e4;by_cases h06:vsh=0\/vsh=6
  ·have HT:=aa (show q=true from by rw[HQ.o,K9 h06])
   have h1:(((vsh:Int)==0)||((vsh:Int)==6))=true:=by simp;omega
   cases h2:((vsh:Int)==0)<;>rw[h2]at h1;all_goals
    go_enter func48,ntmps48;go_wp2_with fail;go_ret;refine⟨am HT.o.symm,?_⟩;repeat' with_reducible first|exact KL _ _|refine bA ?_ _
  ·have h0:((vsh:Int)==0)=false:=by simp;omega
   have h6:((vsh:Int)==6)=false:=by simp;omega
   have HT:=aa (HQ.o.trans (K8 h06));clear HQ h06;cases b1:(c.toList==[73,110,116])<;>cases b2:(c.toList==[83,116,114,105,110,103])<;>cases b3:(c.toList==[73,68])<;>cases b4:(c.toList==[66,111,111,108,101,97,110])<;>rw[b1,b2,b3,b4]at HT HSC
   case false.false.false.false=>
    obtain⟨kc,tc,hkc,htc,_,hkcl⟩:=iW ap.name Lv c (by
     rcases HCO.o with e|e
     ·rw[HSC.o]at e;cases e
     ·exact e)
    have HT2:=aa (show q=(decide (vsh=4)&&fH Lv rows c vs)from HT.o);have hf:=fun W (hW:Lt w0 W)=>wN (.slice aL rows.length cL) vs (rows.map cy.id) W ((hE.l.below hW).names) (by simp;have:=hE.ll;omega);have hll:=hE.ll;have hdl:=hE.dl;clear HT HSC HCO;by_cases hneg:ah (rows.map cy.id) vs<0
    ·have HR:=aa (show fH Lv rows c vs=true from by unfold fH;rw[K9 hneg])
     generalize ah (rows.map cy.id) vs=fi at*;go_enter func48,ntmps48;go_wp2_with fail;refine(hi _).mono ?_;rintro _ w' ⟨rfl,hw'⟩;have hw':=hw'.symm;subst hw';go_wp2_with fail;refine(hc _).mono ?_;rintro _ w' ⟨rfl,hw'⟩;have hw':=hw'.symm;subst hw';go_wp2_with fail;refine(hf _ (bA (bA hB _) _)).mono ?_;rintro _ w' ⟨rfl,hw'⟩;have hw':=hw'.symm;subst hw';go_wp2_with fail;all_goals
      go_ret;refine⟨am (by rw[HT2.o,HR.o,Bool.and_true,Bool.eq_iff_iff];simp;omega),?_⟩;repeat' with_reducible first|exact KL _ _|refine bA ?_ _
    ·obtain⟨fi,r,hfi,hr,_,hfil⟩:=iW cy.id rows vs hneg
     obtain⟨d,hd⟩:∃d,Lv[r.d]?=some d:=⟨_,KM (hE.rd r (KN hr))⟩;have HR:=aa (show fH Lv rows c vs=(!(d.name.toList==[81,117,101,114,121])&&l9 d tc r.d kc)from by
      unfold fH;rw[K8 hneg,hfi,Lk,hr,hkc,Lk];simp only[hd,htc];rw[<-bY,Lib.toList_data kC];rfl)
     have HK:=aa (⟨hkc,htc,hfi,hr,hd⟩:ah (Lv.map ap.name) c=kc/\Lv[kc]?=some tc/\ah (rows.map cy.id) vs=fi/\rows[fi]?=some r/\Lv[r.d]?=some d);rw[hfi]at hf;clear hneg hfi hkc hd htc hr;by_cases h4:vsh=4
     rotate_left
     ·have h4':((vsh:Int)!=4)=true:=by simp;omega
      have HF:=aa (show q=false from by rw[HT2.o,KT h4];rfl);go_enter func48,ntmps48;go_wp2_with fail;refine(hi _).mono ?_;rintro _ w' ⟨rfl,hw'⟩;have hw':=hw'.symm;subst hw';go_wp2_with fail;refine(hc _).mono ?_;rintro _ w' ⟨rfl,hw'⟩;have hw':=hw'.symm;subst hw';go_wp2_with fail;refine(hf _ (bA (bA hB _) _)).mono ?_;rintro _ w' ⟨rfl,hw'⟩;have hw':=hw'.symm;subst hw';go_wp2_with fail;go_ret;refine⟨am (by rw[HF.o];simp;omega),?_⟩;repeat' with_reducible first|exact KL _ _|refine bA ?_ _
     ·subst h4
      have HG:=aa (show q=(!(d.name.toList==[81,117,101,114,121])&&l9 d tc r.d kc)from by rw[HT2.o,HR.o];rfl);rw[HG.o];exact Kz hE hB c tt vs vn vla vln vlc kc fi r d tc hi hc b1 b2 b3 b4 HK.o.1 HK.o.2.1 HK.o.2.2.1 HK.o.2.2.2.1 HK.o.2.2.2.2
   all_goals
    simp only[Lj,if_false,if_true,Bool.or_false,Bool.or_true,Bool.or_self]at HT;go_enter func48,ntmps48;go_wp2_with fail;refine(hi _).mono ?_;rintro _ w' ⟨rfl,hw'⟩;have hw':=hw'.symm;subst hw';go_wp2_with fail;refine(hc _).mono ?_;rintro _ w' ⟨rfl,hw'⟩;have hw':=hw'.symm;subst hw';go_wp2_with fail;go_ret;refine⟨am (by rw[HT.o,Bool.eq_iff_iff];simp;omega),?_⟩;repeat' with_reducible first|exact KL _ _|refine bA ?_ _
 |list t st ih=>
  intro hwf hsz hcore W v r k hB hv hsm;obtain⟨sh,n,s,l⟩:=r;obtain⟨vsh,vn,vs,vla,vln,vlc⟩:=v;obtain⟨e1,e2,e3,e4⟩:=hv.parts;simp only at e1 e2 e3 e4;by_cases h06:sh=0\/sh=6
  ·rw[E9 _ _ _ _ _ _ h06]
   have h1:((vsh:Int)==0||(vsh:Int)==6)=true:=by rw[e1];simp;omega
   simp only[bw];clear ih e1 e2 e3 e4 hv;cases h2:((vsh:Int)==0)<;>rw[h2]at h1;all_goals
    go_enter func48,ntmps48;go_wp2_with fail;go_ret;refine⟨rfl,?_⟩;repeat' with_reducible first|exact KL _ _|refine bA ?_ _
  ·have h0:((vsh:Int)==0)=false:=by rw[e1];simp;omega
   have h6:((vsh:Int)==6)=false:=by rw[e1];simp;omega
   have hwt:fZ t:=hwf;have htz:(ci t).size<=(ci (.list t st)).size:=by rw[qD,qD];simp[dE];omega
   have hi:=fun W=>yI (ci (.list t st)) W (xG _ hwf) (fun _=>by
    rw[qD,BM _ hwf];simp only[dE];exact⟨by simp;omega,fun e=>by subst e;simp⟩) hsz
   rw[GO t st hwf]at hi;have hne:(ci t).toList.isEmpty=false:=by
    rw[kL,KT];intro e;have:=xG t hwt;rw[e]at this;exact absurd this (by decide)
   obtain⟨hll,Mo⟩:=hsm.one;have HQ:=aa (show fk (fH Lv rows) (.list t st) (.mk sh n s l)=(l.all (fk (fH Lv rows) t)&&decide (sh=5))from by rw[fk,K8 h06]);have HIH:=aa (ih hwt (by omega) hcore);have HV:=aa hv;have HS:=aa (And.intro e1 e4);have N7:=aa Mo;generalize fk (fH Lv rows) (.list t st) (.mk sh n s l)=q at*;generalize ci (.list t st)=tt at*;simp only[bw];rw[e4];clear ih e1 e2 e3 e4 hv Mo hsm h06 htz;go_enter func48,ntmps48;go_wp2_with fail;refine(hi _).mono ?_;clear hi;rintro _ w' ⟨rfl,hw'⟩;have hw':=hw'.symm;subst hw';go_wp2_with fail;obtain⟨X1,X2,X3⟩:=uw W (.cells #[.slice aR nR cR,.slice aD Lv.length cD] 62) (.cells #[.int .i64 vsh,.int .i64 vn,.string vs,.slice vla l.length vlc] 119);generalize (W.alloc (.cells #[.slice aR nR cR,.slice aD Lv.length cD] 62)).alloc (.cells #[.int .i64 vsh,.int .i64 vn,.string vs,.slice vla l.length vlc] 119)=W2 at*;have h12:=ag X2;go_loopg [10,11] l.length (fun m v10 v11 wr=>∃i:Nat,v10=.int .i64 i/\i<=l.length/\l.length-i<=m/\Lt W2 wr/\l.all (fk (fH Lv rows) t)=(l.drop i).all (fk (fH Lv rows) t))
   case atStart=>exact⟨0,rfl,KU _,KK _,KL _ _,rfl⟩
   case round=>
    obtain⟨i,rfl,hil,hm,hb,LZ⟩:=hrel;have hX:=(hb.block _ (ag X1)).trans X1;have hVb:=(hb.block _ h12).trans X2;have cX:=ae hX;have cV:=ae hVb;have HB:=aa (bT X3 hb);have HBW:=aa hb;have Mb:=aa LZ;have hlX:=ag hX;have hlV:=ag hVb;clear hX hVb LZ hb;by_cases hlt:i<l.length
    ·have hx:=KM hlt
     generalize l[i]=r at hx;have hva:=HV.o.frame (w':=wr) (B':=fun g=>g<wr.heap.size) (fun g hg o=>HB.o.cell (p:=⟨g,o,none⟩) hg) (fun g hg=>KV hg HB.o.size);obtain⟨k',g,f,ha,hg,c0,c1,c2,c3,hvf⟩:=hva.elem hx;simp only at ha;subst ha;have HC:=aa (fun W' (hW':Lt wr W')=>HIH.o W' f r k' (bT (bT hB HB.o) hW') (hvf.frame (fun g hg o=>hW'.cell (p:=⟨g,o,none⟩) hg) (fun g hg=>KV hg hW'.size)) (N7.o r (KN hx)));unfold bw at HC;have HD:=aa (show l.all (fk (fH Lv rows) t)=(fk (fH Lv rows) t r&&(l.drop (i+1)).all (fk (fH Lv rows) t))from by rw[Mb.o,ow hx];rfl);generalize fk (fH Lv rows) t r=qr at*;clear hva hvf HIH;go_upto_region 8 with fail;go_cut [11] (fun v11 wc=>v11=.bool qr/\Lt wr wc)
     case first=>
      go_region_with (go_at_call 48;refine(HC.o _ ?_).mono ?_;(first|exact(KL _ _).drew|exact KL _ _);rintro _ w' ⟨rfl,hb'⟩);all_goals(try go_wp2_with fail)
      all_goals(go_meet;exact⟨rfl,(KL _ _).drew.trans hb'⟩)
     case rest=>
      obtain⟨rfl,hbc⟩:=hcut;clear c0 c1 c2 c3 cX cV HC;cases qr
      ·go_wp2_with fail
       go_ret;exact⟨am (by rw[HQ.o,HD.o];rfl),bT HB.o hbc⟩
      ·go_wp2_with fail
       go_roundg (l.length-(i+1))
       case measure=>omega
       case rel=>exact⟨i+1,by go_num,by omega,KK _,bT HBW.o hbc,by rw[HD.o];rfl⟩
    ·have hie:i=l.length:=by omega
     subst hie;have HT:=aa (show q=decide (sh=5)from by rw[HQ.o,Mb.o,List.drop_length];rfl);cases h5:((vsh:Int)==5);all_goals
      go_wp2_with fail;go_ret;exact⟨am (by rw[HT.o,<-HS.o.1];simp at h5;simp;omega),HB.o⟩
noncomputable def tyOf (t:Ls):dh:=open Classical in if h:∃ty,fZ ty/\ci ty=t then Classical.choose h else .one ⟨#[]⟩ false
theorem Bp(ty:dh)(h:fZ ty):tyOf (ci ty)=ty:=by
 have hx:∃u,fZ u/\ci u=ci ty:=⟨ty,h,rfl⟩;unfold tyOf;rw[dif_pos hx];have hc:=Classical.choose_spec hx;exact uG _ _ hc.1 h (by rw[<-kW,<-kW,hc.2])
def lz(Lv:List ap):List cy->List bo->Bool
 |_,[]=>true
 |acc,y::ys=>(il Lv y&&decide (ah (acc.map cy.id) y.2.1<0))&&lz Lv (acc++[bO Lv y]) ys
noncomputable def MZ (Lv:List ap) (L:List cy) (d:ap) (p:Ls×RV):Bool:=match d.fields[(ah (d.fields.map bj.name) p.1).toNat]? with
 |some f=>fk (fH Lv L) (tyOf f.ty) p.2
 |none=>false
noncomputable def fitRow (Lv:List ap) (L:List cy) (r:cy):Bool:=match Lv[r.d]? with
 |some d=>(r.names.zip r.vals).all (MZ Lv L d)
 |none=>false
noncomputable def storeOk (Lv:List ap) (ys:List bo):Bool:=decide (ys.length<=200)&&(lz Lv [] ys&&(ys.map (bO Lv)).all (fitRow Lv (ys.map (bO Lv))))
abbrev LX:=cy×Value×Value×List FV
def pd(x:LX):List Value:=[.int .i64 x.1.d,.string x.1.id,x.2.1,x.2.2.1]
structure mS(w:World)(B0:Nat)(vL:Value)(xs:List LX):Prop where
 own:w.ownsRow B0 113 4 vL xs.length (xs.flatMap pd)
 sub:∀x∈xs,kN w (fun g=>B0<=g/\g<w.heap.size/\vL.ownBlock≠some g) x.2.1 x.2.2.1 x.1 x.2.2.2
theorem mS.far{w w':World}{B0:Nat}{vL:Value}{xs:List LX}(h:mS w B0 vL xs)(hf:∀k,B0<=k->k<w.heap.size->w'.heap[k]?=w.heap[k]?)(hs:w.heap.size<=w'.heap.size):mS w' B0 vL xs:=
 ⟨kQ h.own (fun k hk=>hf k (i7 h.own k hk) (ep h.own k hk)),fun x hx=>(h.sub x hx).frame (fun g hg o=>World.cell?_of_block (a:=⟨g,o,none⟩) (hf g hg.1 hg.2.1)) (fun _ hg=>⟨hg.1,KV hg.2.1 hs,hg.2.2⟩)⟩
theorem mS.push{w w':World}{B0 g' LM:Nat}{vL:Value}{xs:List LX}{x:LX}(h:mS w B0 vL xs)(hx:kN w (fun g=>B0<=g/\g<w.heap.size/\vL.ownBlock≠some g) x.2.1 x.2.2.1 x.1 x.2.2.2)
 (LJ:w'.ownsRow B0 113 4 (.slice (some ⟨g',0,none⟩) (xs.length+1) LM) (xs.length+1) (xs.flatMap pd++pd x)) (Nf:∀k,B0<=k->k<w.heap.size->vL.ownBlock≠some k->w'.heap[k]?=w.heap[k]?) (hwh:vL.ownBlock=some g'\/w.heap.size<=g') (hs:w.heap.size<=w'.heap.size):
 mS w' B0 (.slice (some ⟨g',0,none⟩) (xs.length+1) LM) (xs++[x]):=by
 have hfr:∀{z:LX},kN w (fun g=>B0<=g/\g<w.heap.size/\vL.ownBlock≠some g) z.2.1 z.2.2.1 z.1 z.2.2.2->kN w' (fun g=>B0<=g/\g<w'.heap.size/\(Value.slice (some ⟨g',0,none⟩) (xs.length+1) LM).ownBlock≠some g) z.2.1 z.2.2.1 z.1 z.2.2.2:=fun hh=>
  hh.frame (fun g hg o=>World.cell?_of_block (a:=⟨g,o,none⟩) (Nf g hg.1 hg.2.1 hg.2.2)) (fun g hg=>⟨hg.1,KV hg.2.1 hs,fun e=>by
   have e':g'=g:=KY e;rcases hwh with q|q
   ·exact hg.2.2 (by rw[<-e'];exact q)
   ·have:=hg.2.1;omega⟩)
 refine⟨by rw[Lb,List.flatMap_append];simpa using LJ,fun z hz=>?_⟩;rcases List.mem_append.1 hz with q|q
 ·exact hfr (h.sub z q)
 ·simp at q;subst q;exact hfr hx
theorem CX:∀(xs:List LX) (a:Nat) (c:LX) (j:Nat),xs[a]?=some c->j<4->(xs.flatMap pd)[a*4+j]?=(pd c)[j]?
 |[],a,t,j,h,_=>by simp at h
 |x::ts,0,t,j,h,hj=>by
  simp at h;subst h;rw[List.flatMap_cons,Lf (by show _<4;omega)];simp
 |x::ts,a+1,t,j,h,hj=>by
  rw[List.flatMap_cons,Lg (by show 4<=_;omega)];rw[show(a+1)*4+j-(pd x).length=a*4+j by show(a+1)*4+j-4=_;omega];exact CX ts a t j (by simpa using h) hj
theorem mS.rows{w:World}{B0:Nat}{vL:Value}{xs:List LX}(h:mS w B0 vL xs):lN w vL (xs.map (·.1)):=by
 rcases h.own.2 with⟨hv,h0⟩|⟨g,cap,cur,hv,hg,hh,hr⟩
 ·have:xs=[]:=KZ h0
  subst this;exact⟨none,0,hv,KK _,Or.inl rfl⟩
 ·subst hv
  refine⟨some ⟨g,0,none⟩,cap,by rw[Ll],by rw[Ll];exact hr.1,Or.inr ⟨g,rfl,fun j r hj=>?_⟩⟩;rw[La]at hj;cases hx:xs[j]? with
  |none=>rw[hx]at hj;cases hj
  |some x=>
   rw[hx]at hj;cases hj;have hjl:j<xs.length:=(KO.1 hx).1;have q:∀i,i<4->w.cell? ⟨g,j*4+i,none⟩=(pd x)[i]?:=fun i hi=>by
    rw[h.own.cellAt _ (by omega)];exact CX xs j x i hx hi
   exact⟨q 0 (by omega),q 1 (by omega),x.2.1,x.2.2.1,x.2.2.2,q 2 (by omega),q 3 (by omega),(h.sub x (KN hx)).at (fun g hg=>hg.2.1)⟩
theorem xC(Lv:List ap):∀(ys:List bo) (acc:List cy),lz Lv acc ys=true->∀y∈ys,il Lv y=true
 |[],_,_,y,hy=>by simp at hy
 |z::ys,acc,h,y,hy=>by
  rw[lz,Li,Li]at h;rcases List.mem_cons.1 hy with e|e
  ·rw[e];exact h.1.1
  ·exact xC Lv ys _ h.2 y e
theorem wR{Lv:List ap}{y:bo}(h:il Lv y=true):(bO Lv y).d<Lv.length:=by
 unfold il at h;split at h
 ·rename_i d hd;exact(KO.1 hd).1
 ·cases h
theorem vz(LS:List bj):∀(cs:List dd) (seen:List Ls),ly LS seen cs=true->∀c∈cs,¬ah (LS.map bj.name) c.1<0
 |[],_,_,c,hc=>by simp at hc
 |z::cs,seen,h,c,hc=>by
  rw[ly,Li]at h;rcases List.mem_cons.1 hc with e|e
  ·rw[e]
   have h1:=h.1;unfold ql at h1;simp only[Li,Lc]at h1;have:=h1.2.2.1;omega
  ·exact vz LS cs _ h.2 c e
theorem Jy(x:Ls):ln (av x)<=801:=by
 cases h:av x with
 |none=>simp[ln]
 |some ts=>have:=(oc x ts h).2;simp[ln];omega
theorem info113:(prog.info? 113).map (fun i=>(i.zero,i.size,i.bytes))=some (some (.agg #[.int .i64 0,.string ⟨#[]⟩,.slice none 0 0,.slice none 0 0]),4,72):=by kernel_rfl
theorem I7(aR:Option Addr)(nR cR:Nat)(aD:Option Addr)(cD:Nat)(Lv:List ap)(aY:Option Addr)(cY:Nat)(ys:List bo)(w:World)(hD:i5 w (.slice aD Lv.length cD) Lv)(hY:eM w (.slice aY ys.length cY) ys)
 (hdl:Lv.length<=801) (hfl:∀d∈Lv,d.fields.length<=801/\d.Ly.length<=801/\d.sort<=2) (hty:∀d∈Lv,∀f∈d.fields,∃ty,fZ ty/\ci ty=f.ty/\f.ty.size<=100000/\(co (bN ty)=true\/¬ah (Lv.map ap.name) (bN ty)<0))
 (hyl:ys.length<=1000000) (hcl:∀y∈ys,y.2.2.length<=1000000/\∀c∈y.2.2,c.2.size<=maxLen):
 Calls prog 27 #[.agg #[.slice aR nR cR,.slice aD Lv.length cD],.slice aY ys.length cY] w fun e w'=>∃vL,e=.returned (.tuple #[vL,.bool (storeOk Lv ys)])/\(storeOk Lv ys=true->lN w' vL (ys.map (bO Lv)))/\(∃a n c,vL=.slice a n c)/\Lt w w':=by
 have HQ:=aa (storeOk.eq_1 Lv ys);have HTY:=aa hty;clear hty;obtain⟨iRw,hiRw,zR0,zR1,zR2⟩:=info_parts info113;generalize storeOk Lv ys=q at*;have HD:=aa hD;have HY:=aa hY;by_cases h200:200<ys.length
 ·have HF:=aa (show q=false from by rw[HQ.o,KT (by omega)];rfl)
  clear HQ hD hY;go_enter func27,ntmps27;go_wp2_with fail;exact bodyPost_ret (v:=.tuple #[.slice none 0 0,.bool false]) (by simp[results,results27,go_sem]) rfl ⟨.slice none 0 0,by rw[HF.o],fun e=>(by rw[HF.o]at e;cases e),⟨_,_,_,rfl⟩,bA (KL _ _) _⟩
 ·have HQ2:=aa (show q=(lz Lv [] ys&&(ys.map (bO Lv)).all (fitRow Lv (ys.map (bO Lv))))from by rw[HQ.o,Le (by omega)];rfl)
  clear HQ hD hY;go_enter func27,ntmps27;go_wp2_with fail;have X1:=mX w (.cells #[.slice aR nR cR,.slice aD Lv.length cD] 62);have X3:=bA (KL w.heap.size w) (.cells #[.slice aR nR cR,.slice aD Lv.length cD] 62);generalize w.alloc (.cells #[.slice aR nR cR,.slice aD Lv.length cD] 62)=W2 at*;have hlX:=ag X1;have HX1:=aa X1;have HX3:=aa X3;clear X1 X3;go_loopg [6,7,8,9,10] ys.length (fun m v6 v7 v8 v9 v10 wr=>∃(i:Nat) (xs:List LX),v7=.int .i64 i/\i<=ys.length/\ys.length-i<=m/\xs.length=i/\mS wr W2.heap.size v6 xs/\Lt W2 wr/\xs.map (·.1)=(ys.take i).map (bO Lv)/\lz Lv [] ys=lz Lv (xs.map (·.1)) (ys.drop i))
  case atStart=>exact⟨0,[],rfl,KU _,KK _,rfl,⟨K7 _ _ _ _,fun x hx=>by simp at hx⟩,KL _ _,rfl,rfl⟩
  case round=>
   obtain⟨i,xs,rfl,hil,hm,hxi,hL,hb,hxs,hg⟩:=hrel;obtain⟨aL,cL,hvL⟩:=bc hL.own;subst hvL;have hX:=(hb.block _ hlX).trans HX1.o;have cX:=ae hX;have hlX2:=ag hX;have HB:=aa hb;have HL:=aa hL;have HXS:=aa hxs;have HGS:=aa hg;have HXI:=aa hxi;have hxl:xs.length<=200:=by omega
   clear hL hb hxs hg hX hxi;by_cases hlt:i<ys.length
   ·have hx:=KM hlt
    generalize ys[i]=y at hx;obtain⟨gY,oY,aC,cC,e,y0,y1,y2,hyc⟩:=(HY.o.below (bT HX3.o HB.o)).at hx;subst e;have hgY:gY<wr.heap.size:=KQ wr _ y0;obtain⟨hc1,hc2⟩:=hcl y (KN hx);have HC:=aa (fun W (hW:Lt wr W)=>E7 aR nR cR aD cD Lv aC cC y W (HD.o.below (bT (bT HX3.o HB.o) hW)) (hyc.below hW) hdl (fun d hd=>(hfl d hd).1) hc1 hc2);have HFI:=aa (fun W (hW:Lt wr W)=>wN (.slice aL xs.length cL) y.2.1 ((xs.map (·.1)).map cy.id) W (by have:=((HL.o.rows).below hW).names;exact this) (by simp;omega));have HGY:=aa (show lz Lv [] ys=((il Lv y&&decide (ah ((xs.map (·.1)).map cy.id) y.2.1<0))&&lz Lv (xs.map (·.1)++[bO Lv y]) (ys.drop (i+1)))from by rw[HGS.o,ow hx];rfl);clear hyc;go_upto_region 7 with fail;go_cut [8,9] (fun v8 v9 wc=>∃(aN:Option Addr) (cN:Nat) (aV:Option Addr) (cV N:Nat) (r:cy) (fs:List FV),v8=.pointer (some ⟨N,0,none⟩)/\v9=.bool (il Lv y)/\wc.heap[N]?=some (.cells #[.int .i64 r.d,.string r.id,.slice aN r.names.length cN,.slice aV fs.length cV] 113 (0,0))/\Lt wr wc/\kN wc (fun g=>wr.heap.size<=g/\g<wc.heap.size) (.slice aN r.names.length cN) (.slice aV fs.length cV) r fs/\(il Lv y=true->r=bO Lv y)/\wr.heap.size<=N)
    case first=>
     go_region_with (go_at_call 46;refine(HC.o _ ?_).mono ?_;(first|exact(KL _ _).drew|exact KL _ _|exact bA (KL _ _) _|exact(bA (KL _ _) _).drew|exact bA (KL _ _).drew _);rintro _ w1 ⟨vN,vV,r,fs,rfl,Ma,hro,b1⟩;obtain⟨aN,cN,hvN,_⟩:=id Ma.n;subst hvN;obtain⟨aV,cV,hvV,_⟩:=id Ma.v;subst hvV;(try(have hz:w1.heap[wr.heap.size]?=some (.cells #[.int .i64 0,.string ⟨#[]⟩,.slice none 0 0,.slice none 0 0] 113):=(by first|exact(b1.block _ (by simp)).trans (KS wr _));have hzc:=ae hz;have hzf:=ar hz;have hzl:=ag hz)));all_goals(try go_wp2_with fail)
     all_goals(
      go_meet;first
      |(have bW:Lt wr w1:=(by first|exact b1|exact(KL _ _).drew.trans b1)
        exact⟨aN,cN,aV,cV,w1.heap.size,r,fs,rfl,rfl,KS w1 _,bA bW _,Ma.frame (fun g hg o=>(bA (KL w1.heap.size w1) _).cell (p:=⟨g,o,none⟩) hg.2) (fun g hg=>⟨hg.1,by have:=hg.2;simp;omega⟩),hro,bW.size⟩)
      |(have bW:Lt wr w1:=(by refine bT ?_ b1;first|exact bA (KL _ _) _|exact(bA (KL _ _) _).drew|exact bA (KL _ _).drew _)
        refine⟨aN,cN,aV,cV,wr.heap.size,r,fs,rfl,rfl,rD hz _ _ _ _,?_,Ma.frame (fun g hg o=>World.cell?_of_block (a:=⟨g,o,none⟩) (fD _ _ g (by have:=hg.1;simp at this;omega) _ _ _ _)) (fun g hg=>⟨by have:=hg.1;simp at this;omega,by have:=hg.2;simp[World.setCell];omega⟩),hro,KK _⟩;repeat' with_reducible first|exact bW|refine bS ?_ _ (KK _) _))
    case rest=>
     obtain⟨aN,cN,aV,cV,N,r,fs,rfl,rfl,hr,hbc,Ma,hro,hN⟩:=hcut;have hr0:=ae hr;have hfN:=ar hr;have hlN:=ag hr;have y1:=ao hbc y1;have hgYc:gY<wc.heap.size:=KV hgY hbc.size;have HBC:=aa hbc;have HR:=aa hr;have No:=aa Ma;have HRO:=aa hro;have HF2:=aa (HFI.o wc HBC.o);have hlr:(xs.map (·.1)).length=xs.length:=by simp
     clear HC HFI hbc hr Ma hro cX y0 y2;generalize ah ((xs.map (·.1)).map cy.id) y.2.1=fi at*;have RET:=aa (fun(X:World) (hX:Lt wc X) (hq:lz Lv [] ys=false)=>show∃vL,Ending.returned (Value.tuple #[.slice none 0 0,.bool false])=.returned (.tuple #[vL,.bool q])/\(q=true->lN X vL (ys.map (bO Lv)))/\(∃a n c,vL=.slice a n c)/\Lt w X from
      have hq':q=false:=by rw[HQ2.o,hq];rfl
      ⟨_,by rw[hq'],fun e=>(by rw[hq']at e;cases e),⟨_,_,_,rfl⟩,bT (bT (bT HX3.o HB.o) HBC.o) hX⟩)
     cases hok:il Lv y
     ·rw[hok]at HGY
      go_wp2_with fail;refine HF2.o.mono ?_;rintro _ w' ⟨rfl,hw'⟩;have hw':=hw'.symm;subst hw';go_wp2_with fail;exact bodyPost_ret (v:=.tuple #[.slice none 0 0,.bool false]) (by simp[results,results27,go_sem]) rfl (RET.o _ (KL _ _) (by rw[HGY.o];rfl))
     ·rw[hok]at HGY HRO
      by_cases hfi:fi<0
      rotate_left
      ·have hge:decide ((0:Int)<=fi)=true:=by simp;omega
       go_wp2_with fail;refine HF2.o.mono ?_;rintro _ w' ⟨rfl,hw'⟩;have hw':=hw'.symm;subst hw';go_wp2_with fail;exact bodyPost_ret (v:=.tuple #[.slice none 0 0,.bool false]) (by simp[results,results27,go_sem]) rfl (RET.o _ (KL _ _) (by rw[HGY.o,KT (by omega)];rfl))
      ·have hge:decide ((0:Int)<=fi)=false:=by simp;omega
       go_wp2_with fail;refine HF2.o.mono ?_;rintro _ w' ⟨rfl,hw'⟩;have hw':=hw'.symm;subst hw';have HL2:=aa (HL.o.far (w':=wc) (fun k h1 h2=>HBC.o.block k h2) HBC.o.size);have M8:=HBC.o.size;have hszw:=HB.o.size;go_wp2_with (at_builtin;refine wpList_append_lies _ rfl _ _ 76 rfl W2.heap.size 113 iRw _ 4 72 underlying76 hiRw zR0 zR1 zR2 rfl (by decide) _ _ _ rfl (HL2.o.own.alloc _) ⟨wc.heap.size,0,none⟩ 1 1 [.int .i64 r.d,.string r.id,.slice aN r.names.length cN,.slice aV fs.length cV] rfl rfl (de _ _ _ _ (by simp)) (uD rfl rfl rfl rfl) (by decide) (by unfold maxLen;omega) (by omega) (by simp;omega) (wc.heap.size+1) (by simp) ?_;intro g' LM x3 hown' hgrow hwh hgs;have MS:=aa hown';have LT:=aa hgrow;have HWH:=aa hwh;clear hown' hgrow hwh);have hgz:=LT.o.size;simp at hgz;have MX:=aa (show∀j,j<wc.heap.size->(Value.slice aL xs.length cL).ownBlock≠some j->x3.heap[j]?=wc.heap[j]? from fun j h1 h2=>(LT.o.block j (by simp;omega) (fun e=>h2 e.symm)).trans (bp _ _ _ h1));have hlt':∀j,(Value.slice aL xs.length cL).ownBlock=some j->j<wr.heap.size:=fun j hj=>ep HL.o.own j hj;have HRW:=aa (HRO.o (by simp));go_roundg (ys.length-(i+1))
       case measure=>omega
       case rel=>
        refine⟨i+1,xs++[(r,.slice aN r.names.length cN,.slice aV fs.length cV,fs)],by go_num,by omega,KK _,by simp[HXI.o],?_,?_,?_,?_⟩
        ·exact HL2.o.push (x:=(r,.slice aN r.names.length cN,.slice aV fs.length cV,fs)) (No.o.frame (fun _ _ _=>rfl) (fun g hg=>⟨by omega,hg.2,fun e=>by have:=hlt' g e;omega⟩)) MS.o (fun k _ h2 h3=>MX.o k h2 h3) (HWH.o.imp (fun e=>e) (fun e=>by omega)) (by omega)
        ·have hb:=bT HB.o HBC.o
         exact⟨LT.o.os.trans hb.os,LT.o.tape.trans hb.tape,LT.o.output.trans hb.output,by have:=hb.size;omega,fun j hj=>(MX.o j (by omega) (jC HL.o.own (by omega))).trans (hb.block j hj)⟩
        ·rw[Ld,hx,Lr,HXS.o];simp[HRW.o]
        ·rw[HGY.o,Le hfi];simp[HRW.o]
   ·have hie:i=ys.length:=by omega
    subst hie;have HG1:=aa (show q=(ys.map (bO Lv)).all (fitRow Lv (ys.map (bO Lv)))from by rw[HQ2.o,HGS.o,List.drop_length];rfl);have HX2:=aa (show xs.map (·.1)=ys.map (bO Lv)from by rw[HXS.o,List.take_length]);have Mb:=aa (xC Lv ys [] (by rw[HGS.o,List.drop_length];rfl));have HRD:=aa (show∀r∈xs.map (·.1),∃y∈ys,r=bO Lv y/\il Lv y=true from fun r hr=>by
     rw[HX2.o]at hr;obtain⟨y,hy,rfl⟩:=List.mem_map.1 hr;exact⟨y,hy,rfl,Mb.o y hy⟩)
    have HE:=aa (show uX wr aD cD aL cL Lv (xs.map (·.1))from⟨HD.o.below (bT HX3.o HB.o),by rw[Ll];exact HL.o.rows,hdl,by simp;omega,fun d hd=>⟨(hfl d hd).2.1,(hfl d hd).2.2⟩,fun r hr=>by
     obtain⟨y,_,rfl,hy⟩:=HRD.o r hr;exact wR hy⟩)
    obtain⟨wo,rfl⟩:∃wo:World,wo=wr:=⟨_,rfl⟩;clear HGS HQ2 HXS hm cX;go_wp2_with fail;go_loopg [11,12,13,14] xs.length (fun m v11 v12 v13 v14 wr=>∃i:Nat,v11=.int .i64 i/\i<=xs.length/\xs.length-i<=m/\Lt wo wr/\q=((xs.map (·.1)).drop i).all (fitRow Lv (xs.map (·.1))))
    case atStart=>exact⟨0,rfl,KU _,KK _,KL _ _,by rw[HG1.o,HX2.o];rfl⟩
    case round=>
     obtain⟨i,rfl,hix,hm,hb,hq⟩:=hrel;have HBO:=aa hb;have HQO:=aa hq;clear hb hq;by_cases Ml:i<xs.length
     ·obtain⟨r,hr⟩:∃r,(xs.map (·.1))[i]?=some r:=⟨_,KM (by simpa using Ml)⟩
      have hrm:=KN hr;obtain⟨d,hd⟩:∃d,Lv[r.d]?=some d:=⟨_,KM (HE.o.rd r hrm)⟩;have hdm:=KN hd;have hrd:=HE.o.rd r hrm;obtain⟨gL,aN,cN,aV,cV,fs,e,_,_,_,_,_⟩:=HE.o.l.at hr;subst e;have HLR:=aa (fun W (hW:Lt wo W)=>(HE.o.l.below hW).at hr);have HDD:=aa (fun W (hW:Lt wo W)=>(HE.o.d.below hW).at hd);have HRR:=aa (And.intro hr hd);have HZ:=aa (show q=((r.names.zip r.vals).all (MZ Lv (xs.map (·.1)) d)&&((xs.map (·.1)).drop (i+1)).all (fitRow Lv (xs.map (·.1))))from by
       rw[HQO.o,ow hr];show(fitRow _ _ _&&_)=_;unfold fitRow;simp only[hd])
      have hnl:r.names.length<=1000000:=by
       obtain⟨y,hy,rfl,_⟩:=HRD.o r hrm;simpa [bO]using(hcl y hy).1
      have hve:r.vals.length=r.names.length:=by
       obtain⟨y,hy,rfl,_⟩:=HRD.o r hrm;simp[bO]
      obtain⟨qz,HQZ⟩:∃qz,Hi ((r.names.zip r.vals).all (MZ Lv (xs.map (·.1)) d)=qz):=⟨_,aa rfl⟩;rw[HQZ.o]at HZ;have HVE:=aa hve;obtain⟨wp,rfl⟩:∃wp:World,wp=wr:=⟨_,rfl⟩;obtain⟨gL',aN',cN',aV',cV',fs',e,l0,l1,l2,l3,_⟩:=HLR.o wp HBO.o;cases e;have hgL:gL<wp.heap.size:=KQ wp _ l0;clear hve hr hd;go_wp2_with fail;go_loopg [12,13,14] r.names.length (fun m v12 v13 v14 wr=>∃j:Nat,v12=.int .i64 j/\j<=r.names.length/\r.names.length-j<=m/\Lt wo wr/\qz=((r.names.zip r.vals).drop j).all (MZ Lv (xs.map (·.1)) d))
      case atStart=>exact⟨0,rfl,KU _,KK _,HBO.o,HQZ.o.symm⟩
      case round=>
       clear l0 l1 l2 l3 hgL;obtain⟨j,rfl,hjn,hm2,hb,hq⟩:=hrel;have HBJ:=aa hb;have HQJ:=aa hq;obtain⟨gL',aN',cN',aV',cV',fs',e,l0,l1,l2,l3,Ma⟩:=HLR.o wr hb;cases e;have hgL:gL<wr.heap.size:=KQ wr _ l0;clear hb hq;by_cases hlt3:j<r.names.length
       ·obtain⟨n,hn⟩:∃n,r.names[j]?=some n:=⟨_,KM hlt3⟩
        obtain⟨rv,hrv⟩:∃rv,r.vals[j]?=some rv:=⟨_,KM (by rw[HVE.o];exact hlt3)⟩;have hfv:fs'.length=r.names.length:=by rw[Ma.l.1,HVE.o]
        obtain⟨f,hf⟩:∃f,fs'[j]?=some f:=⟨_,KM (by rw[hfv];exact hlt3)⟩;obtain⟨a1,k1,e1,_,hN⟩:=Ma.n;cases e1;obtain⟨gN,oN,e,hN2⟩:=hN.resolve_left (fun e=>by rw[e]at hlt3;simp at hlt3);subst e;have n0:=hN2 j n hn;obtain⟨a2,k2,e2,_,hV⟩:=Ma.v;cases e2;obtain⟨gV,oV,e,hV2⟩:=hV.resolve_left (fun e=>by rw[e]at hf;simp at hf);subst e;obtain⟨v0,v1,v2,v3⟩:=hV2 j f hf;have hva:=Ma.l.2 j f rv hf hrv;rw[hfv]at l3;have hgN:gN<wr.heap.size:=KQ wr _ n0;have hgV:gV<wr.heap.size:=KQ wr _ v0;obtain⟨gD,aF,cF,aA,cA,aT,cT,e,d0,d1,d2,d3,d4,d5,hda⟩:=HDD.o wr HBJ.o;subst e;have hgD:gD<wr.heap.size:=KQ wr _ d0;have cX:=ae (((bT HB.o HBJ.o).block _ hlX).trans HX1.o);have hlX3:w.heap.size<wr.heap.size:=KV hlX (bT HB.o HBJ.o).size;obtain⟨y,hy,hyr,hyo⟩:=HRD.o r hrm;have Og:¬ah (d.fields.map bj.name) n<0:=by
         have hd:=HRR.o.2;subst hyr;unfold il at hyo;rw[show Lv[(ah (Lv.map ap.name) y.1).toNat]?=some d from hd]at hyo;simp only[Li]at hyo;have hm:=KN hn;obtain⟨c,hc,rfl⟩:=List.mem_map.1 (show n∈y.2.2.map (·.1)from hm);exact vz d.fields y.2.2 [] hyo.2.2.2 c hc
        obtain⟨fi,fld,hfi,NA,_,hfil⟩:=iW bj.name d.fields n Og;obtain⟨ty,hwf,hty1,hty2,hty3⟩:=HTY.o d hdm fld (KN NA);have hsm:md 1603 rv:=by
         subst hyr;have hm:=KN hrv;obtain⟨c,hc,rfl⟩:=List.mem_map.1 (show rv∈y.2.2.map (fun c=>du c.2)from hm);exact(DI 1603).1 0 (av c.2) (Jy c.2)
        obtain⟨gF,e,f0,f1,f2,f3,f4⟩:=hda.f.at NA;cases e;have hgF:gF<wr.heap.size:=KQ wr _ f0;have hdfl:=(hfl d hdm).1;have HFN:=aa (fun W (hW:Lt wr W)=>rt d.sort d.name aA aT d.Ly.length cA d.Lw.length cT d.LC (.slice (some ⟨gF,0,none⟩) d.fields.length cF) n (d.fields.map bj.name) W ((hda.f.below hW).names) (by simp;omega));rw[hfi]at HFN;have HFT:=aa (fun W (hW:Lt wr W)=>JM (aR:=aR) (nR:=nR) (cR:=cR) HE.o ty hwf (by rw[hty1];exact hty2) (hty3.imp (fun e=>e) (fun e=>by omega)) W f rv 1603 (bT HBJ.o hW) (hva.frame (fun g hg o=>hW.cell (p:=⟨g,o,none⟩) hg) (fun g hg=>KV hg hW.size)) hsm);rw[hty1]at HFT;unfold bw at HFT;have HQN:=aa (show qz=(fk (fH Lv (xs.map (·.1))) ty rv&&((r.names.zip r.vals).drop (j+1)).all (MZ Lv (xs.map (·.1)) d))from by
         rw[HQJ.o,ow (show(r.names.zip r.vals)[j]?=some (n,rv)from by rw[List.getElem?_zip_eq_some];exact⟨hn,hrv⟩)];show(MZ _ _ _ (n,rv)&&_)=_;congr 1;unfold MZ;simp only[hfi,Lk,NA,<-hty1,Bp ty hwf])
        generalize fk (fH Lv (xs.map (·.1))) ty rv=qf at*;clear hN hV hN2 hV2 hva Ma hda Og hyo hfi NA hn hrv hf f0 f1 f3 f4 hty1 hty2 hty3 hsm hwf hrm hdm l1 hyr hfv hy;go_upto_region 18 with fail;go_cut [13] (fun v13 wc=>∃N,v13=.pointer (some ⟨N,0,none⟩)/\wr.heap.size<=N/\wc.heap[N]?=some (.cells #[.int .i64 d.sort,.string d.name,.slice (some ⟨gF,0,none⟩) d.fields.length cF,.slice aA d.Ly.length cA,.bool d.LC,.slice aT d.Lw.length cT] 96 (0,0))/\Lt wr wc)
        case first=>
         go_region;all_goals(try go_wp2_with fail)
         all_goals(go_meet;first
          |exact⟨wr.heap.size,rfl,KK _,KS wr _,bA (KL _ _) _⟩
          |exact⟨wr.heap.size,rfl,KK _,KS wr.drew _,bA (KL _ _).drew _⟩
          |exact⟨wr.heap.size,rfl,KK _,KS wr _,(bA (KL _ _) _).drew⟩
          |trace_state)
        case rest=>
         obtain⟨N,rfl,hNl,hDb,hbc⟩:=hcut;have c:=ae hDb;have hlN:=ag hDb;have HBC:=aa hbc;have n0:=ao hbc n0;have v0:=ao hbc v0;have v1:=ao hbc v1;have v2:=ao hbc v2;have v3:=ao hbc v3;have l2:=ao hbc l2;have l3:=ao hbc l3;have f2:=ao hbc f2;have cX:=fun k=>(hbc.cell (p:=⟨w.heap.size,k,none⟩) hlX3).trans (cX k);clear d0 d1 d2 d3 d4 d5 l0 hbc hDb;have hlXc:w.heap.size<wc.heap.size:=KV hlX3 HBC.o.size;have HFN2:=aa (fun W (hW:Lt wc W)=>HFN.o W (bT HBC.o hW));have HFT2:=aa (fun W (hW:Lt wc W)=>HFT.o W (bT HBC.o hW));simp only[Ll]at HFT2;clear HFN HFT;go_upto_region 19 with fail;go_cut [14] (fun v14 wd=>v14=.bool qf/\Lt wc wd)
         case first=>
          clear HQN HBC HBJ HQJ HLR HDD HRR HZ HQZ HVE HBO HQO Mb HRD HE HG1 HX2 HB HL HXI HX1 HX3 HD HY HTY hgL hgN hgV hgD hgF hlX hlX2 hlX3 hm hm2 hil hix hNl hcl hfl;have hj0:(0:Int)<=(j:Int):=by omega
          have hj1:(j:Int)<(r.names.length:Int):=by omega
          have hi0:(0:Int)<=(i:Int):=by omega
          have hi1:(i:Int)<(xs.length:Int):=by omega
          have hF0:(0:Int)<=(fi:Int):=by omega
          have hF1:(fi:Int)<(d.fields.length:Int):=by omega
          have HS:=aa (fun W (hW:Lt wc W)=>And.intro hW (And.intro (ao hW n0) (And.intro (ao hW v0) (And.intro (ao hW v1) (And.intro (ao hW v2) (And.intro (ao hW v3) (And.intro (ao hW l2) (And.intro (ao hW l3) (And.intro (ao hW f2) (And.intro (fun k=>(hW.cell (p:=⟨w.heap.size,k,none⟩) hlXc).trans (cX k)) (fun k=>(hW.cell (p:=⟨N,k,none⟩) hlN).trans (c k))))))))))));clear n0 v0 v1 v2 v3 l2 l3 f2 cX c;go_region_held3 (fun W=>Lt wc W/\W.cell? ⟨gN,oN+j,none⟩=some (.string n)/\W.cell? ⟨gV,oV+j*4,none⟩=some (.int .i64 f.sh)/\W.cell? ⟨gV,oV+j*4+1,none⟩=some (.int .i64 f.n)/\W.cell? ⟨gV,oV+j*4+2,none⟩=some (.string f.s)/\W.cell? ⟨gV,oV+j*4+3,none⟩=some (.slice f.la f.ln f.lc)/\W.cell? ⟨gL,i*4+2,none⟩=some (.slice (some ⟨gN,oN,none⟩) r.names.length cN')/\W.cell? ⟨gL,i*4+3,none⟩=some (.slice (some ⟨gV,oV,none⟩) r.names.length cV')/\W.cell? ⟨gF,fi*5+2,none⟩=some (.string fld.ty)/\(∀k,W.cell? ⟨w.heap.size,k,none⟩=(#[.slice aR nR cR,.slice (some ⟨gD,0,none⟩) Lv.length cD]:Array Value)[k]?)/\(∀k,W.cell? ⟨N,k,none⟩=(#[.int .i64 d.sort,.string d.name,.slice (some ⟨gF,0,none⟩) d.fields.length cF,.slice aA d.Ly.length cA,.bool d.LC,.slice aT d.Lw.length cT]:Array Value)[k]?))
           (first|exact HS.o _ (KL _ _).drew|exact HS.o _ (bT bh b1)|exact HS.o _ (bT bh b2))
           (first
           |(go_at_call 49;obtain⟨bh, -⟩:= ‹Lt wc _/\_›;refine(HFN2.o _ bh).mono ?_;rintro _ w1 ⟨rfl,b1⟩)
           |(go_at_call 48;obtain⟨bh, -⟩:= ‹Lt wc _/\_›;refine(HFT2.o _ bh).mono ?_;rintro _ w2 ⟨rfl,b2⟩))
          all_goals(try go_wp2_with fail)
          all_goals(obtain⟨bh, -⟩:= ‹Lt wc _/\_›;go_meet;exact⟨rfl,bh⟩)
         case rest=>
          obtain⟨rfl,hbd⟩:=hcut;have HBD:=aa (bT (bT HBJ.o HBC.o) hbd);clear v0 v1 v2 v3 l2 l3 f2 cX c n0 hbd;cases qf
          ·have HF:=aa (show q=false from by rw[HZ.o,HQN.o];rfl)
           go_wp2_with fail;exact bodyPost_ret (v:=.tuple #[.slice none 0 0,.bool false]) (by simp[results,results27,go_sem]) rfl ⟨.slice none 0 0,by rw[HF.o],fun e=>(by rw[HF.o]at e;cases e),⟨_,_,_,rfl⟩,bT (bT HX3.o HB.o) HBD.o⟩
          ·go_wp2_with fail
           go_roundg (r.names.length-(j+1))
           case measure=>omega
           case rel=>exact⟨j+1,by go_num,by omega,KK _,HBD.o,by rw[HQN.o];rfl⟩
       ·have hje:j=r.names.length:=by omega
        subst hje;have HT:=aa (show q=((xs.map (·.1)).drop (i+1)).all (fitRow Lv (xs.map (·.1)))from by
         rw[HZ.o,HQJ.o,Lp (by simp[HVE.o])];rfl)
        go_wp2_with fail;go_roundg (xs.length-(i+1))
        case measure=>omega
        case rel=>exact⟨i+1,by go_num,by omega,KK _,HBJ.o,HT.o⟩
     ·have hie:i=xs.length:=by omega
      subst hie;have HT:=aa (show q=true from by rw[HQO.o,<-Ll (f:=fun x:LX=>x.1),List.drop_length];rfl);go_wp2_with fail;refine bodyPost_ret (v:=.tuple #[.slice aL xs.length cL,.bool true]) (by simp[results,results27,go_sem]) rfl ⟨_,by rw[HT.o],fun _=>?_,⟨_,_,_,rfl⟩,bT (bT HX3.o HB.o) HBO.o⟩;rw[<-HX2.o];exact(HL.o.rows).below HBO.o
def nS:RV->Nat×Int×Ls
 | .mk sh n s _=>(sh,n,s)
def kE:List Ls->List RV->Ls->Nat×Int×Ls
 |n::ns,v::vs,x=>if n=x then nS v else kE ns vs x
 |_,_,_=>(0,0,⟨#[]⟩)
theorem Da{w:World}{B:Nat->Prop}(x:Ls):∀(ns:List Ls) (fs:List FV) (vs:List RV),oE w B fs vs->mE (bR ns fs x)=kE ns vs x
 |[],_,_,_=>by rw[bR,kE]<;>first|rfl|simp
 |_::_,[],[],_=>by rw[bR,kE]<;>first|rfl|simp
 |_::_,[],v::vs,h=>by have:=h.1;simp at this
 |_::_,f::fs,[],h=>by have:=h.1;simp at this
 |n::ns,f::fs,v::vs,h=>by
  rw[bR,kE];split
  ·have hv:=h.2 0 f v rfl rfl
   obtain⟨sh,m,s,l⟩:=v;obtain⟨e1,e2,e3,_⟩:=hv.parts;simp[mE,nS,e1,e2,e3]
  ·exact Da x ns fs vs ⟨by have:=h.1;simpa using this,fun i f' v' hf hv=>h.2 (i+1) f' v' (by simpa using hf) (by simpa using hv)⟩
def pB(Lu:List aj)(LK vid:Ls)(r:cy):lH:=⟨ic Lu LK,kE r.names r.vals,vid⟩
def mN(Lu:List aj)(LK:Ls)(LS:List bj)(n:Ls):Bool:=match LS[(ah (LS.map bj.name) n).toNat]? with
 |some f=>ic Lu LK f.LG&&ic Lu LK f.LH
 |none=>false
def oh(Lu:List aj)(Lv:List ap)(Lw:Nat->List aK)(LK vid:Ls)(y:bo):Option bo:=match Lv[(bO Lv y).d]? with
 |some d=>if pE d.LC (pB Lu LK vid (bO Lv y)) (Lw (bO Lv y).d)=true then none else some (y.1,y.2.1,y.2.2.filter fun c=>mN Lu LK d.fields c.1)
 |none=>none
def nG(Lu:List aj)(Lv:List ap)(Lw:Nat->List aK)(LK vid:Ls)(ys:List bo):List bo:=ys.filterMap (oh Lu Lv Lw LK vid)
structure zj(w0:World)(vR:Value)(aD:Option Addr)(cD:Nat)(Lu:List aj)(Lv:List ap)(Lw:Nat->List aK):Prop where
 r:gZ w0 vR Lu
 rl:Lu.length<=801
 ri:(fQ Lu).length<=700000
 d:i5 w0 (.slice aD Lv.length cD) Lv
 dl:Lv.length<=801
 df:∀d∈Lv,d.fields.length<=801/\d.Lw.length<=801/\∀t∈d.Lw,io t
 g:∀k d,Lv[k]?=some d->d.LC=true->dn 2 d.Lw (Lw k)
theorem BO{a b c:Value}(h1:a.oneCell'=true)(h2:b.oneCell'=true)(h3:c.oneCell'=true):∀u∈[a,b,c],u.oneCell'=true:=by
 intro u hu;simp at hu;rcases hu with rfl|rfl|rfl<;>assumption
theorem Gb{X:World}{N:Nat}{a b c d e:Value}{T:TypeId}{fr:Nat×Nat}(h:X.heap[N]?=some (.cells #[a,b,c,d,e] T fr))(x y z u v:Value):(((((X.setCell ⟨N,0,none⟩ x).setCell ⟨N,1,none⟩ y).setCell ⟨N,2,none⟩ z).setCell ⟨N,3,none⟩ u).setCell ⟨N,4,none⟩ v).heap[N]?=some (.cells #[x,y,z,u,v] T fr):=by
 have:=aJ (aJ (aJ (aJ (aJ h 0 x) 1 y) 2 z) 3 u) 4 v;simpa using this
theorem J8(vR:Value)(aD:Option Addr)(cD:Nat)(Lu:List aj)(Lv:List ap)(Lw:Nat->List aK)(LK vid:Ls)(aY:Option Addr)(cY:Nat)(ys:List bo)(aL:Option Addr)(cL:Nat)(w:World)
 (hE:zj w vR aD cD Lu Lv Lw) (hY:eM w (.slice aY ys.length cY) ys) (hL:lN w (.slice aL ys.length cL) (ys.map (bO Lv))) (hyl:ys.length<=200) (hok:∀y∈ys,il Lv y=true) (hcl:∀y∈ys,y.2.2.length<=1000000):
 Calls prog 29 #[.agg #[vR,.slice aD Lv.length cD],.slice aY ys.length cY,.slice aL ys.length cL,.agg #[.string LK,.string vid]] w fun e w'=>∃vO xs,e=.returned vO/\dw w' w.heap.size vO xs/\xs.map (·.1)=nG Lu Lv Lw LK vid ys/\Lt w w':=by
 obtain⟨aR,cR,rfl,_⟩:=id hE.r;obtain⟨iY,hiY,zY0,zY1,zY2⟩:=info_parts info37;obtain⟨iC,hiC,zC0,zC1,zC2⟩:=info_parts info34;have HE:=aa hE;have HY:=aa hY;have HLL:=aa hL;have hdl:=hE.dl;have hrl:=hE.rl;clear hE hY hL;go_enter func29,ntmps29;go_wp2_with fail;obtain⟨X1,X2,X3⟩:=uw w (.cells #[.slice aR Lu.length cR,.slice aD Lv.length cD] 62) (.cells #[.string LK,.string vid] 25);generalize (w.alloc (.cells #[.slice aR Lu.length cR,.slice aD Lv.length cD] 62)).alloc (.cells #[.string LK,.string vid] 25)=W2 at*;have hl1:=ag X1;have hl2:=ag X2;have HX1:=aa X1;have HX2:=aa X2;have HX3:=aa X3;clear X1 X2 X3;go_loopg [9,10,11,12,13,14,15,16,17] ys.length (fun m v9 v10 v11 v12 v13 v14 v15 v16 v17 wr=>∃(i:Nat) (xs:List OX),v10=.int .i64 i/\i<=ys.length/\ys.length-i<=m/\xs.length<=i/\dw wr W2.heap.size v9 xs/\Lt W2 wr/\xs.map (·.1)=nG Lu Lv Lw LK vid (ys.take i))
 case atStart=>exact⟨0,[],rfl,KU _,KK _,KK _,dw.nil _ _,KL _ _,rfl⟩
 case round=>
  obtain⟨i,xs,rfl,hil,hm,hxi,hO,hb,hxs⟩:=hrel;obtain⟨aO,cO,hvO⟩:=bc hO.own;subst hvO;have cX:=ae ((hb.block _ hl1).trans HX1.o);have cU:=ae ((hb.block _ hl2).trans HX2.o);have hl1r:w.heap.size<wr.heap.size:=KV hl1 hb.size;have hl2r:w.heap.size+1<wr.heap.size:=KV hl2 hb.size;have HB:=aa hb;have HO:=aa hO;have HXS:=aa hxs;have hxl:xs.length<=200:=by omega
  clear hO hb hxs;by_cases hlt:i<ys.length
  ·obtain⟨y,hy⟩:∃y,ys[i]?=some y:=⟨_,KM hlt⟩
   have hym:=KN hy;have hr:(ys.map (bO Lv))[i]?=some (bO Lv y):=by rw[La,hy];rfl
   have hrl2:=wR (hok y hym);obtain⟨d,hd⟩:∃d,Lv[(bO Lv y).d]?=some d:=⟨_,KM hrl2⟩;have hdm:=KN hd;have hBr:=bT HX3.o HB.o;have hLr:=HLL.o.below hBr;rw[<-Ll (f:=bO Lv)]at hLr;obtain⟨gL,aN,cN,aV,cV,fs,e,l0,l1,l2,l3,Ma⟩:=hLr.at hr;subst e;have hgL:gL<wr.heap.size:=KQ wr _ l0;have HC:=aa (fun W (hW:Lt wr W)=>JR W aD cD (bO Lv y).d (.slice aR Lu.length cR) (.slice aN (bO Lv y).names.length cN) (.slice aV fs.length cV) LK vid (bO Lv y).id Lu Lv d (bO Lv y).names fs (Lw (bO Lv y).d) (HE.o.d.below (bT hBr hW)) hd (by omega) (HE.o.r.below (bT hBr hW)) HE.o.rl HE.o.ri (Ma.n.below hW) (Ma.v.below hW) (by rw[Ma.l.1,Ma.e]) (by simpa [bO]using hcl y hym) (HE.o.df d hdm).2.2 (HE.o.df d hdm).2.1 (HE.o.g _ d hd));rw[show(⟨ic Lu LK,fun n=>mE (bR (bO Lv y).names fs n),vid⟩:lH)=pB Lu LK vid (bO Lv y)from by
    unfold pB;congr 1;funext n;exact Da n _ _ _ Ma.l]at HC
   have HSR:=aa (show oh Lu Lv Lw LK vid y=if pE d.LC (pB Lu LK vid (bO Lv y)) (Lw (bO Lv y).d)=true then none else some (y.1,y.2.1,y.2.2.filter fun c=>mN Lu LK d.fields c.1)from by unfold oh;simp only[hd]);have HTK:=aa (show nG Lu Lv Lw LK vid (ys.take (i+1))=nG Lu Lv Lw LK vid (ys.take i)++(oh Lu Lv Lw LK vid y).toList from by
    unfold nG;rw[Ld,hy,List.filterMap_append];cases h:oh Lu Lv Lw LK vid y<;>simp[h])
   generalize pE d.LC (pB Lu LK vid (bO Lv y)) (Lw (bO Lv y).d)=gone at*;generalize (bO Lv y).id=rid at*;generalize (bO Lv y).names=rns at*;have HRR:=aa hr;have HDM:=aa (And.intro hd (And.intro hdm (And.intro hym hy)));clear hr Ma hLr hd hdm hym hy;go_upto_region 5 with fail;go_cut [11] (fun v11 wc=>v11=.bool gone/\Lt wr wc)
   case first=>
    have hi0:(0:Int)<=(i:Int):=by omega
    have hi1:(i:Int)<(ys.length:Int):=by omega
    have HS:=aa (fun W (hW:Lt wr W)=>And.intro hW (And.intro (ao hW l0) (And.intro (ao hW l1) (And.intro (ao hW l2) (And.intro (ao hW l3) (And.intro (fun k=>(hW.cell (p:=⟨w.heap.size,k,none⟩) hl1r).trans (cX k)) (fun k=>(hW.cell (p:=⟨w.heap.size+1,k,none⟩) hl2r).trans (cU k))))))));clear l0 l1 l2 l3 cX cU HE HY HLL HX1 HX2 HX3 HB HO HXS HSR HTK HRR HDM hBr;go_region_held3 (fun W=>Lt wr W/\W.cell? ⟨gL,i*4,none⟩=some (.int .i64 (bO Lv y).d)/\W.cell? ⟨gL,i*4+1,none⟩=some (.string rid)/\W.cell? ⟨gL,i*4+2,none⟩=some (.slice aN rns.length cN)/\W.cell? ⟨gL,i*4+3,none⟩=some (.slice aV fs.length cV)/\(∀k,W.cell? ⟨w.heap.size,k,none⟩=(#[.slice aR Lu.length cR,.slice aD Lv.length cD]:Array Value)[k]?)/\(∀k,W.cell? ⟨w.heap.size+1,k,none⟩=(#[.string LK,.string vid]:Array Value)[k]?))
     (first|exact HS.o _ (KL _ _).drew|exact HS.o _ (bT bh b1))
     (first|(go_at_call 50;obtain⟨bh, -⟩:= ‹Lt wr _/\_›;refine(HC.o _ bh).mono ?_;rintro _ w1 ⟨rfl,b1⟩))
    all_goals(obtain⟨bh, -⟩:= ‹Lt wr _/\_›;(try go_wp2_with fail);go_meet;exact⟨rfl,bh⟩)
   case rest=>
    obtain⟨rfl,hbc⟩:=hcut;have HBC:=aa (bT HB.o hbc);have HO1:=aa (HO.o.far (fun k _ h2=>hbc.block k h2) hbc.size);obtain⟨wa,rfl⟩:∃wa:World,wa=wc:=⟨_,rfl⟩;have MM:=hbc.size;clear l0 l1 l2 l3 HC cX cU hgL hbc;cases gone
    rotate_left
    ·rw[K9 rfl]at HSR
     go_wp2_with fail;go_roundg (ys.length-(i+1))
     case measure=>omega
     case rel=>exact⟨i+1,xs,by go_num,by omega,KK _,by omega,HO1.o,HBC.o,by rw[HTK.o,HSR.o,HXS.o];simp⟩
    ·rw[K8 (by simp)]at HSR
     have hYr:=HY.o.below (bT HX3.o HBC.o);obtain⟨gY,oY,aC,cC,e,y0,y1,y2,hyc⟩:=hYr.at HDM.o.2.2.2;subst e;have hgY:gY<wa.heap.size:=KQ wa _ y0;clear hYr;go_upto_region 7 with fail;go_cut [12] (fun v12 wc=>∃N,v12=.pointer (some ⟨N,0,none⟩)/\wa.heap.size<=N/\wc.heap[N]?=some (.cells #[.string y.1,.string y.2.1,.slice none 0 0] 37 (0,0))/\Lt wa wc)
     case first=>
      go_region;all_goals(try go_wp2_with fail)
      all_goals(go_meet;first
       |exact⟨wa.heap.size,rfl,KK _,KS wa _,bA (KL _ _) _⟩
       |exact⟨wa.heap.size,rfl,KK _,KS wa.drew _,bA (KL _ _).drew _⟩
       |exact⟨wa.heap.size,rfl,KK _,KS wa _,(bA (KL _ _) _).drew⟩)
     case rest=>
      obtain⟨N,rfl,hNl,hN,hbc⟩:=hcut;obtain⟨wb,rfl⟩:∃wb:World,wb=wc:=⟨_,rfl⟩;have hNb:=ag hN;have HN:=aa hN;have HBB:=aa hbc;have hszb:=hbc.size;have hycl:y.2.2.length<=1000000:=hcl y HDM.o.2.2.1;have HYC:=aa (show kK wa (.slice aC y.2.2.length cC) y.2.2 from hyc);have y2:=ao hbc y2;have hgYb:gY<wb.heap.size:=KV hgY hbc.size;clear hN hbc hyc y0 y1;go_wp2_with fail;go_loopg [13,14,15,16,17] y.2.2.length (fun m v13 v14 v15 v16 v17 wr=>∃(k:Nat) (vC:Value) (cs:List dd),v13=.int .i64 k/\k<=y.2.2.length/\y.2.2.length-k<=m/\wr.heap[N]?=some (.cells #[.string y.1,.string y.2.1,vC] 37 (0,0))/\wr.ownsRow wb.heap.size 34 2 vC cs.length (cs.flatMap et)/\cs.length<=k/\cs=(y.2.2.take k).filter (fun c=>mN Lu LK d.fields c.1)/\Lt wa wr/\wb.heap.size<=wr.heap.size)
      case atStart=>exact⟨0,_,[],rfl,KU _,KK _,HN.o,K7 _ _ _ _,KK _,rfl,HBB.o,KK _⟩
      case round=>
       clear y2;obtain⟨k,vC,cs,rfl,hkl,hm2,hNr,hoC,hck,hcs,hb,hsb⟩:=hrel;obtain⟨aQ,cQ,hvQ⟩:=bc hoC;subst hvQ;have HNR:=aa hNr;have cN':=ae hNr;have fN':=ar hNr;have hlN':=ag hNr;have HOC:=aa hoC;have HCS:=aa hcs;have HBK:=aa hb;have hBw:=bT (bT HX3.o HBC.o) hb;have hYr:=HY.o.below hBw;obtain⟨gY',oY',aC',cC',e,y0,y1,y2,hyc⟩:=hYr.at HDM.o.2.2.2;cases e;have hgYr:gY<wr.heap.size:=KQ wr _ y0;clear hNr hoC hcs hb hYr;by_cases Ml:k<y.2.2.length
       ·obtain⟨c,hc⟩:∃c,y.2.2[k]?=some c:=⟨_,KM Ml⟩
        obtain⟨gC,oC,e,c0,c1⟩:=hyc.at hc;subst e;have hgC:gC<wr.heap.size:=KQ wr _ c0;have hBx:=bT HBC.o HBK.o;have cX:=ae ((hBx.block _ hl1).trans HX1.o);have cU:=ae ((hBx.block _ hl2).trans HX2.o);have hl1r:w.heap.size<wr.heap.size:=KV hl1 hBx.size;have hl2r:w.heap.size+1<wr.heap.size:=KV hl2 hBx.size;have hLr:=HLL.o.below hBw;rw[<-Ll (f:=bO Lv)]at hLr;obtain⟨gL',aN',cN2,aV',cV',fs',e,l0,l1,l2,l3,_⟩:=hLr.at HRR.o;cases e;have hgL:gL<wr.heap.size:=KQ wr _ l0;obtain⟨gD,aF,cF,aA,cA,aT,cT,e,d0,d1,d2,d3,d4,d5,hda⟩:=(HE.o.d.below hBw).at HDM.o.1;subst e;have hgD:gD<wr.heap.size:=KQ wr _ d0;have Og:¬ah (d.fields.map bj.name) c.1<0:=by
         have hyo:=hok y HDM.o.2.2.1;unfold il at hyo;rw[show Lv[(ah (Lv.map ap.name) y.1).toNat]?=some d from HDM.o.1]at hyo;simp only[Li]at hyo;exact vz d.fields y.2.2 [] hyo.2.2.2 c (KN hc)
        obtain⟨fi,fld,hfi,NA,hfnm,hfil⟩:=iW bj.name d.fields c.1 Og;obtain⟨gF,e,f0,f1,f2,f3,f4⟩:=hda.f.at NA;cases e;have hgF:gF<wr.heap.size:=KQ wr _ f0;have hdfl:=(HE.o.df d HDM.o.2.1).1;have HFN:=aa (fun W (hW:Lt wr W)=>rt d.sort d.name aA aT d.Ly.length cA d.Lw.length cT d.LC (.slice (some ⟨gF,0,none⟩) d.fields.length cF) c.1 (d.fields.map bj.name) W ((hda.f.below hW).names) (by simp;omega));rw[hfi]at HFN;have HSF:=aa (show mN Lu LK d.fields c.1=(ic Lu LK fld.LG&&ic Lu LK fld.LH)from by unfold mN;simp only[hfi,Lk,NA]);have HCT:=aa (show(y.2.2.take (k+1)).filter (fun c=>mN Lu LK d.fields c.1)=cs++(if mN Lu LK d.fields c.1=true then [c]else [])from by
         rw[Ld,hc,List.filter_append,HCS.o];simp only[Option.toList];rw[List.filter_cons];split<;>simp)
        have hrd2:=wR (hok y HDM.o.2.2.1);clear hyc hLr hda Og hfi NA hfnm l1 l2 l3;go_upto_region 11 with fail;go_cut [14] (fun v14 wc=>∃M,v14=.pointer (some ⟨M,0,none⟩)/\wr.heap.size<=M/\wc.heap[M]?=some (.cells #[.int .i64 d.sort,.string d.name,.slice (some ⟨gF,0,none⟩) d.fields.length cF,.slice aA d.Ly.length cA,.bool d.LC,.slice aT d.Lw.length cT] 96 (0,0))/\Lt wr wc)
        case first=>
         go_region;all_goals(try go_wp2_with fail)
         all_goals(go_meet;first
          |exact⟨wr.heap.size,rfl,KK _,KS wr _,bA (KL _ _) _⟩
          |exact⟨wr.heap.size,rfl,KK _,KS wr.drew _,bA (KL _ _).drew _⟩
          |exact⟨wr.heap.size,rfl,KK _,KS wr _,(bA (KL _ _) _).drew⟩)
        case rest=>
         obtain⟨M,rfl,hMl,hM,hbc⟩:=hcut;obtain⟨wd,rfl⟩:∃wd:World,wd=wc:=⟨_,rfl⟩;have cM:=ae hM;have hlM:=ag hM;have HBD:=aa hbc;have c0:=ao hbc c0;have c1:=ao hbc c1;have y2:=ao hbc y2;have f0:=ao hbc f0;have f1:=ao hbc f1;have f2:=ao hbc f2;have f3:=ao hbc f3;have f4:=ao hbc f4;have cX:=fun k=>(hbc.cell (p:=⟨w.heap.size,k,none⟩) hl1r).trans (cX k);have cU:=fun k=>(hbc.cell (p:=⟨w.heap.size+1,k,none⟩) hl2r).trans (cU k);have hszd:=hbc.size;have HNR2:=aa ((hbc.block _ hlN').trans HNR.o);have HFN2:=aa (fun W (hW:Lt wd W)=>HFN.o W (bT HBD.o hW));clear d0 d1 d2 d3 d4 d5 l0 hbc hM y0 y1 HFN cN' fN';go_upto_region 12 with fail;go_cut [15] (fun v15 we=>∃P,v15=.pointer (some ⟨P,0,none⟩)/\we.heap[P]?=some (.cells #[.string fld.name,.string fld.arg,.string fld.ty,.string fld.LG,.string fld.LH] 121 (0,0))/\Lt wd we)
         case first=>
          clear HBD HCT HSF HNR2 HNR HOC HCS HBK hBw HN HBB HYC HBC HO1 HDM HRR HSR HTK HB HO HXS HX1 HX2 HX3 HE HY HLL cX cU hszd hMl hgY hgYr hgL hgD hgC;have hgFd:gF<wd.heap.size:=KQ wd _ f0;have hgCd:gC<wd.heap.size:=KQ wd _ c0;have hgYd:gY<wd.heap.size:=KQ wd _ y2;have hk0:(0:Int)<=(k:Int):=by omega
          have hk1:(k:Int)<(y.2.2.length:Int):=by omega
          have hi0:(0:Int)<=(i:Int):=by omega
          have hi1:(i:Int)<(ys.length:Int):=by omega
          have hF0:(0:Int)<=(fi:Int):=by omega
          have hF1:(fi:Int)<(d.fields.length:Int):=by omega
          have HS:=aa (fun W (hW:Lt wd W)=>And.intro hW (And.intro (ao hW c0) (And.intro (ao hW y2) (And.intro (ao hW f0) (And.intro (ao hW f1) (And.intro (ao hW f2) (And.intro (ao hW f3) (And.intro (ao hW f4) (fun k=>(hW.cell (p:=⟨M,k,none⟩) hlM).trans (cM k))))))))));clear c0 c1 y2 f0 f1 f2 f3 f4 cM;go_region_held3 (fun W=>Lt wd W/\W.cell? ⟨gC,oC+k*2,none⟩=some (.string c.1)/\W.cell? ⟨gY,oY+i*3+2,none⟩=some (.slice (some ⟨gC,oC,none⟩) y.2.2.length cC')/\W.cell? ⟨gF,fi*5,none⟩=some (.string fld.name)/\W.cell? ⟨gF,fi*5+1,none⟩=some (.string fld.arg)/\W.cell? ⟨gF,fi*5+2,none⟩=some (.string fld.ty)/\W.cell? ⟨gF,fi*5+3,none⟩=some (.string fld.LG)/\W.cell? ⟨gF,fi*5+4,none⟩=some (.string fld.LH)/\(∀k,W.cell? ⟨M,k,none⟩=(#[.int .i64 d.sort,.string d.name,.slice (some ⟨gF,0,none⟩) d.fields.length cF,.slice aA d.Ly.length cA,.bool d.LC,.slice aT d.Lw.length cT]:Array Value)[k]?))
           (first|exact HS.o _ (KL _ _).drew|exact HS.o _ bW|(refine HS.o _ ?_;repeat' with_reducible first|exact bW|exact KL _ _|refine Below.drew ?_|refine bA ?_ _|refine bS ?_ _ (KK _) _))
           (first|(go_at_call 49;obtain⟨bh, -⟩:= ‹Lt wd _/\_›;refine(HFN2.o _ bh).mono ?_;rintro _ w1 ⟨rfl,b1⟩;have bW:=bT bh b1;(try(have hz:w1.heap[wd.heap.size]?=some (.cells #[.string ⟨#[]⟩,.string ⟨#[]⟩,.string ⟨#[]⟩,.string ⟨#[]⟩,.string ⟨#[]⟩] 121):=(by first|exact(b1.block wd.heap.size (show wd.heap.size<(wd.alloc (.cells #[.string ⟨#[]⟩,.string ⟨#[]⟩,.string ⟨#[]⟩,.string ⟨#[]⟩,.string ⟨#[]⟩] 121)).heap.size by simp)).trans (KS wd _));have hzc:=ae hz;have hzf:=ar hz;have hzl:=ag hz))))
          all_goals(try go_wp2_with fail)
          all_goals go_meet
          ·exact⟨w1.heap.size,rfl,KS w1 _,bA bW _⟩
          ·refine⟨wd.heap.size,rfl,Gb hz _ _ _ _ _,?_⟩
           exact bS (bS (bS (bS (bS bW _ (KK _) _) _ (KK _) _) _ (KK _) _) _ (KK _) _) _ (KK _) _
         case rest=>
          obtain⟨P,rfl,hP,hbe⟩:=hcut;obtain⟨we,rfl⟩:∃we:World,we=wc:=⟨_,rfl⟩;have cP:=ae hP;have hlP:=ag hP;have cX:=fun k=>(hbe.cell (p:=⟨w.heap.size,k,none⟩) (KV hl1r hszd)).trans (cX k);have cU:=fun k=>(hbe.cell (p:=⟨w.heap.size+1,k,none⟩) (KV hl2r hszd)).trans (cU k);have HBE:=aa (bT HBD.o hbe);have HP:=aa hP;have HHA:=aa (fun W (hW:Lt we W)=>wm (some ⟨gD,0,none⟩) Lv.length cD (.slice aR Lu.length cR) LK fld.LG Lu W (HE.o.r.below (bT (bT hBw HBE.o) hW)) hrl HE.o.ri);have HHH:=aa (fun W (hW:Lt we W)=>wm (some ⟨gD,0,none⟩) Lv.length cD (.slice aR Lu.length cR) LK fld.LH Lu W (HE.o.r.below (bT (bT hBw HBE.o) hW)) hrl HE.o.ri);generalize ic Lu LK fld.LG=qa at*;generalize ic Lu LK fld.LH=qh at*;have HCC:=aa (And.intro (ao hbe c0) (And.intro (ao hbe c1) (ao hbe y2)));have HNE:=aa ((hbe.block _ (KV hlN' hszd)).trans HNR2.o);have hsze:=hbe.size;clear f0 f1 f2 f3 f4 c0 c1 y2 cM hbe hP HFN2;go_wp2_with fail;refine(HHA.o _ (KL _ _)).mono ?_;rintro _ wf ⟨rfl,bf⟩;have cX:=fun k=>(bf.cell (p:=⟨w.heap.size,k,none⟩) (KV hl1r (KP hszd hsze))).trans (cX k);have cU:=fun k=>(bf.cell (p:=⟨w.heap.size+1,k,none⟩) (KV hl2r (KP hszd hsze))).trans (cU k);have cP:=ae ((bf.block _ hlP).trans HP.o);go_wp2_with fail;refine(HHH.o _ bf).mono ?_;rintro _ wg ⟨rfl,bg⟩;have hfg:=bT bf bg;have HBG:=aa (bT HBE.o hfg);have hN9:=(hfg.block _ (by omega)).trans HNE.o;have cN9:=ae hN9;have fN9:=ar hN9;have hlN9:=ag hN9;have HN9:=aa hN9;have c0:=ao hfg HCC.o.1;have c1:=ao hfg HCC.o.2.1;have y2:=ao hfg HCC.o.2.2;have hszg:wr.heap.size<=wg.heap.size:=HBG.o.size;have hgY9:gY<wg.heap.size:=by omega
          have hgC9:gC<wg.heap.size:=by omega
          have HO9:=aa (bZ HOC.o HBG.o);have hb9:=aa (bT HBK.o HBG.o);clear cX cU cP HHA HHH bf bg hN9 hfg HCC HNE HNR2 HP;cases qa
          ·go_wp2_with fail
           go_roundg (y.2.2.length-(k+1))
           case measure=>omega
           case rel=>exact⟨k+1,_,cs,by go_num,by omega,KK _,HN9.o,HO9.o,by omega,by rw[HCT.o,HSF.o];simp,hb9.o,by omega⟩
          ·cases qh
           ·go_wp2_with fail
            go_roundg (y.2.2.length-(k+1))
            case measure=>omega
            case rel=>exact⟨k+1,_,cs,by go_num,by omega,KK _,HN9.o,HO9.o,by omega,by rw[HCT.o,HSF.o];simp,hb9.o,by omega⟩
           ·have hne:Option.some N≠(Value.slice aQ cs.length cQ).ownBlock:=fun e=>jC HOC.o hNb e.symm
            have hcsl:cs.length<=1000000:=by omega
            have hszbg:wb.heap.size<=wg.heap.size:=by omega
            go_wp2_with fail;go_region_law (first|(refine step_append_lies _ (by rfl) _ _ _ (by rfl) wb.heap.size 34 iC _ 2 32 underlying35 hiC zC0 zC1 zC2 rfl (by decide) _ _ _ (by rfl) (bZ HO9.o (by repeat' with_reducible first|exact KL _ _|refine bA ?_ _|refine Below.drew ?_)) ⟨wg.heap.size,0,none⟩ 1 1 [.string c.1,.string c.2] (by rfl) (by rfl) (de _ _ _ _ (by simp)) (pZ rfl rfl) (by decide) (by unfold maxLen;omega) (by omega) (by simp;omega) (wg.heap.size+1) (by simp) ?_;intro g cap w5 LV hgrow hat hg5;have g5:=(hgrow.block N (by simp;omega) hne).trans ((by first|exact(bA (KL wg.heap.size wg) _).block _ hlN9|exact(bA (KL wg.heap.size wg) _).drew.block _ hlN9:_=wg.heap[N]?).trans HN9.o);have e5:=ae g5;have f5:=ar g5));all_goals(try go_wp2_with fail)
            all_goals(
             have NC:=hgrow.size;simp at NC;go_roundg (y.2.2.length-(k+1))
             case measure=>omega
             case rel=>
              refine⟨k+1,_,cs++[c],by go_num,by omega,KK _,aJ g5 2 _,?_,by simp;omega,by rw[HCT.o,HSF.o];simp,?_,by simp[World.setCell];omega⟩
              ·rw[Lb,List.flatMap_append]
               exact rU LV hNb 2 _
              ·exact⟨hgrow.os.trans hb9.o.os,hgrow.tape.trans hb9.o.tape,hgrow.output.trans hb9.o.output,by have:=hb9.o.size;simp[World.setCell];omega,fun j hj=>(KX _ _ _ _ (show j≠N by omega)).trans ((hgrow.block j (by have:=hb9.o.size;simp;omega) (fun e=>jC HOC.o (show j<wb.heap.size by omega) e.symm)).trans ((by first|exact(bA (KL wg.heap.size wg) _).block _ (by have:=hb9.o.size;omega)|exact(bA (KL wg.heap.size wg) _).drew.block _ (by have:=hb9.o.size;omega):_=wg.heap[j]?).trans (hb9.o.block j hj)))⟩)
       ·have hke:k=y.2.2.length:=by omega
        subst hke;have HSR2:=aa (show oh Lu Lv Lw LK vid y=some (y.1,y.2.1,cs)from by rw[HSR.o,HCS.o,List.take_length]);have HO2:=aa (HO1.o.far (w':=wr) (fun j _ h2=>HBK.o.block j h2) HBK.o.size);have hsw:=HBC.o.size;go_wp2_with (at_builtin;refine wpList_append_lies _ rfl _ _ 23 rfl W2.heap.size 37 iY _ 3 56 underlying23 hiY zY0 zY1 zY2 rfl (by decide) _ _ _ rfl (HO2.o.own.alloc _) ⟨wr.heap.size,0,none⟩ 1 1 [.string y.1,.string y.2.1,.slice aQ cs.length cQ] rfl rfl (de _ _ _ _ (by simp)) (BO rfl rfl rfl) (by decide) (by unfold maxLen;omega) (by omega) (by simp;omega) (wr.heap.size+1) (by simp) ?_;intro g' LM x3 hown' hgrow hwh hgs;have MS:=aa hown';have LT:=aa hgrow;have HWH:=aa hwh;clear hown' hgrow hwh);have hgz:=LT.o.size;simp at hgz;have MX:=aa (show∀j,j<wr.heap.size->(Value.slice aO xs.length cO).ownBlock≠some j->x3.heap[j]?=wr.heap[j]? from fun j h1 h2=>(LT.o.block j (by simp;omega) (fun e=>h2 e.symm)).trans (bp _ _ _ h1));have hlt':∀j,(Value.slice aO xs.length cO).ownBlock=some j->j<wa.heap.size:=fun j hj=>ep HO1.o.own j hj;go_roundg (ys.length-(i+1))
        case measure=>omega
        case rel=>
         refine⟨i+1,xs++[((y.1,y.2.1,cs),.slice aQ cs.length cQ)],by go_num,by omega,KK _,by simp;omega,?_,?_,?_⟩
         ·exact HO2.o.push (x:=((y.1,y.2.1,cs),.slice aQ cs.length cQ)) HOC.o (by omega) (fun z hz g e=>by have:=ep (HO1.o.sub z hz) g e;omega) MS.o (fun j _ h2 h3=>MX.o j h2 h3)
         ·have hb:=bT HBC.o HBK.o
          exact⟨LT.o.os.trans hb.os,LT.o.tape.trans hb.tape,LT.o.output.trans hb.output,by have:=hb.size;omega,fun j hj=>(MX.o j (by have:=HBK.o.size;omega) (jC HO1.o.own (by omega))).trans (hb.block j hj)⟩
         ·rw[HTK.o,HSR2.o,Lr,HXS.o];rfl
  ·have hie:i=ys.length:=by omega
   subst hie;go_wp2_with fail;go_ret;exact⟨_,xs,rfl,HO.o.low HX3.o.size,by rw[HXS.o,List.take_length],bT HX3.o HB.o⟩
noncomputable def seesR (Lw:Nat->List aK) (x:Ls) (ys:List bo) (LK vid:Ls):List bo×Nat:=
 if lW x≠0 then([],lW x)
 else if storeOk (cE (av x)).1.Lv ys=false then([],3)
 else if ah ((cE (av x)).1.Lu.map aj.name) LK<0 then([],4)
 else(nG (cE (av x)).1.Lu (cE (av x)).1.Lv Lw LK vid ys,0)
structure Cv(Lu:List aj)(Lv:List ap)(Lw:Nat->List aK):Prop where
 rl:Lu.length<=801
 ri:(fQ Lu).length<=700000
 dl:Lv.length<=801
 df:∀d∈Lv,d.fields.length<=801/\d.Ly.length<=801/\d.sort<=2/\d.Lw.length<=801/\∀t∈d.Lw,io t
 ty:∀d∈Lv,∀f∈d.fields,∃ty,fZ ty/\ci ty=f.ty/\f.ty.size<=100000/\(co (bN ty)=true\/¬ah (Lv.map ap.name) (bN ty)<0)
 g:∀k d,Lv[k]?=some d->d.LC=true->dn 2 d.Lw (Lw k)
theorem Gy(Lw:Nat->List aK)(x LK vid:Ls)(aY:Option Addr)(cY:Nat)(ys:List bo)(w:World)(hs:x.size<=maxLen)(hokd:jv (cE (av x)).2=true->∀d∈(cE (av x)).1.Lv,mx d)
 (hY:eM w (.slice aY ys.length cY) ys) (hyl:ys.length<=1000000) (hcl:∀y∈ys,y.2.2.length<=1000000/\∀c∈y.2.2,c.2.size<=maxLen) (hS:lW x=0->Cv (cE (av x)).1.Lu (cE (av x)).1.Lv Lw):
 Calls prog 14 #[.string x,.slice aY ys.length cY,.agg #[.string LK,.string vid]] w fun e w'=>∃vO xs,e=.returned (.tuple #[vO,.int .i64 (seesR Lw x ys LK vid).2])/\dw w' w.heap.size vO xs/\xs.map (·.1)=(seesR Lw x ys LK vid).1/\Lt w w':=by
 have HQ:=aa (seesR.eq_1 Lw x ys LK vid);generalize seesR Lw x ys LK vid=q at*;have hc:=fun W=>Jc x W hs hokd;have HY:=aa hY;have HS:=aa hS;have HCL:=aa hcl;clear hokd hY hS hcl;generalize lW x=ck at*;generalize (cE (av x)).1.Lu=Lu at*;generalize (cE (av x)).1.Lv=Lv at*;go_enter func14,ntmps14;go_wp2_with fail;refine(hc _).mono ?_;clear hc;rintro _ w1 ⟨aR,nR,cR,aD,nD,cD,rfl,MU,b1⟩;have cU:=ae ((b1.block _ (by simp)).trans (mX w (.cells #[.string LK,.string vid] 25)));have hlU:w.heap.size<w1.heap.size:=by have:=b1.size;simp at this;omega
 have HB1:=aa (bT (bA (KL w.heap.size w) _) b1);clear b1;have RET:=aa (fun(X:World) (n:Nat) (hX:Lt w1 X) (hq:q=([],n))=>show∃vO xs,Ending.returned (Value.tuple #[.slice none 0 0,.int .i64 n])=.returned (.tuple #[vO,.int .i64 q.2])/\dw X w.heap.size vO xs/\xs.map (·.1)=q.1/\Lt w X from
  ⟨.slice none 0 0,[],by rw[hq],dw.nil _ _,by rw[hq];rfl,bT HB1.o hX⟩)
 by_cases hck:ck=0
 rotate_left
 ·have hne:((ck:Int)!=0)=true:=by simp;omega
  have HF:=aa (show q=([],ck)from by rw[HQ.o,K9 hck]);clear HQ hck;go_wp2_with fail;exact bodyPost_ret (v:=.tuple #[.slice none 0 0,.int .i64 ck]) (by simp[results,results14,go_sem]) rfl (RET.o _ ck (bA (KL _ _) _) HF.o)
 ·subst hck
  obtain⟨hR,hD⟩:=MU rfl;have hSO:=HS.o rfl;have HR:=aa hR;have HD:=aa hD;obtain⟨a1,c1,e1,_⟩:=hR;cases e1;obtain⟨a2,c2,e2,_⟩:=hD;cases e2;have HSO:=aa hSO;have HQ2:=aa (show q=if storeOk Lv ys=false then([],3)else if ah (Lu.map aj.name) LK<0 then([],4)else(nG Lu Lv Lw LK vid ys,0)from by rw[HQ.o,K8 (by simp)]);have HST:=aa (fun W (hW:Lt w1 W)=>I7 aR Lu.length cR aD cD Lv aY cY ys W (HD.o.below hW) (HY.o.below (bT HB1.o hW)) HSO.o.dl (fun d hd=>⟨(HSO.o.df d hd).1,(HSO.o.df d hd).2.1,(HSO.o.df d hd).2.2.1⟩) HSO.o.ty hyl (fun y hy=>⟨by have:=(HCL.o y hy).1;omega,(HCL.o y hy).2⟩));have HXR:=aa (fun W (hW:Lt w1 W)=>rB aD Lv.length cD (.slice aR Lu.length cR) LK (Lu.map aj.name) W ((HR.o.below hW).names) (by have:=HSO.o.rl;simp;omega));clear hSO HQ MU HS;go_wp2_with fail;refine(HST.o _ (bA (KL _ _) _)).mono ?_;rintro _ w2 ⟨vL,rfl,hL,⟨aL,nL,cL,rfl⟩,b2⟩;have b12:=bT (bA (KL w1.heap.size w1) _) b2;have cX:=ae ((b2.block _ (by simp)).trans (mX w1 (.cells #[.slice aR Lu.length cR,.slice aD Lv.length cD] 62)));have cU:=fun k=>(b12.cell (p:=⟨w.heap.size,k,none⟩) hlU).trans (cU k);have hlX:w1.heap.size<w2.heap.size:=by have:=b2.size;simp at this;omega
  have hlU2:w.heap.size<w2.heap.size:=by omega
  have HB12:=aa b12;clear b2 b12 HST;cases hst:storeOk Lv ys
  ·have HF:=aa (show q=([],3)from by rw[HQ2.o,K9 hst])
   clear HQ2 hL hst;go_wp2_with fail;exact bodyPost_ret (v:=.tuple #[.slice none 0 0,.int .i64 3]) (by simp[results,results14,go_sem]) rfl (RET.o _ 3 HB12.o HF.o)
  ·have HL:=aa (hL hst)
   have HST2:=aa hst;rw[hst]at HQ2;clear hL hst;go_wp2_with fail;refine(HXR.o _ HB12.o).mono ?_;rintro _ w3 ⟨rfl,b3⟩;have HB13:=aa (bT HB12.o b3);have cX:=fun k=>(b3.cell (p:=⟨w1.heap.size,k,none⟩) hlX).trans (cX k);have cU:=fun k=>(b3.cell (p:=⟨w.heap.size,k,none⟩) hlU2).trans (cU k);have HB3:=aa b3;clear b3 HXR;rw[K8 (by simp)]at HQ2;by_cases hneg:ah (Lu.map aj.name) LK<0
   ·have HF:=aa (show q=([],4)from by rw[HQ2.o,K9 hneg])
    clear HQ2;generalize ah (Lu.map aj.name) LK=ri at*;go_wp2_with fail;exact bodyPost_ret (v:=.tuple #[.slice none 0 0,.int .i64 4]) (by simp[results,results14,go_sem]) rfl (RET.o _ 4 HB13.o HF.o)
   ·have HF:=aa (show q=(nG Lu Lv Lw LK vid ys,0)from by rw[HQ2.o,K8 hneg])
    have hge:decide (ah (Lu.map aj.name) LK<0)=false:=KT hneg;have hst:=HST2.o;unfold storeOk at hst;simp only[Li,Lc]at hst;have hy200:=hst.1;have HGA:=aa (xC Lv ys [] hst.2.1);have hLr:=HL.o.below HB3.o;obtain⟨a3,c3,e3,_⟩:=id hLr;cases e3;rw[Ll]at hLr⊢;have HSE:=aa (show zj w3 (.slice aR Lu.length cR) aD cD Lu Lv Lw from⟨HR.o.below HB13.o,HSO.o.rl,HSO.o.ri,HD.o.below HB13.o,HSO.o.dl,fun d hd=>⟨(HSO.o.df d hd).1,(HSO.o.df d hd).2.2.2.1,(HSO.o.df d hd).2.2.2.2⟩,HSO.o.g⟩);have hsee:=J8 (.slice aR Lu.length cR) aD cD Lu Lv Lw LK vid aY cY ys aL cL w3 HSE.o (HY.o.below (bT HB1.o HB13.o)) hLr hy200 HGA.o (fun y hy=>(HCL.o y hy).1);clear HQ2 hst hLr HL;generalize ah (Lu.map aj.name) LK=ri at*;go_wp2_with fail;refine hsee.mono ?_;rintro _ w4 ⟨vO,xs,rfl,hO,hxs,b4⟩;have HO:=aa hO;have HXS:=aa hxs;obtain⟨aO,cO,hvO⟩:=bc hO.own;subst hvO;clear hO hxs;go_wp2_with fail;exact bodyPost_ret (v:=.tuple #[.slice aO xs.length cO,.int .i64 0]) (by simp[results,results14,go_sem]) rfl ⟨_,xs,by rw[HF.o];rfl,HO.o.low (bT HB1.o HB13.o).size,by rw[HF.o];exact HXS.o,bT (bT HB1.o HB13.o) b4⟩
end Go.Proofs.YtgbloieahmkcjaaGreat
