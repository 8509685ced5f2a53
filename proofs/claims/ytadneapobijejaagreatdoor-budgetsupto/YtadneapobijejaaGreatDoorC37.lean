import Derived.Test.YtadneapobijejaaGreatDoorC32
import Derived.Test.YtadneapobijejaaGreatDoorC33
namespace Go.Proofs.YtadneapobijejaaGreatDoor
set_option maxHeartbeats 20000000
set_option maxRecDepth 100000
open Go.RowKit Tryz
section
variable {E:CB} {parts:List Ai} {whole:Nat} {of:vD->Bool} {ps:List Nat}
def PU(E:CB)(parts:List Ai)(whole:Nat)(of:vD->Bool)(ps:List Nat)(i:Nat):Prop:=∃p∈ps,∃T,Jj parts p i/\Db E parts whole i T/\of T=true
def Hf(E:CB)(parts:List Ai)(whole:Nat)(of:vD->Bool)(ps:List Nat)(x:Aq):Prop:=∃p∈ps,∃i T,Jj parts p i/\Db E parts whole i T/\of T=true/\x∈(Ax parts i).sels/\x.kind=0
def GX(Z:Aq->Prop)(l:List QF):Prop:=∀f∈l,Z f.1/\∀q∈f.2,∃y,Z y/\y.key=f.1.key/\y.part=some q
theorem SW{Z:Aq->Prop}{x:Aq}(hx:Z x):∀{l:List QF},GX Z l->GX Z (CU x l)
 |[],_=>fun f hf=>by
  rw[CU,List.mem_singleton]at hf;rw[hf];exact⟨hx,fun q hq=>⟨x,hx,rfl,by simpa using hq⟩⟩
 |y::l,h=>fun f hf=>by
  rw[CU]at hf;split at hf
  ·rename_i e
   rcases vB.1 hf with r|r
   ·rw[r]
    have hy:=h y uX;refine⟨hy.1,fun q hq=>?_⟩;rcases uZ.1 hq with s|s
    ·exact hy.2 q s
    ·exact⟨x,hx,e.symm,by simpa using s⟩
   ·exact h f (uW _ r)
  ·rcases vB.1 hf with r|r
   ·rw[r];exact h y uX
   ·exact SW hx (fun g hg=>h g (uW _ hg)) f r
theorem TG{rec:Lj}(hr:∀i c,PU E parts whole of ps i->GX (Hf E parts whole of ps) c.1->GX (Hf E parts whole of ps) (rec i c).1){p i:Nat}{T:vD}(hp:p∈ps)(hl:Jj parts p i)(hT:Db E parts whole i T)(ho:of T=true):∀(l:List Aq) (c:EO),(∀x∈l,x∈(Ax parts i).sels)->GX (Hf E parts whole of ps) c.1->GX (Hf E parts whole of ps) (Ct parts of rec l c).1
 |[],c,_,h=>h
 |x::l,c,hx,h=>by
  have hx0:=hx x uX;have hn:=fun{c':EO} (h':GX (Hf E parts whole of ps) c'.1)=>TG hr hp hl hT ho l c' (fun y hy=>hx y (uW _ hy)) h';rw[Ct];split
  ·exact hn h
  split
  ·rename_i hk
   exact hn (SW ⟨p,hp,i,T,hl,hT,ho,hx0,hk⟩ h)
  ·rename_i hk
   split
   ·exact hn h
   ·rename_i j hj
    split
    ·rename_i hc
     refine hn (hr j c ⟨p,hp,DY (Ax parts j).typ T,.step hl hx0 hk hj,.kid hT hx0 (by unfold Fr;rw[hj];simp only[Option.bind_some];rw[uB hk]),?_⟩ h);by_cases he:(Ax parts j).typ=bE
     ·unfold DY;rw[uC he];exact ho
     ·rw[Wl he]
      rw[Bool.or_eq_true]at hc;rcases hc with q|q
      ·exact absurd (of_decide_eq_true q) he
      ·exact q
    ·exact hn h
theorem TI:∀(f i:Nat) (c:EO),PU E parts whole of ps i->GX (Hf E parts whole of ps) c.1->GX (Hf E parts whole of ps) (Cw parts of f i c).1
 |0,_,_,_,h=>h
 |f+1,i,c,⟨p,hp,T,hl,hT,ho⟩,h=>by
  rw[Cw];split
  ·exact h
  ·exact TG (fun i c hi hc=>TI f i c hi hc) hp hl hT ho (Ax parts i).sels (c.1,c.2.set i true) (fun _ h=>h) h
theorem TC:∀(l:List Nat) (c:EO),(∀p∈l,PU E parts whole of ps p)->GX (Hf E parts whole of ps) c.1->GX (Hf E parts whole of ps) (FK parts of l c).1
 |[],c,_,h=>h
 |i::l,c,hl,h=>by
  rw[FK];exact TC l _ (fun p hp=>hl p (uW _ hp)) (TI _ _ _ (hl i uX) h)
theorem TJ(h:∀p∈ps,∃T,Db E parts whole p T/\of T=true):GX (Hf E parts whole of ps) (Dt parts of ps):=
 TC ps _ (fun p hp=>by obtain⟨T,h1,h2⟩:=h p hp;exact⟨p,hp,T,.self,h1,h2⟩) (fun f hf=>by cases hf)
def wt:List QF->Nat
 |[]=>0
 |f::l=>1+f.2.length+wt l
theorem Sy(x:Aq):∀l:List QF,wt (CU x l)<=wt l+2
 |[]=>by
  rw[CU,wt,wt];cases x.part<;>simp[wt]
 |y::l=>by
  rw[CU];split
  ·rw[wt,wt,uE]
   cases x.part<;>simp<;>omega
  ·have:=Sy x l
   rw[wt,wt];omega
theorem YC(l:List QF):l.length<=wt l:=by
 induction l with
 |nil=>exact tL _
 |cons f l ih=>rw[wt,uQ];omega
theorem Sz:∀(l:List QF) (f:QF),f∈l->f.2.length<=wt l
 |[],f,h=>by cases h
 |g::l,f,h=>by
  rw[wt];rcases vB.1 h with e|e
  ·subst e;omega
  ·have:=Sz l f e;omega
def SD(n:Nat)(rec:Lj):Prop:=∀i c,i<n->c.2.length=n->(rec i c).2.length=n/\uns (rec i c).2<=uns c.2/\wt (rec i c).1+2000*uns (rec i c).2<=wt c.1+2000*uns c.2
theorem TE{n:Nat}{rec:Lj}(hr:SD n rec):∀(l:List Aq) (c:EO),(∀x∈l,∀i,x.part=some i->i<n)->c.2.length=n->(Ct parts of rec l c).2.length=n/\uns (Ct parts of rec l c).2<=uns c.2/\wt (Ct parts of rec l c).1+2000*uns (Ct parts of rec l c).2<=wt c.1+2000*uns c.2+2*l.length
 |[],c,_,h=>⟨h,tL _,tL _⟩
 |x::l,c,hx,h=>by
  have hn:=fun{c':EO} (h':c'.2.length=n)=>TE hr l c' (fun y hy=>hx y (uW _ hy)) h';rw[Ct,uQ];split
  ·have:=hn h;exact⟨this.1,this.2.1,by omega⟩
  split
  ·have h1:=hn (c':=(CU x c.1,c.2)) h
   have h2:=Sy x c.1;exact⟨h1.1,h1.2.1,by have:=h1.2.2;simp only[]at this;omega⟩
  ·split
   ·have:=hn h;exact⟨this.1,this.2.1,by omega⟩
   ·rename_i j hj
    split
    ·have h0:=hr j c (hx x uX j hj) h
     have h1:=hn h0.1;exact⟨h1.1,by omega,by omega⟩
    ·have:=hn h;exact⟨this.1,this.2.1,by omega⟩
theorem Od(hp:BM parts)(hs:∀P∈parts,P.sels.length<=1000):∀f,SD parts.length (Cw parts of f)
 |0,_,_,_,h=>⟨h,tL _,tL _⟩
 |f+1,i,c,hi,h=>by
  rw[Cw];split
  ·exact⟨h,tL _,tL _⟩
  ·rename_i hf
   have hsi:c.2[i]?=some false:=by
    have hlt:i<c.2.length:=by omega
    rw[tN hlt];rw[List.getD_eq_getElem?_getD,tN hlt]at hf;simpa using hf
   have h5:=Kj c.2 i hsi;have hl:(Ax parts i).sels.length<=1000:=by
    unfold Ax;rw[List.getD_eq_getElem?_getD,tN hi];exact hs _ (List.getElem_mem hi)
   have h1:=TE (parts:=parts) (of:=of) (Od hp hs f) (Ax parts i).sels (c.1,c.2.set i true) (hp.d i) (by simpa using h);simp only[]at h1;exact⟨h1.1,by omega,by omega⟩
theorem TA(hp:BM parts)(hs:∀P∈parts,P.sels.length<=1000):∀(l:List Nat) (c:EO),(∀p∈l,p<parts.length)->c.2.length=parts.length->(FK parts of l c).2.length=parts.length/\wt (FK parts of l c).1+2000*uns (FK parts of l c).2<=wt c.1+2000*uns c.2
 |[],c,_,h=>⟨h,tL _⟩
 |i::l,c,hl,h=>by
  rw[FK];have h1:=Od (of:=of) hp hs (parts.length+1) i c (hl i uX) h;have h2:=TA hp hs l _ (fun p q=>hl p (uW _ q)) h1.1;exact⟨h2.1,by omega⟩
theorem ZZ(hp:BM parts)(hs:∀P∈parts,P.sels.length<=1000)(l:List Nat)(hl:∀p∈l,p<parts.length):wt (Dt parts of l)<=2000*parts.length:=by
 have h:=(TA (of:=of) hp hs l ([],List.replicate parts.length false) hl (by simp)).2;unfold Dt;rw[Ja]at h;have:wt ([]:List QF)=0:=rfl;simp only[]at h;omega
end
structure JK(E:CB)(parts:List Ai)(whole:Nat)(m:List Bool):Prop where
 pin:BM parts
 loc:∀p T,Db E parts whole p T->∀x∈(Ax parts p).sels,Jk E parts x T
 met:∀a b,a<parts.length->b<parts.length->Eo parts.length m a b->Kr parts m (Cg a b)
 w:whole<parts.length
theorem JK.lt{E:CB}{parts:List Ai}{whole:Nat}{m:List Bool}(h:JK E parts whole m){p:Nat}{T:vD}(hT:Db E parts whole p T):p<parts.length:=by
 cases hT with
 |root=>exact h.w
 |kid _ hx hk=>exact h.pin.d _ _ hx _ (LG hk)
def JG(parts:List Ai)(m:List Bool)(ps:List Nat):Prop:=∀p∈ps,∀q∈ps,∀a∈Bf parts p,∀b∈Bf parts q,Eo parts.length m a b
structure PY(E:CB):Prop where
 fld:∀o∈E.objs,∀T n f,AU o E.uns T=true->Il E.objs E.ifs T n=some f->∃d,En o.fields n=some d/\d.ty=f.ty/\d.arg=f.arg
 nam:∀T n f,Il E.objs E.ifs T n=some f->n≠FH/\n≠FI/\n≠Fk
 idt:∀o∈E.objs,∀d∈o.fields,d.arg=CI->Ou d.ty=false
theorem Vs{E:CB}{parts:List Ai}{x:Aq}{T:vD}(h:Jk E parts x T)(hk:x.kind=0):x.name=FH\/(x.name=FI/\T=bQ)\/(x.name=Fk/\T=bQ/\∃a,x.args=[a])\/∃f,Il E.objs E.ifs T x.name=some f/\Id f x.args=true:=by
 unfold Jk De at h;by_cases hc:x.conds.all (fun c=>Dm c.2 Jr true)=true
 ·rw[uC hc,uC hk]at h
  unfold Ik at h;by_cases h1:x.name=FH\/(x.name=FI/\T=bQ)
  ·rcases h1 with q|q
   ·exact .inl q
   ·exact .inr (.inl q)
  ·rw[uB h1]at h
   by_cases h2:x.name=Fk/\T=bQ
   ·rw[uC h2]at h
    refine .inr (.inr (.inl ⟨h2.1,h2.2,?_⟩));simp only[uL]at h;have h3:=h.1;unfold Qz at h3;split at h3
    ·rename_i a e;exact⟨a,e⟩
    ·cases h3
   ·rw[uB h2]at h
    cases hf:Il E.objs E.ifs T x.name with
    |none=>rw[hf]at h;simp at h
    |some f=>
     rw[hf]at h;simp only[]at h;refine .inr (.inr (.inr ⟨f,rfl,?_⟩));by_cases hm:Dy E.roles f.hide_=true
     ·rw[uC hm]at h
      by_cases ha:Id f x.args=true
      ·exact ha
      ·rw[uB ha]at h;simp at h
     ·rw[uB hm]at h;simp at h
 ·rw[uB hc]at h;simp at h
section
variable {E:CB} {parts:List Ai} {whole:Nat} {m:List Bool} {of:vD->Bool} {ps:List Nat}
theorem Ti{x y:Aq}(h:FG x y=true):x.name=y.name/\x.args=y.args:=by
 unfold FG at h;rw[uL]at h;exact⟨of_decide_eq_true h.1,of_decide_eq_true h.2⟩
theorem JK.pair(hs:JK E parts whole m)(hps:∀p∈ps,p<parts.length)(hm:JG parts m ps){x y:Aq}(hx:Hf E parts whole of ps x)(hy:Hf E parts whole of ps y)(hk:x.key=y.key):(x.name=y.name/\x.args=y.args)/\∀a b,x.part=some a->y.part=some b->∀a'∈Bf parts a,∀b'∈Bf parts b,Eo parts.length m a' b':=by
 obtain⟨p,hp,i,T,l1,t1,o1,x1,k1⟩:=hx;obtain⟨q,hq,j,U,l2,t2,o2,x2,k2⟩:=hy;have hi:=l1.lt hs.pin (hps p hp);have hj:=l2.lt hs.pin (hps q hq);have hmm:=hs.met i j hi hj (hm p hp q hq i (UM hs.pin (hps p hp) l1) j (UM hs.pin (hps q hq) l2));unfold Cg at hmm;split at hmm
 ·obtain⟨a1,a2⟩:=hmm y x2 x x1 k2 k1 hk.symm
  have:=Ti a1;exact⟨⟨this.1.symm,this.2.symm⟩,fun a b h1 h2 a' ha b' hb=>fT (a2 b a h2 h1 b' hb a' ha)⟩
 ·obtain⟨a1,a2⟩:=hmm x x1 y x2 k1 k2 hk
  exact⟨Ti a1,a2⟩
structure PG(E:CB)(parts:List Ai)(whole:Nat)(m:List Bool)(o:Ap)(f:QF):Prop where
 ar:f.1.name=Fk->∃a,f.1.args=[a]
 or:f.1.name≠FH->f.1.name≠FI->f.1.name≠Fk->∃d,En o.fields f.1.name=some d/\(d.arg=CI->∃a,f.1.args=[a])/\(∀q∈f.2,Db E parts whole q (BI d.ty))/\JG parts m f.2
theorem Zf{f:Al}{l:List Eh}(h:Id f l=true)(hi:f.arg=CI):∃a,l=[a]:=by
 match l,h with
 |[],h=>unfold Id at h;rw[hi]at h;simp at h
 |[a],_=>exact⟨a,rfl⟩
 |a::b::r,h=>unfold Id at h;cases h
theorem aB(hs:JK E parts whole m)(hc:PY E){o:Ap}(ho:o∈E.objs)(hq:∀p∈ps,∃T,Db E parts whole p T/\AU o E.uns T=true)(hm:JG parts m ps){f:QF}(hf:f∈Dt parts (AU o E.uns) ps):PG E parts whole m o f:=by
 have hps:∀p∈ps,p<parts.length:=fun p hp=>by obtain⟨T,h1,_⟩:=hq p hp;exact hs.lt h1
 obtain⟨hx,hqs⟩:=TJ hq f hf;have hx':=hx;obtain⟨p,hp,i,T,l1,t1,o1,x1,k1⟩:=hx;have hl:=Vs (hs.loc i T t1 f.1 x1) k1;refine⟨fun e=>?_,fun n1 n2 n3=>?_⟩
 ·rcases hl with q|q|q|⟨g,q,_⟩
  ·rw[e]at q;exact absurd q (by decide)
  ·rw[e]at q;exact absurd q.1 (by decide)
  ·exact q.2.2
  ·exact absurd e (hc.nam _ _ _ q).2.2
 ·rcases hl with q|q|q|⟨g,q,hg⟩
  ·exact absurd q n1
  ·exact absurd q.1 n2
  ·exact absurd q.1 n3
  ·obtain⟨d,d1,d2,d3⟩:=hc.fld o ho T f.1.name g o1 q
   refine⟨d,d1,fun e=>Zf hg (by rw[<-d3];exact e),fun r hr=>?_,fun a ha b hb=>?_⟩
   ·obtain⟨y,hy,hk,wF⟩:=hqs r hr
    have hpr:=(hs.pair hps hm hx' hy hk.symm).1.1;obtain⟨p2,hp2,j,U,l2,t2,o2,y1,k2⟩:=hy;rcases Vs (hs.loc j U t2 y y1) k2 with z|z|z|⟨g',z,_⟩
    ·rw[<-hpr]at z;exact absurd z n1
    ·rw[<-hpr]at z;exact absurd z.1 n2
    ·rw[<-hpr]at z;exact absurd z.1 n3
    ·have z':=z
     rw[<-hpr]at z;obtain⟨d',e1,e2,_⟩:=hc.fld o ho U f.1.name g' o2 z;rw[d1]at e1;have:=tY e1;subst this;rw[e2];exact .kid t2 y1 (by unfold Fr;rw[wF];simp only[Option.bind_some];rw[uC k2,z'];rfl)
   ·obtain⟨y,hy,hk,wF⟩:=hqs a ha
    obtain⟨y',hy',hk',hpart'⟩:=hqs b hb;exact(hs.pair hps hm hy hy' (hk.trans hk'.symm)).2 a b wF hpart'
end
inductive Fi(E:AJ):RV->Bo->Prop
 |lit {k:Nat} {n:Int} {t:vD} {l:List RV} {ty:Bo}:k≠6->k≠7->Fi E (.mk k n t l) ty
 |ref {n:Int} {t:vD} {l:List RV} {c:vD} {st:Bool}:(∀r,E.row t=some r->AU (E.obj r.1) E.uns c=true)->Fi E (.mk 6 n t l) (.one c st)
 |list {n:Int} {t:vD} {l:List RV} {ty:Bo} {st:Bool}:(∀c∈l,Fi E c ty)->Fi E (.mk 7 n t l) (.list ty st)
def AJ.c(E:AJ):CB:=⟨E.objs,E.ifs,E.uns,E.roles⟩
structure Jm(E:AJ)(r:MR):Prop where
 k:r.1<E.objs.length
 f:∀d,d∈(E.obj r.1).fields->En (E.obj r.1).fields d.name=some d->Fi E (Fm r d.name) d.ty
structure Mt(E:AJ)(whole:Nat)(m:List Bool)(r:MR)(ps:List Nat):Prop where
 t:∀p∈ps,∃T,Db E.c E.parts whole p T/\AU (E.obj r.1) E.uns T=true
 m:JG E.parts m ps
structure Ms(E:AJ)(whole:Nat)(m:List Bool):Prop where
 safe:JK E.c E.parts whole m
 sch:PY E.c
 row:∀id r,E.row id=some r->Jm E r
theorem AJ.obj_mem{E:AJ}{k:Nat}(h:k<E.objs.length):E.obj k∈E.objs:=by
 unfold AJ.obj;rw[List.getD_eq_getElem?_getD,tN h];exact List.getElem_mem h
theorem Ms.fld{E:AJ}{whole:Nat}{m:List Bool}(h:Ms E whole m){r:MR}(hr:Jm E r){ps:List Nat}(hp:Mt E whole m r ps){f:QF}(hf:f∈Dt E.parts (AU (E.obj r.1) E.uns) ps):PG E.c E.parts whole m (E.obj r.1) f:=aB h.safe h.sch (AJ.obj_mem hr.k) hp.t hp.m hf
def cB(x:vD)(l:List vD):Nat:=l.countP (fun y=>decide (y=x))
theorem Qh(x:vD)(a b:List vD):cB x (a++b)=cB x a+cB x b:=List.countP_append ..
theorem JQ{x:vD}{l:List vD}(h:x∈l):0<cB x l:=List.countP_pos_iff.2 ⟨x,h,by simp⟩
theorem Qi{x:vD}{l:List vD}(h:0<cB x l):x∈l:=by
 obtain⟨y,hy,e⟩:=List.countP_pos_iff.1 h;rw[<-of_decide_eq_true e];exact hy
theorem Qj:∀(l:List vD),l.Nodup↔∀x,cB x l<=1
 |[]=>by simp[cB]
 |a::l=>by
  rw[List.nodup_cons,Qj l];refine⟨fun h x=>?_,fun h=>⟨fun m=>?_,fun x=>?_⟩⟩
  ·have:=h.2 x
   unfold cB at*;rw[List.countP_cons];by_cases e:a=x
   ·subst e
    have h0:¬0<l.countP (fun y=>decide (y=a)):=fun q=>h.1 (Qi q);rw[uC (by simp)];omega
   ·rw[uB (by simpa using e)];omega
  ·have h1:=h a
   have h2:=JQ m;unfold cB at*;rw[List.countP_cons,uC (by simp)]at h1;omega
  ·have:=h x
   unfold cB at*;rw[List.countP_cons]at this;omega
def Jl(c:Be):Prop:=∀x,cB x c.names=cB x (c.objs.map Ap.name)+(cB x (c.ifs.map As.name)+cB x (c.uns.map Au.name))
theorem Wt{c:Be}{s:St}(h:Jl c):Jl (By c s).1:=by
 unfold By;split
 ·exact h
 split
 ·intro x
  have:=h x;simp only[uU,List.map_cons,List.map_nil,Qh];omega
 split
 ·intro x
  have:=h x;simp only[uU,List.map_cons,List.map_nil,Qh];omega
 split
 ·intro x
  have:=h x;simp only[uU,List.map_cons,List.map_nil,Qh];omega
 ·exact h
theorem Wz:∀(f:Nat) {c:Be} {s:St},Jl c->Jl (Er f c s).1
 |0,_,_,h=>h
 |f+1,c,s,h=>by
  rw[Er];split
  ·exact h
  ·exact Wz f (Wt h)
theorem WA(s:St):Jl (Aw s).1:=Wz 801 (Wt (fun x=>by simp[FJ,cB]))
theorem XD:∀(t u:Bo),Eu t u=true->t=u
 | .one n st,.one m su,h=>by
   unfold Eu at h;simp only[uL,uF,beq_iff_eq]at h;rw[h.1,h.2]
 | .list t st,.list u su,h=>by
   unfold Eu at h;simp only[uL,beq_iff_eq]at h;rw[XD t u h.2,h.1]
 | .one _ _,.list _ _,h=>by unfold Eu at h;cases h
 | .list _ _,.one _ _,h=>by unfold Eu at h;cases h
theorem sH{n:vD}(h:Ki n=false):n≠FH/\n≠FI/\n≠Fk:=by
 refine⟨fun e=>?_,fun e=>?_,fun e=>?_⟩<;>subst e<;>exact absurd h (by decide)
theorem eZ{l:List vD}{x:vD}(h:Ae l x<0):x∉l:=fun m=>by have:=LC l x m;omega
section
variable {c:Be}
theorem Ty(h:Jl c)(hn:c.names.Nodup)(x:vD):cB x (c.objs.map Ap.name)+(cB x (c.ifs.map As.name)+cB x (c.uns.map Au.name))<=1:=by rw[<-h x];exact(Qj _).1 hn x
theorem Qx{fs:List Al}{n:vD}{f:Al}(h:En fs n=some f):f∈fs/\f.name=n:=by
 unfold En at h;split at h
 ·cases h
 ·rename_i hneg
  obtain⟨k,a,hk,ha,hg,_⟩:=Cl Al.name fs n hneg;rw[hk,uO,ha]at h;rw[<-tY h];exact⟨tO ha,hg⟩
theorem QA{objs:List Ap}{ifs:List As}{T:vD}{fs:List Al}(h:DU objs ifs T=some fs):(∃o∈objs,o.name=T/\o.fields=fs)\/(T∉objs.map Ap.name/\∃i∈ifs,i.name=T/\i.fields=fs/\Ju ifs T=fs):=by
 unfold DU at h;by_cases ho:Ae (objs.map Ap.name) T<0
 ·rw[uC ho]at h
  by_cases hi:Ae (ifs.map As.name) T<0
  ·rw[uC hi]at h;cases h
  ·rw[uB hi]at h
   obtain⟨k,a,hk,ha,hg,_⟩:=Cl As.name ifs T hi;rw[hk,uO,ha]at h;refine .inr ⟨eZ ho,a,tO ha,hg,tY h,?_⟩;unfold Ju;rw[hk,uO,ha];exact tY h
 ·rw[uB ho]at h
  obtain⟨k,a,hk,ha,hg,_⟩:=Cl Ap.name objs T ho;rw[hk,uO,ha]at h;exact .inl ⟨a,tO ha,hg,tY h⟩
theorem Yf{uns:List Au}{T m:vD}(h:Iy uns T m=true):T∈uns.map Au.name:=by
 unfold Iy at h;by_cases hu:Ae (uns.map Au.name) T<0
 ·rw[uC hu]at h;cases h
 ·obtain⟨k,a,hk,ha,hg,_⟩:=Cl Au.name uns T hu
  rw[<-hg];exact List.mem_map_of_mem (tO ha)
theorem rE(h:Jl c)(hr:GQ c=true)(roles:List vD):PY ⟨c.objs,c.ifs,c.uns,roles⟩:=by
 unfold GQ at hr;simp only[uL,uK]at hr;obtain⟨_,hnm,hob,hif,_,_⟩:=hr;unfold KT at hnm;rw[uL]at hnm;have hnd:=(Jy _).1 hnm.2;have hfb:∀fs:List Al,((∃o∈c.objs,o.fields=fs)\/∃i∈c.ifs,i.fields=fs)->∀f∈fs,Ki f.name=false:=by
  intro fs hfs f hf;have hfl:DV (c.roles.map At.name) (Nf c) fs=true:=by
   rcases hfs with⟨o,ho,e⟩|⟨i,hi,e⟩
   ·have:=hob o ho
    unfold FQ at this;rw[uL]at this;rw[<-e];exact this.1
   ·rw[<-e];exact hif i hi
  unfold DV at hfl;rw[uL,uK]at hfl;have:=hfl.1 f hf;unfold Hk at this;rw[uL]at this;simpa using this.1
 refine⟨fun o ho T n f hof hf=>?_,fun T n f hf=>?_,fun o ho d hd hi=>?_⟩
 ·simp only[]at ho hof hf
  obtain⟨fs,h1,h2⟩:=Option.bind_eq_some_iff.1 (show(DU c.objs c.ifs T).bind (fun fs=>En fs n)=some f from hf);obtain⟨hfm,hfn⟩:=Qx h2;have hc:=Ty h hnd T;have hoc:∀o'∈c.objs,o'.name=T->0<cB T (c.objs.map Ap.name):=fun o' ho' e=>JQ (by rw[<-e];exact List.mem_map_of_mem ho');rcases QA h1 with⟨o',ho',e1,e2⟩|⟨hno,i,hi,e1,e2,e3⟩
  ·have hc1:=hoc o' ho' e1
   unfold AU at hof;rw[Bool.or_eq_true,Bool.or_eq_true]at hof;rcases hof with q|q|q
   ·rw[Cr,uF]at q
    have hoo:o=o':=by
     obtain⟨j,hj⟩:=List.mem_iff_getElem?.1 ho;obtain⟨j',hj'⟩:=List.mem_iff_getElem?.1 ho';have hn2:(c.objs.map Ap.name).Nodup:=by
      rw[Qj];intro a;have:=Ty h hnd a;omega
     have a1:=LA _ T j hn2 (by rw[uD,hj];simp[q]);have a2:=LA _ T j' hn2 (by rw[uD,hj'];simp[e1]);have:j=j':=by omega
     subst this;rw[hj]at hj';exact tY hj'
    rw[hoo,e2];exact⟨f,h2,rfl,rfl⟩
   ·have ob:=hob o ho
    unfold FQ Jv Ea at ob;simp only[uL,uK]at ob;have hk:=ob.2.1.1.2 T ((Fv _ _).1 q);rw[uF]at hk;have:=UJ hk;have hm:T∈c.ifs.map As.name:=by
     obtain⟨k,a,_,ha,hg,_⟩:=Cl As.name c.ifs T this;rw[<-hg];exact List.mem_map_of_mem (tO ha)
    have:0<cB T (c.ifs.map As.name):=JQ hm;omega
   ·have:0<cB T (c.uns.map Au.name):=JQ (Yf q)
    omega
  ·have hic:0<cB T (c.ifs.map As.name):=JQ (by rw[<-e1];exact List.mem_map_of_mem hi)
   unfold AU at hof;rw[Bool.or_eq_true,Bool.or_eq_true]at hof;rcases hof with q|q|q
   ·rw[Cr,uF]at q
    exact absurd (by rw[<-q];exact List.mem_map_of_mem ho) hno
   ·have ob:=hob o ho
    unfold FQ Jv at ob;simp only[uL,uK]at ob;have hs:=ob.2.1.2 T ((Fv _ _).1 q) f (by rw[e3];exact hfm);unfold Fc at hs;by_cases hneg:Ae (o.fields.map Al.name) f.name<0
    ·rw[uC hneg]at hs;cases hs
    ·rw[uB hneg]at hs
     obtain⟨k,g,hk,hg,_,_⟩:=Cl Al.name o.fields f.name hneg;rw[hk,uO,hg]at hs;simp only[]at hs;unfold Lw at hs;simp only[uL,Cr,uF]at hs;refine⟨g,?_,(XD _ _ hs.2.2.2.2.2).symm,hs.2.2.2.1.symm⟩;unfold En;rw[<-hfn,uB hneg,hk,uO,hg]
   ·have:0<cB T (c.uns.map Au.name):=JQ (Yf q)
    omega
 ·obtain⟨fs,h1,h2⟩:=Option.bind_eq_some_iff.1 (show(DU c.objs c.ifs T).bind (fun fs=>En fs n)=some f from hf)
  obtain⟨hfm,hfn⟩:=Qx h2;rw[<-hfn];refine sH (hfb fs ?_ f hfm);rcases QA h1 with⟨o',ho',_,e2⟩|⟨_,i,hi,_,e2,_⟩
  ·exact .inl ⟨o',ho',e2⟩
  ·exact .inr ⟨i,hi,e2⟩
 ·have ob:=hob o ho
  unfold FQ DV at ob;simp only[uL,uK]at ob;have:=ob.1.1 d hd;unfold Hk at this;simp only[uL]at this;have:=this.2.2.2.2;unfold EU at this;rw[uC hi,uL]at this;simpa using this.1
end
end Go.Proofs.YtadneapobijejaaGreatDoor
