import Derived.Test.YtogdodlibkckkaaGreatDoorZ32
import Derived.Test.YtogdodlibkckkaaGreatDoorZ33
namespace Go.Proofs.YtogdodlibkckkaaGreatDoor
set_option maxHeartbeats 20000000
set_option maxRecDepth 100000
open Go.RowKit Tryz
section
variable {E:CG} {parts:List Ai} {whole:Nat} {of:yF->Bool} {ps:List Nat}
def QH(E:CG)(parts:List Ai)(whole:Nat)(of:yF->Bool)(ps:List Nat)(i:Nat):Prop:=∃p∈ps,∃T,Jt parts p i/\Dl E parts whole i T/\of T=true
def Hs(E:CG)(parts:List Ai)(whole:Nat)(of:yF->Bool)(ps:List Nat)(x:As):Prop:=∃p∈ps,∃i T,Jt parts p i/\Dl E parts whole i T/\of T=true/\x∈(Ax parts i).sels/\x.kind=0
def Hk(Z:As->Prop)(l:List QF):Prop:=∀f∈l,Z f.1/\∀q∈f.2,∃y,Z y/\y.key=f.1.key/\y.part=some q
theorem TL{Z:As->Prop}{x:As}(c:Z x):∀{l:List QF},Hk Z l->Hk Z (Dd x l)
 |[],_=>fun f a=>by
  rw[Dd,List.mem_singleton]at a;rw[a];exact⟨c,fun q d=>⟨x,c,rfl,by simpa using d⟩⟩
 |y::l,b=>fun f a=>by
  rw[Dd]at a;split at a
  ·rename_i e
   rcases yE.1 a with r|r
   ·rw[r]
    have h:=b y yB;refine⟨h.1,fun q d=>?_⟩;rcases yD.1 d with s|s
    ·exact h.2 q s
    ·exact⟨x,c,e.symm,by simpa using s⟩
   ·exact b f (yA _ r)
  ·rcases yE.1 a with r|r
   ·rw[r];exact b y yB
   ·exact TL c (fun g i=>b g (yA _ i)) f r
theorem UC{rec:LG}(s:∀i c,QH E parts whole of ps i->Hk (Hs E parts whole of ps) c.1->Hk (Hs E parts whole of ps) (rec i c).1){p i:Nat}{T:yF}(k:p∈ps)(g:Jt parts p i)(e:Dl E parts whole i T)(h:of T=true):∀(l:List As) (c:Fc),(∀x∈l,x∈(Ax parts i).sels)->Hk (Hs E parts whole of ps) c.1->Hk (Hs E parts whole of ps) (CA parts of rec l c).1
 |[],c,_,a=>a
 |x::l,c,t,a=>by
  have m:=t x yB;have b:=fun{c':Fc} (u:Hk (Hs E parts whole of ps) c'.1)=>UC s k g e h l c' (fun y v=>t y (yA _ v)) u;rw[CA];split
  ·exact b a
  split
  ·rename_i d
   exact b (TL ⟨p,k,i,T,g,e,h,m,d⟩ a)
  ·rename_i d
   split
   ·exact b a
   ·rename_i j r
    split
    ·rename_i n
     refine b (s j c ⟨p,k,Ei (Ax parts j).typ T,.step g m d r,.kid e m (by unfold Fz;rw[r];simp only[Option.bind_some];rw[xG d]),?_⟩ a);by_cases f:(Ax parts j).typ=bE
     ·unfold Ei;rw[xH f];exact h
     ·rw[Xr f]
      rw[Bool.or_eq_true]at n;rcases n with q|q
      ·exact absurd (of_decide_eq_true q) f
      ·exact q
    ·exact b a
theorem UE:∀(f i:Nat) (c:Fc),QH E parts whole of ps i->Hk (Hs E parts whole of ps) c.1->Hk (Hs E parts whole of ps) (CD parts of f i c).1
 |0,_,_,_,a=>a
 |f+1,i,c,⟨p,j,T,g,b,h⟩,a=>by
  rw[CD];split
  ·exact a
  ·exact UC (fun i c e d=>UE f i c e d) j g b h (Ax parts i).sels (c.1,c.2.set i true) (fun _ a=>a) a
theorem Uz:∀(l:List Nat) (c:Fc),(∀p∈l,QH E parts whole of ps p)->Hk (Hs E parts whole of ps) c.1->Hk (Hs E parts whole of ps) (Gb parts of l c).1
 |[],c,_,a=>a
 |i::l,c,b,a=>by
  rw[Gb];exact Uz l _ (fun p d=>b p (yA _ d)) (UE _ _ _ (b i yB) a)
theorem UG(b:∀p∈ps,∃T,Dl E parts whole p T/\of T=true):Hk (Hs E parts whole of ps) (DG parts of ps):=
 Uz ps _ (fun p a=>by obtain⟨T,c,d⟩:=b p a;exact⟨p,a,T,.self,c,d⟩) (fun f e=>by cases e)
def wt:List QF->Nat
 |[]=>0
 |f::l=>1+f.2.length+wt l
theorem Tp(x:As):∀l:List QF,wt (Dd x l)<=wt l+2
 |[]=>by
  rw[Dd,wt,wt];cases x.part<;>simp[wt]
 |y::l=>by
  rw[Dd];split
  ·rw[wt,wt,xJ]
   cases x.part<;>simp<;>omega
  ·have:=Tp x l
   rw[wt,wt];omega
theorem ZA(l:List QF):l.length<=wt l:=by
 induction l with
 |nil=>exact wQ _
 |cons f l a=>rw[wt,xU];omega
theorem Tq:∀(l:List QF) (f:QF),f∈l->f.2.length<=wt l
 |[],f,a=>by cases a
 |g::l,f,a=>by
  rw[wt];rcases yE.1 a with e|e
  ·subst e;omega
  ·have:=Tq l f e;omega
def Tt(n:Nat)(rec:LG):Prop:=∀i c,i<n->c.2.length=n->(rec i c).2.length=n/\uns (rec i c).2<=uns c.2/\wt (rec i c).1+2000*uns (rec i c).2<=wt c.1+2000*uns c.2
theorem UB{n:Nat}{rec:LG}(e:Tt n rec):∀(l:List As) (c:Fc),(∀x∈l,∀i,x.part=some i->i<n)->c.2.length=n->(CA parts of rec l c).2.length=n/\uns (CA parts of rec l c).2<=uns c.2/\wt (CA parts of rec l c).1+2000*uns (CA parts of rec l c).2<=wt c.1+2000*uns c.2+2*l.length
 |[],c,_,a=>⟨a,wQ _,wQ _⟩
 |x::l,c,f,a=>by
  have d:=fun{c':Fc} (g:c'.2.length=n)=>UB e l c' (fun y m=>f y (yA _ m)) g;rw[CA,xU];split
  ·have:=d a;exact⟨this.1,this.2.1,by omega⟩
  split
  ·have b:=d (c':=(Dd x c.1,c.2)) a
   have p:=Tp x c.1;exact⟨b.1,b.2.1,by have:=b.2.2;simp only[]at this;omega⟩
  ·split
   ·have:=d a;exact⟨this.1,this.2.1,by omega⟩
   ·rename_i j k
    split
    ·have h:=e j c (f x yB j k) a
     have b:=d h.1;exact⟨b.1,by omega,by omega⟩
    ·have:=d a;exact⟨this.1,this.2.1,by omega⟩
theorem OM(j:BP parts)(hs:∀P∈parts,P.sels.length<=1000):∀f,Tt parts.length (CD parts of f)
 |0,_,_,_,a=>⟨a,wQ _,wQ _⟩
 |f+1,i,c,g,a=>by
  rw[CD];split
  ·exact⟨a,wQ _,wQ _⟩
  ·rename_i e
   have k:c.2[i]?=some false:=by
    have h:i<c.2.length:=by omega
    rw[wS h];rw[List.getD_eq_getElem?_getD,wS h]at e;simpa using e
   have l:=KD c.2 i k;have m:(Ax parts i).sels.length<=1000:=by
    unfold Ax;rw[List.getD_eq_getElem?_getD,wS g];exact hs _ (List.getElem_mem g)
   have b:=UB (parts:=parts) (of:=of) (OM j hs f) (Ax parts i).sels (c.1,c.2.set i true) (j.d i) (by simpa using a);simp only[]at b;exact⟨b.1,by omega,by omega⟩
theorem Uy(d:BP parts)(hs:∀P∈parts,P.sels.length<=1000):∀(l:List Nat) (c:Fc),(∀p∈l,p<parts.length)->c.2.length=parts.length->(Gb parts of l c).2.length=parts.length/\wt (Gb parts of l c).1+2000*uns (Gb parts of l c).2<=wt c.1+2000*uns c.2
 |[],c,_,a=>⟨a,wQ _⟩
 |i::l,c,b,a=>by
  rw[Gb];have e:=OM (of:=of) d hs (parts.length+1) i c (b i yB) a;have f:=Uy d hs l _ (fun p q=>b p (yA _ q)) e.1;exact⟨f.1,by omega⟩
theorem dM(c:BP parts)(hs:∀P∈parts,P.sels.length<=1000)(l:List Nat)(b:∀p∈l,p<parts.length):wt (DG parts of l)<=2000*parts.length:=by
 have a:=(Uy (of:=of) c hs l ([],List.replicate parts.length false) b (by simp)).2;unfold DG;rw[Jl]at a;have:wt ([]:List QF)=0:=rfl;simp only[]at a;omega
end
structure JY(E:CG)(parts:List Ai)(whole:Nat)(m:List Bool):Prop where
 pin:BP parts
 loc:∀p T,Dl E parts whole p T->∀x∈(Ax parts p).sels,Ju E parts x T
 met:∀a b,a<parts.length->b<parts.length->Ey parts.length m a b->KM parts m (Cq a b)
 w:whole<parts.length
theorem JY.lt{E:CG}{parts:List Ai}{whole:Nat}{m:List Bool}(a:JY E parts whole m){p:Nat}{T:yF}(b:Dl E parts whole p T):p<parts.length:=by
 cases b with
 |root=>exact a.w
 |kid _ e c=>exact a.pin.d _ _ e _ (Mf c)
def JS(parts:List Ai)(m:List Bool)(ps:List Nat):Prop:=∀p∈ps,∀q∈ps,∀a∈Bi parts p,∀b∈Bi parts q,Ey parts.length m a b
structure QK(E:CG):Prop where
 fld:∀o∈E.objs,∀T n f,AW o E.uns T=true->Iy E.objs E.ifs T n=some f->∃d,EQ o.fields n=some d/\d.ty=f.ty/\d.arg=f.arg/\d.hide_=f.hide_
 nam:∀T n f,Iy E.objs E.ifs T n=some f->n≠Gu/\n≠Gv/\n≠FZ
 idt:∀o∈E.objs,∀d∈o.fields,d.arg=De->Pb d.ty=false
theorem WB{E:CG}{parts:List Ai}{x:As}{T:yF}(b:Ju E parts x T)(m:x.kind=0):x.name=Gu\/(x.name=Gv/\T=bQ)\/(x.name=FZ/\T=bQ/\∃a,x.args=[a])\/∃f,Iy E.objs E.ifs T x.name=some f/\Is f x.args=true/\DW E.roles f.hide_=true:=by
 unfold Ju Dn at b;by_cases k:x.conds.all (fun c=>Dy c.2 JB true)=true
 ·rw[xH k,xH m]at b
  unfold Ix at b;by_cases i:x.name=Gu\/(x.name=Gv/\T=bQ)
  ·rcases i with q|q
   ·exact .inl q
   ·exact .inr (.inl q)
  ·rw[xG i]at b
   by_cases d:x.name=FZ/\T=bQ
   ·rw[xH d]at b
    refine .inr (.inr (.inl ⟨d.1,d.2,?_⟩));simp only[xQ]at b;have g:=b.1;unfold Rr at g;split at g
    ·rename_i a e;exact⟨a,e⟩
    ·cases g
   ·rw[xG d]at b
    cases l:Iy E.objs E.ifs T x.name with
    |none=>rw[l]at b;simp at b
    |some f=>
     rw[l]at b;simp only[]at b;refine .inr (.inr (.inr ⟨f,rfl,?_⟩));by_cases h:DW E.roles f.hide_=true
     ·rw[xH h]at b
      by_cases j:Is f x.args=true
      ·exact⟨j,h⟩
      ·rw[xG j]at b;simp at b
     ·rw[xG h]at b;simp at b
 ·rw[xG k]at b;simp at b
section
variable {E:CG} {parts:List Ai} {whole:Nat} {m:List Bool} {of:yF->Bool} {ps:List Nat}
theorem Ug{x y:As}(a:FY x y=true):x.name=y.name/\x.args=y.args:=by
 unfold FY at a;rw[xQ]at a;exact⟨of_decide_eq_true a.1,of_decide_eq_true a.2⟩
theorem JY.pair(hs:JY E parts whole m)(d:∀p∈ps,p<parts.length)(D:JS parts m ps){x y:As}(F:Hs E parts whole of ps x)(G:Hs E parts whole of ps y)(n:x.key=y.key):(x.name=y.name/\x.args=y.args)/\∀a b,x.part=some a->y.part=some b->∀e∈Bi parts a,∀h∈Bi parts b,Ey parts.length m e h:=by
 obtain⟨p,k,i,T,s,K,I,u,r⟩:=F;obtain⟨q,l,j,H,t,L,J,v,k2⟩:=G;have B:=s.lt hs.pin (d p k);have C:=t.lt hs.pin (d q l);have c:=hs.met i j B C (D p k q l i (VP hs.pin (d p k) s) j (VP hs.pin (d q l) t));unfold Cq at c;split at c
 ·obtain⟨f,g⟩:=c y v x u k2 r n.symm
  have:=Ug f;exact⟨⟨this.1.symm,this.2.symm⟩,fun a b w z e A h hb=>jT (g b a z w h hb e A)⟩
 ·obtain⟨f,g⟩:=c x u y v r k2 n
  exact⟨Ug f,g⟩
structure Qx(E:CG)(parts:List Ai)(whole:Nat)(m:List Bool)(o:Aq)(f:QF):Prop where
 ar:f.1.name=FZ->∃a,f.1.args=[a]
 or:f.1.name≠Gu->f.1.name≠Gv->f.1.name≠FZ->∃d,EQ o.fields f.1.name=some d/\DW E.roles d.hide_=true/\(d.arg=De->∃a,f.1.args=[a])/\(∀q∈f.2,Dl E parts whole q (BM d.ty))/\JS parts m f.2
theorem aJ{f:Am}{l:List Es}(c:Is f l=true)(d:f.arg=De):∃a,l=[a]:=by
 match l,c with
 |[],c=>unfold Is at c;rw[d]at c;simp at c
 |[a],_=>exact⟨a,rfl⟩
 |a::b::r,c=>unfold Is at c;cases c
theorem dN(hs:JY E parts whole m)(k:QK E){o:Aq}(B:o∈E.objs)(F:∀p∈ps,∃T,Dl E parts whole p T/\AW o E.uns T=true)(A:JS parts m ps){f:QF}(S:f∈DG parts (AW o E.uns) ps):Qx E parts whole m o f:=by
 have D:∀p∈ps,p<parts.length:=fun p C=>by obtain⟨T,Q,_⟩:=F p C;exact hs.lt Q
 obtain⟨G,s⟩:=UG F f S;have X:=G;obtain⟨p,C,i,T,ai,ad,aa,ae,Z⟩:=G;have x:=WB (hs.loc i T ad f.1 ae) Z;refine⟨fun e=>?_,fun H I J=>?_⟩
 ·rcases x with q|q|q|⟨g,q,_⟩
  ·rw[e]at q;exact absurd q (by decide)
  ·rw[e]at q;exact absurd q.1 (by decide)
  ·exact q.2.2
  ·exact absurd e (k.nam _ _ _ q).2.2
 ·rcases x with q|q|q|⟨g,q,w⟩
  ·exact absurd q H
  ·exact absurd q.1 I
  ·exact absurd q.1 J
  ·obtain⟨d,u,ag,M,N⟩:=k.fld o B T f.1.name g aa q
   refine⟨d,u,by rw[N];exact w.2,fun e=>aJ w.1 (by rw[<-M];exact e),fun r W=>?_,fun a R b hb=>?_⟩
   ·obtain⟨y,h,l,n⟩:=s r W
    have c:=(hs.pair D A X h l.symm).1.1;obtain⟨p2,ah,j,t,aj,K,ab,L,k2⟩:=h;rcases WB (hs.loc j t K y L) k2 with z|z|z|⟨P,z,_⟩
    ·rw[<-c]at z;exact absurd z H
    ·rw[<-c]at z;exact absurd z.1 I
    ·rw[<-c]at z;exact absurd z.1 J
    ·have af:=z
     rw[<-c]at z;obtain⟨d',v,O,_⟩:=k.fld o B t f.1.name P ab z;rw[u]at v;have:=xD v;subst this;rw[O];exact .kid K L (by unfold Fz;rw[n];simp only[Option.bind_some];rw[xH k2,af];rfl)
   ·obtain⟨y,h,l,n⟩:=s a R
    obtain⟨ak,Y,U,V⟩:=s b hb;exact(hs.pair D A h Y (l.trans U.symm)).2 a b n V
end
inductive Fw(E:AM):RV->Bv->Prop
 |lit {k:Nat} {n:Int} {t:yF} {l:List RV} {ty:Bv}:k≠6->k≠7->Fw E (.mk k n t l) ty
 |ref {n:Int} {t:yF} {l:List RV} {c:yF} {st:Bool}:(∀r,E.row t=some r->AW (E.obj r.1) E.uns c=true)->Fw E (.mk 6 n t l) (.one c st)
 |list {n:Int} {t:yF} {l:List RV} {ty:Bv} {st:Bool}:(∀c∈l,Fw E c ty)->Fw E (.mk 7 n t l) (.list ty st)
def AM.c(E:AM):CG:=⟨E.objs,E.ifs,E.uns,E.roles⟩
structure Jw(E:AM)(r:MR):Prop where
 k:r.1<E.objs.length
 f:∀d,d∈(E.obj r.1).fields->EQ (E.obj r.1).fields d.name=some d->Fw E (EM r d.name) d.ty
structure MN(E:AM)(whole:Nat)(m:List Bool)(r:MR)(ps:List Nat):Prop where
 t:∀p∈ps,∃T,Dl E.c E.parts whole p T/\AW (E.obj r.1) E.uns T=true
 m:JS E.parts m ps
structure MM(E:AM)(whole:Nat)(m:List Bool):Prop where
 safe:JY E.c E.parts whole m
 sch:QK E.c
 row:∀id r,E.row id=some r->Jw E r
theorem AM.obj_mem{E:AM}{k:Nat}(a:k<E.objs.length):E.obj k∈E.objs:=by
 unfold AM.obj;rw[List.getD_eq_getElem?_getD,wS a];exact List.getElem_mem a
theorem MM.fld{E:AM}{whole:Nat}{m:List Bool}(a:MM E whole m){r:MR}(e:Jw E r){ps:List Nat}(b:MN E whole m r ps){f:QF}(d:f∈DG E.parts (AW (E.obj r.1) E.uns) ps):Qx E.c E.parts whole m (E.obj r.1) f:=dN a.safe a.sch (AM.obj_mem e.k) b.t b.m d
def cB(x:yF)(l:List yF):Nat:=l.countP (fun y=>decide (y=x))
theorem QX(x:yF)(a b:List yF):cB x (a++b)=cB x a+cB x b:=List.countP_append ..
theorem Kd{x:yF}{l:List yF}(a:x∈l):0<cB x l:=List.countP_pos_iff.2 ⟨x,a,by simp⟩
theorem QY{x:yF}{l:List yF}(a:0<cB x l):x∈l:=by
 obtain⟨y,b,e⟩:=List.countP_pos_iff.1 a;rw[<-of_decide_eq_true e];exact b
theorem Ra:∀(l:List yF),l.Nodup↔∀x,cB x l<=1
 |[]=>by simp[cB]
 |a::l=>by
  rw[List.nodup_cons,Ra l];refine⟨fun b x=>?_,fun b=>⟨fun m=>?_,fun x=>?_⟩⟩
  ·have:=b.2 x
   unfold cB at*;rw[List.countP_cons];by_cases e:a=x
   ·subst e
    have d:¬0<l.countP (fun y=>decide (y=a)):=fun q=>b.1 (QY q);rw[xH (by simp)];omega
   ·rw[xG (by simpa using e)];omega
  ·have c:=b a
   have f:=Kd m;unfold cB at*;rw[List.countP_cons,xH (by simp)]at c;omega
  ·have:=b x
   unfold cB at*;rw[List.countP_cons]at this;omega
def Jv(c:Be):Prop:=∀x,cB x c.names=cB x (c.objs.map Aq.name)+(cB x (c.ifs.map At.name)+cB x (c.uns.map Aw.name))
theorem Xy{c:Be}{s:St}(a:Jv c):Jv (BA c s).1:=by
 unfold BA;split
 ·exact a
 split
 ·intro x
  have:=a x;simp only[xY,List.map_cons,List.map_nil,QX];omega
 split
 ·intro x
  have:=a x;simp only[xY,List.map_cons,List.map_nil,QX];omega
 split
 ·intro x
  have:=a x;simp only[xY,List.map_cons,List.map_nil,QX];omega
 ·exact a
theorem XE:∀(f:Nat) {c:Be} {s:St},Jv c->Jv (EC f c s).1
 |0,_,_,a=>a
 |f+1,c,s,a=>by
  rw[EC];split
  ·exact a
  ·exact XE f (Xy a)
theorem XF(s:St):Jv (Ao s).1:=XE 801 (Xy (fun x=>by simp[Ga,cB]))
theorem YK:∀(t u:Bv),EF t u=true->t=u
 | .one n st,.one m b,a=>by
   unfold EF at a;simp only[xQ,xK,beq_iff_eq]at a;rw[a.1,a.2]
 | .list t st,.list u b,a=>by
   unfold EF at a;simp only[xQ,beq_iff_eq]at a;rw[YK t u a.2,a.1]
 | .one _ _,.list _ _,a=>by unfold EF at a;cases a
 | .list _ _,.one _ _,a=>by unfold EF at a;cases a
theorem uZ{n:yF}(a:KC n=false):n≠Gu/\n≠Gv/\n≠FZ:=by
 refine⟨fun e=>?_,fun e=>?_,fun e=>?_⟩<;>subst e<;>exact absurd a (by decide)
theorem jI{l:List yF}{x:yF}(a:Af l x<0):x∉l:=fun m=>by have:=Mc l x m;omega
section
variable {c:Be}
theorem Uw(a:Jv c)(b:c.names.Nodup)(x:yF):cB x (c.objs.map Aq.name)+(cB x (c.ifs.map At.name)+cB x (c.uns.map Aw.name))<=1:=by rw[<-a x];exact(Ra _).1 b x
theorem Rq{fs:List Am}{n:yF}{f:Am}(b:EQ fs n=some f):f∈fs/\f.name=n:=by
 unfold EQ at b;split at b
 ·cases b
 ·rename_i g
  obtain⟨k,a,e,c,d,_⟩:=Cu Am.name fs n g;rw[e,xS,c]at b;rw[<-xD b];exact⟨wT c,d⟩
theorem OU{objs:List Aq}{ifs:List At}{T:yF}{fs:List Am}(b:Dx objs ifs T=some fs):(∃o∈objs,o.name=T/\o.fields=fs)\/(T∉objs.map Aq.name/\∃i∈ifs,i.name=T/\i.fields=fs/\JF ifs T=fs):=by
 unfold Dx at b;by_cases e:Af (objs.map Aq.name) T<0
 ·rw[xH e]at b
  by_cases g:Af (ifs.map At.name) T<0
  ·rw[xH g]at b;cases b
  ·rw[xG g]at b
   obtain⟨k,a,d,c,f,_⟩:=Cu At.name ifs T g;rw[d,xS,c]at b;refine .inr ⟨jI e,a,wT c,f,xD b,?_⟩;unfold JF;rw[d,xS,c];exact xD b
 ·rw[xG e]at b
  obtain⟨k,a,d,c,f,_⟩:=Cu Aq.name objs T e;rw[d,xS,c]at b;exact .inl ⟨a,wT c,f,xD b⟩
theorem Zf{uns:List Aw}{T m:yF}(b:IK uns T m=true):T∈uns.map Aw.name:=by
 unfold IK at b;by_cases c:Af (uns.map Aw.name) T<0
 ·rw[xH c]at b;cases b
 ·obtain⟨k,a,f,d,e,_⟩:=Cu Aw.name uns T c
  rw[<-e];exact List.mem_map_of_mem (wT d)
theorem tV(G:Jv c)(F:He c=true)(roles:List yF):QK ⟨c.objs,c.ifs,c.uns,roles⟩:=by
 unfold He at F;simp only[xQ,xP]at F;obtain⟨_,E,y,P,_,_⟩:=F;unfold Ll at E;rw[xQ]at E;have J:=(JI _).1 E.2;have N:∀fs:List Am,((∃o∈c.objs,o.fields=fs)\/∃i∈c.ifs,i.fields=fs)->∀f∈fs,KC f.name=false:=by
  intro fs O f r;have A:Ee (c.roles.map Au.name) (NF c) fs=true:=by
   rcases O with⟨o,b,e⟩|⟨i,h,e⟩
   ·have:=y o b
    unfold Gf at this;rw[xQ]at this;rw[<-e];exact this.1
   ·rw[<-e];exact P i h
  unfold Ee at A;rw[xQ,xP]at A;have:=A.1 f r;unfold Hx at this;rw[xQ]at this;simpa using this.1
 refine⟨fun o b T n f l r=>?_,fun T n f r=>?_,fun o b d hd h=>?_⟩
 ·simp only[]at b l r
  obtain⟨fs,z,v⟩:=Option.bind_eq_some_iff.1 (show(Dx c.objs c.ifs T).bind (fun fs=>EQ fs n)=some f from r);obtain⟨B,C⟩:=Rq v;have X:=Uw G J T;have S:∀m∈c.objs,m.name=T->0<cB T (c.objs.map Aq.name):=fun m s e=>Kd (by rw[<-e];exact List.mem_map_of_mem s);rcases OU z with⟨m,s,u,p⟩|⟨R,i,h,u,p,L⟩
  ·have Y:=S m s u
   unfold AW at l;rw[Bool.or_eq_true,Bool.or_eq_true]at l;rcases l with q|q|q
   ·rw[Cy,xK]at q
    have U:o=m:=by
     obtain⟨j,H⟩:=List.mem_iff_getElem?.1 b;obtain⟨K,D⟩:=List.mem_iff_getElem?.1 s;have I:(c.objs.map Aq.name).Nodup:=by
      rw[Ra];intro a;have:=Uw G J a;omega
     have V:=Ma _ T j I (by rw[xI,H];simp[q]);have W:=Ma _ T K I (by rw[xI,D];simp[u]);have:j=K:=by omega
     subst this;rw[H]at D;exact xD D
    rw[U,p];exact⟨f,v,rfl,rfl,rfl⟩
   ·have ob:=y o b
    unfold Gf JG El at ob;simp only[xQ,xP]at ob;have t:=ob.2.1.1.2 T ((FD _ _).1 q);rw[xK]at t;have:=VK t;have Q:T∈c.ifs.map At.name:=by
     obtain⟨k,a,_,M,w,_⟩:=Cu At.name c.ifs T this;rw[<-w];exact List.mem_map_of_mem (wT M)
    have:0<cB T (c.ifs.map At.name):=Kd Q;omega
   ·have:0<cB T (c.uns.map Aw.name):=Kd (Zf q)
    omega
  ·have Z:0<cB T (c.ifs.map At.name):=Kd (by rw[<-u];exact List.mem_map_of_mem h)
   unfold AW at l;rw[Bool.or_eq_true,Bool.or_eq_true]at l;rcases l with q|q|q
   ·rw[Cy,xK]at q
    exact absurd (by rw[<-q];exact List.mem_map_of_mem b) R
   ·have ob:=y o b
    unfold Gf JG at ob;simp only[xQ,xP]at ob;have hs:=ob.2.1.2 T ((FD _ _).1 q) f (by rw[L];exact B);unfold Fr at hs;by_cases x:Af (o.fields.map Am.name) f.name<0
    ·rw[xH x]at hs;cases hs
    ·rw[xG x]at hs
     obtain⟨k,g,t,w,_,_⟩:=Cu Am.name o.fields f.name x;rw[t,xS,w]at hs;simp only[]at hs;unfold LX at hs;simp only[xQ,Cy,xK]at hs;refine⟨g,?_,(YK _ _ hs.2.2.2.2.2).symm,hs.2.2.2.1.symm,hs.2.2.1.symm⟩;unfold EQ;rw[<-C,xG x,t,xS,w]
   ·have:0<cB T (c.uns.map Aw.name):=Kd (Zf q)
    omega
 ·obtain⟨fs,z,v⟩:=Option.bind_eq_some_iff.1 (show(Dx c.objs c.ifs T).bind (fun fs=>EQ fs n)=some f from r)
  obtain⟨B,C⟩:=Rq v;rw[<-C];refine uZ (N fs ?_ f B);rcases OU z with⟨m,s,_,p⟩|⟨_,i,h,_,p,_⟩
  ·exact .inl ⟨m,s,p⟩
  ·exact .inr ⟨i,h,p⟩
 ·have ob:=y o b
  unfold Gf Ee at ob;simp only[xQ,xP]at ob;have:=ob.1.1 d hd;unfold Hx at this;simp only[xQ]at this;have:=this.2.2.2.2;unfold Fh at this;rw[xH h,xQ]at this;simpa using this.1
end
end Go.Proofs.YtogdodlibkckkaaGreatDoor
