import Derived.Test.YtogdodlibkckkaaGreatDoorZ27
namespace Go.Proofs.YtogdodlibkckkaaGreatDoor
set_option maxHeartbeats 20000000
set_option maxRecDepth 100000
open Go.RowKit Tryz
structure CG where
 objs:List Aq
 ifs:List At
 uns:List Aw
 roles:List yF
abbrev EI:=Nat->yF->List Bool->Bool×List Bool
def Gu:yF:=Az [95,95,116,121,112,101,110,97,109,101]
def Gv:yF:=Az [95,95,116,121,112,101,115]
def FZ:yF:=Az [95,95,102,105,101,108,100,115]
def QW:yF:=Az [116,121,112,101]
def JB:yF:=Az [66,111,111,108,101,97,110]
def Nf:yF:=Az [83,116,114,105,110,103]
def bQ:yF:=Az [81,117,101,114,121]
def DJ(rec:EI)(f:Am)(part:Option Nat)(seen:List Bool):Bool×List Bool:=
 if Ep (BM f.ty)=true then(part.isNone,seen)else match part with
  |none=>(false,seen)
  |some p=>rec p (BM f.ty) seen
def Jh(E:CG)(parts:List Ai)(rec:EI)(p:Nat)(typ:yF)(seen:List Bool):Bool×List Bool:=
 if IC E.objs E.uns (Ei (Ax parts p).typ typ) typ=true then rec p (Ei (Ax parts p).typ typ) seen else(false,seen)
def Rr:List Es->Bool
 |[a]=>decide (a.1=QW)&&Dy a.2 Nf true
 |_=>false
def Ix(E:CG)(rec:EI)(x:As)(typ:yF)(seen:List Bool):Bool×List Bool:=
 if x.name=Gu\/(x.name=Gv/\typ=bQ)then(x.args.isEmpty&&x.part.isNone,seen)
 else if x.name=FZ/\typ=bQ then(Rr x.args&&x.part.isNone,seen)
 else match Iy E.objs E.ifs typ x.name with
  |none=>(false,seen)
  |some f=>if DW E.roles f.hide_=true then(if Is f x.args=true then DJ rec f x.part seen else(false,seen))else(false,seen)
def Dn(E:CG)(parts:List Ai)(rec:EI)(x:As)(typ:yF)(seen:List Bool):Bool×List Bool:=
 if x.conds.all (fun c=>Dy c.2 JB true)=true then
  (if x.kind=0 then Ix E rec x typ seen else match x.part with
   |none=>(false,seen)
   |some p=>Jh E parts rec p typ seen)
 else(false,seen)
def Fs(E:CG)(parts:List Ai)(rec:EI)(typ:yF):List As->List Bool->Bool×List Bool
 |[],seen=>(true,seen)
 |x::l,seen=>if (Dn E parts rec x typ seen).1=true then Fs E parts rec typ l (Dn E parts rec x typ seen).2 else(false,(Dn E parts rec x typ seen).2)
def BW(E:CG)(parts:List Ai):Nat->EI
 |0,_,_,seen=>(true,seen)
 |f+1,i,typ,seen=>if seen.getD i false=true then(true,seen)else Fs E parts (BW E parts f) typ (Ax parts i).sels (seen.set i true)
def KH(w:World)(C Sb:Nat)(k:Value)(typ:yF)(r:Bool×List Bool):Prop:=
 Calls prog 74 #[.pointer (some ⟨C,0,none⟩),k,.string typ] w fun e w'=>e=.returned (.bool r.1)/\w'.heap[Sb]?=some (.cells (Bw r.2).toArray 4 (0,0))/\Ag Sb w w'
theorem jO(rec:EI)(f:Am)(part:Option Nat)(seen:List Bool)(a:Ep (BM f.ty)=true):DJ rec f part seen=(part.isNone,seen):=by unfold DJ;rw[xH a]
theorem jN(rec:EI)(f:Am)(seen:List Bool)(a:Ep (BM f.ty)=false):DJ rec f none seen=(false,seen):=by unfold DJ;rw[xG (by rw[a];simp)]
theorem jP(rec:EI)(f:Am)(seen:List Bool)(p:Nat)(a:Ep (BM f.ty)=false):DJ rec f (some p) seen=rec p (BM f.ty) seen:=by unfold DJ;rw[xG (by rw[a];simp)]
theorem jQ{w:World}{B C Sb g o:Nat}{f:Am}{u:Value}{part:Option Nat}{pp:List Nat}{rec:EI}{seen:List Bool}(H:Cn w g o f u)(q:Bx w B u f.ty)(hs:w.heap[Sb]?=some (.cells (Bw seen).toArray 4 (0,0)))(y:∀i,part=some i->i<pp.length)(I:∀p k,part=some p->pp[p]?=some k->KH w C Sb (.pointer (some ⟨k,0,none⟩)) (BM f.ty) (rec p (BM f.ty) seen)):
 Calls prog 210 #[.pointer (some ⟨C,0,none⟩),.pointer (some ⟨g,o,none⟩),AO pp part] w fun e w'=>e=.returned (.bool (DJ rec f part seen).1)/\w'.heap[Sb]?=some (.cells (Bw (DJ rec f part seen).2).toArray 4 (0,0))/\Ag Sb w w':=by
 have x:=Aa (Vv w B u f.ty q);have l:=Aa (fun W=>Nz (BM f.ty) W);have N:=H.c5;have S:=wW w _ N;obtain⟨K,P⟩:∃K,u=.pointer (some ⟨K,0,none⟩):=by
  cases J:f.ty with
  |one n st=>rw[J]at q;obtain⟨k,e,_⟩:=q;exact⟨k,e⟩
  |list t st=>rw[J]at q;obtain⟨k,_,e,_⟩:=q;exact⟨k,e⟩
 subst P;have M:=Aa (fun(s:Ep (BM f.ty)=true)=>jO rec f part seen s);have z:=Aa (fun(s:Ep (BM f.ty)=false) (e:part=none)=>(show DJ rec f part seen=(false,seen)from by rw[e];exact jN rec f seen s));have A:=Aa (fun(s:Ep (BM f.ty)=false) p (e:part=some p)=>(show DJ rec f part seen=rec p (BM f.ty) seen from by rw[e];exact jP rec f seen p s));generalize DJ rec f part seen=R at*;have E:=Aa hs;have D:=Aa I;clear H q hs I;generalize BM f.ty=d at*;cases es:Ep d
 ·rw[es]at l
  have z:=Aa (z.o es);have A:=Aa (A.o es);cases part with
  |none=>
   have j:=Aa (z.o rfl);show Calls _ _ #[_,_,.pointer none] _ _;go_enter func210,ntmps210;go_wp2_with fail;refine x.o.mono ?_;rintro _ w1 ⟨⟨k,st,rfl,a⟩,b⟩;have b:=b.symm;subst b;have F:w.cell? ⟨k,0,none⟩=some (.string d):=Ac a 0;have G:=Ab a;clear a;go_wp2_with fail;refine(l.o _).mono ?_;rintro _ w2 ⟨rfl,c⟩;have c:=c.symm;subst c;go_wp2;go_ret;rw[j.o];exact⟨rfl,E.o,Ag.refl _ _⟩
  |some p=>
   obtain⟨h,m⟩:∃h,pp[p]?=some h:=⟨_,wS (y p rfl)⟩;have j:=Aa (A.o p rfl);have L:=Aa (show Calls prog 74 #[.pointer (some ⟨C,0,none⟩),.pointer (some ⟨h,0,none⟩),.string d] w fun e w'=>e=.returned (.bool (rec p d seen).1)/\w'.heap[Sb]?=some (.cells (Bw (rec p d seen).2).toArray 4 (0,0))/\Ag Sb w w' from D.o p h rfl m);have v:AO pp (some p)=.pointer (some ⟨h,0,none⟩):=by simp[AO,m]
   rw[v];generalize rec p d seen=r at*;clear D v y m;go_enter func210,ntmps210;go_wp2_with fail;refine x.o.mono ?_;rintro _ w1 ⟨⟨k,st,rfl,a⟩,b⟩;have b:=b.symm;subst b;have F:w.cell? ⟨k,0,none⟩=some (.string d):=Ac a 0;have G:=Ab a;clear a;go_wp2_with fail;refine(l.o _).mono ?_;rintro _ w2 ⟨rfl,c⟩;have c:=c.symm;subst c;go_wp2_with fail;refine L.o.mono ?_;rintro _ w3 ⟨rfl,O,Q⟩;go_wp2;go_ret;rw[j.o];exact⟨Al (by simp),O,Q⟩
 ·rw[es]at l
  have j:=Aa (M.o es);cases part with
  |none=>
   show Calls _ _ #[_,_,.pointer none] _ _;go_enter func210,ntmps210;go_wp2_with fail;refine x.o.mono ?_;rintro _ w1 ⟨⟨k,st,rfl,a⟩,b⟩;have b:=b.symm;subst b;have F:w.cell? ⟨k,0,none⟩=some (.string d):=Ac a 0;have G:=Ab a;clear a;go_wp2_with fail;refine(l.o _).mono ?_;rintro _ w2 ⟨rfl,c⟩;have c:=c.symm;subst c;go_wp2;go_ret;rw[j.o];exact⟨rfl,E.o,Ag.refl _ _⟩
  |some p=>
   obtain⟨h,m⟩:∃h,pp[p]?=some h:=⟨_,wS (y p rfl)⟩;have v:AO pp (some p)=.pointer (some ⟨h,0,none⟩):=by simp[AO,m]
   rw[v];clear D v y m;go_enter func210,ntmps210;go_wp2_with fail;refine x.o.mono ?_;rintro _ w1 ⟨⟨k,st,rfl,a⟩,b⟩;have b:=b.symm;subst b;have F:w.cell? ⟨k,0,none⟩=some (.string d):=Ac a 0;have G:=Ab a;clear a;go_wp2_with fail;refine(l.o _).mono ?_;rintro _ w2 ⟨rfl,c⟩;have c:=c.symm;subst c;go_wp2;go_ret;rw[j.o];exact⟨rfl,E.o,Ag.refl _ _⟩
section
variable {w:World} {S:Nat} {vR vO vI vU vN:Value} {LR:List (Au×Value)} {LO:List AX} {LI:List (At×Value)} {LU:List (Aw×Value)} {names:List yF}
theorem qN(m:SV w S vR vO vI vU vN LR LO LI LU names){C Sb k:Nat}{v1 v2 v3 v4:Value}{a typ:yF}{r:yF->Bool×List Bool}{seen:List Bool}(d:w.heap[C]?=some (.cells #[.pointer (some ⟨S,0,none⟩),v1,v2] 189 (0,0)))(f:w.heap[k]?=some (.cells #[.string a,v3,v4] 223 (0,0)))(hs:w.heap[Sb]?=some (.cells (Bw seen).toArray 4 (0,0)))
 (p:∀W,yG w W->KH W C Sb (.pointer (some ⟨k,0,none⟩)) (Ei a typ) (r (Ei a typ))):
 Calls prog 158 #[.pointer (some ⟨C,0,none⟩),.pointer (some ⟨k,0,none⟩),.string typ] w fun e w'=>e=.returned (.bool (if IC (LO.map Prod.fst) (LU.map Prod.fst) (Ei a typ) typ=true then r (Ei a typ)else(false,seen)).1)/\w'.heap[Sb]?=some (.cells (Bw (if IC (LO.map Prod.fst) (LU.map Prod.fst) (Ei a typ) typ=true then r (Ei a typ)else(false,seen)).2).toArray 4 (0,0))/\Ag Sb w w':=by
 have B:w.cell? ⟨C,0,none⟩=some (.pointer (some ⟨S,0,none⟩)):=Ac d 0;have E:=Ab d;have D:w.cell? ⟨k,0,none⟩=some (.string a):=Ac f 0;have F:=Ab f;have A:=Ab hs;have x:=Aa hs;have u:=Aa (show Calls prog 211 #[.slice (some ⟨w.heap.size,0,none⟩) 2 2] (w.alloc (.cells #[.string a,.string typ] 9)) (fun e w'=>e=.returned (.string (Ei a typ))/\w'=w.alloc (.cells #[.string a,.string typ] 9))from pN (wX w _));have i:=Aa (show yG w (w.alloc (.cells #[.string a,.string typ] 9))from bA (wR _ _) _);have t:=Aa (nN (m.below i.o) (Ei a typ) typ);have v:=Aa p;clear m d f hs p;generalize Ei a typ=on at*;generalize IC (LO.map Prod.fst) (LU.map Prod.fst) on typ=q at*;generalize n:(if q=true then r on else(false,seen))=h;have j:=Aa n;clear n;go_enter func158,ntmps158;go_wp2_with fail;refine u.o.mono ?_;rintro _ w1 ⟨rfl,g⟩;have g:=g.symm;subst g;go_wp2_with fail;refine t.o.mono ?_;rintro _ w2 ⟨rfl,l⟩;have b:=Aa (bT i.o l);clear l;cases q
 ·have c:=Aa (show h=(false,seen)from j.o.symm)
  go_wp2;go_ret;rw[c.o];exact⟨rfl,(b.o.block _ A).trans x.o,Ag.of_below b.o⟩
 ·have s:=Aa (show Calls prog 74 #[.pointer (some ⟨C,0,none⟩),.pointer (some ⟨k,0,none⟩),.string on] w2 fun e w'=>e=.returned (.bool (r on).1)/\w'.heap[Sb]?=some (.cells (Bw (r on).2).toArray 4 (0,0))/\Ag Sb w2 w' from v.o w2 b.o)
  have c:=Aa (show h=r on from j.o.symm);generalize r on=G at*;go_wp2_with fail;refine s.o.mono ?_;rintro _ w3 ⟨rfl,y,z⟩;go_wp2;go_ret;rw[c.o];exact⟨Al (by simp),y,(Ag.of_below b.o).trans z⟩
end
def uns(s:List Bool):Nat:=s.countP (fun b=>!b)
theorem vH(s:List Bool)(i:Nat):uns (s.set i true)<=uns s:=by
 unfold uns
 induction s generalizing i with
 |nil=>simp
 |cons a l b=>
  cases i with
  |zero=>simp[List.countP_cons]
  |succ i=>simp only[List.set_cons_succ,List.countP_cons];have:=b i;omega
theorem KD(s:List Bool)(i:Nat)(h:s[i]?=some false):uns (s.set i true)+1=uns s:=by
 unfold uns
 induction s generalizing i with
 |nil=>simp at h
 |cons a l b=>
  cases i with
  |zero=>simp at h;subst h;simp
  |succ i=>simp only[List.set_cons_succ,List.countP_cons];have:=b i (by simpa using h);omega
theorem OF(s:List Bool)(i:Nat)(b:Bool):(Bw s).toArray.setIfInBounds i (.bool b)=(Bw (s.set i b)).toArray:=by
 apply Array.ext';simp[Bw,List.map_set]
theorem Nj(s:List Bool)(i:Nat)(b:Bool)(h:s[i]?=some b):(Bw s).toArray[i]?=some (.bool b):=by simp[Bw,h]
def Tw(rec:EI):Prop:=∀i typ s,(rec i typ s).2.length=s.length/\uns (rec i typ s).2<=uns s
section
variable {rec:EI} (h:Tw rec) (E:CG) (parts:List Ai)
include h
theorem jM(f:Am)(part:Option Nat)(s:List Bool):(DJ rec f part s).2.length=s.length/\uns (DJ rec f part s).2<=uns s:=by
 unfold DJ;split
 ·exact⟨rfl,wQ _⟩
 ·cases part with
  |none=>exact⟨rfl,wQ _⟩
  |some p=>exact h _ _ _
theorem qM(p:Nat)(typ:yF)(s:List Bool):(Jh E parts rec p typ s).2.length=s.length/\uns (Jh E parts rec p typ s).2<=uns s:=by
 unfold Jh;split
 ·exact h _ _ _
 ·exact⟨rfl,wQ _⟩
theorem fQ(x:As)(typ:yF)(s:List Bool):(Ix E rec x typ s).2.length=s.length/\uns (Ix E rec x typ s).2<=uns s:=by
 unfold Ix;split
 ·exact⟨rfl,wQ _⟩
 split
 ·exact⟨rfl,wQ _⟩
 split
 ·exact⟨rfl,wQ _⟩
 split
 ·split
  ·exact jM h _ _ _
  ·exact⟨rfl,wQ _⟩
 ·exact⟨rfl,wQ _⟩
theorem Rz(x:As)(typ:yF)(s:List Bool):(Dn E parts rec x typ s).2.length=s.length/\uns (Dn E parts rec x typ s).2<=uns s:=by
 unfold Dn;split
 ·split
  ·exact fQ h E x typ s
  ·split
   ·exact⟨rfl,wQ _⟩
   ·exact qM h E parts _ _ _
 ·exact⟨rfl,wQ _⟩
theorem YN(typ:yF):∀(l:List As) (s:List Bool),(Fs E parts rec typ l s).2.length=s.length/\uns (Fs E parts rec typ l s).2<=uns s
 |[],s=>⟨rfl,wQ _⟩
 |x::l,s=>by
  rw[Fs];have a:=Rz h E parts x typ s;split
  ·have b:=YN typ l (Dn E parts rec x typ s).2
   exact⟨b.1.trans a.1,wV b.2 a.2⟩
  ·exact a
end
theorem QP(E:CG)(parts:List Ai):∀f,Tw (BW E parts f)
 |0,i,typ,s=>⟨rfl,wQ _⟩
 |f+1,i,typ,s=>by
  rw[BW];split
  ·exact⟨rfl,wQ _⟩
  ·have a:=YN (QP E parts f) E parts typ (Ax parts i).sels (s.set i true)
   have b:=vH s i;exact⟨a.1.trans (by simp),wV a.2 b⟩
abbrev Om:=Nat->List Nat->List Bool->List Nat×List Bool
def CV(rec:Om):List As->List Nat->List Bool->List Nat×List Bool
 |[],l,s=>(l,s)
 |x::r,l,s=>match (if x.kind=0 then none else x.part)with
  |none=>CV rec r l s
  |some i=>CV rec r (rec i l s).1 (rec i l s).2
def BN(parts:List Ai):Nat->Om
 |0,_,l,s=>(l,s)
 |f+1,i,l,s=>if s.getD i false=true then(l,s)else CV (BN parts f) (Ax parts i).sels (l++[i]) (s.set i true)
def Bi(parts:List Ai)(i:Nat):List Nat:=(BN parts (parts.length+1) i [] (List.replicate parts.length false)).1
def Ty(n:Nat)(rec:Om):Prop:=∀i l s,i<n->s.length=n->(rec i l s).2.length=n/\uns (rec i l s).2<=uns s/\(rec i l s).1.length+uns (rec i l s).2<=l.length+uns s/\((∀j∈l,j<n)->∀j∈(rec i l s).1,j<n)
theorem RQ{n:Nat}{rec:Om}(a:Ty n rec):∀(r:List As) (l:List Nat) (s:List Bool),(∀x∈r,∀i,x.part=some i->i<n)->s.length=n->(CV rec r l s).2.length=n/\uns (CV rec r l s).2<=uns s/\(CV rec r l s).1.length+uns (CV rec r l s).2<=l.length+uns s/\((∀j∈l,j<n)->∀j∈(CV rec r l s).1,j<n)
 |[],l,s,_,hs=>⟨hs,wQ _,wQ _,fun a=>a⟩
 |x::r,l,s,c,hs=>by
  rw[CV];split
  ·exact RQ a r l s (fun y d=>c y (yA _ d)) hs
  ·rename_i i b
   have m:x.part=some i:=by
    by_cases e:x.kind=0
    ·rw[xH e]at b;cases b
    ·rw[xG e]at b;exact b
   obtain⟨f,g,h,k⟩:=a i l s (c x yB i m) hs;obtain⟨p,k2,t,u⟩:=RQ a r (rec i l s).1 (rec i l s).2 (fun y d=>c y (yA _ d)) f;exact⟨p,wV k2 g,wV t h,fun q=>u (k q)⟩
def BP(parts:List Ai):Prop:=∀P∈parts,∀x∈P.sels,∀i,x.part=some i->i<parts.length
theorem BP.d{parts:List Ai}(b:BP parts)(i:Nat):∀x∈(Ax parts i).sels,∀j,x.part=some j->j<parts.length:=by
 unfold Ax;rw[List.getD_eq_getElem?_getD];rcases Nat.lt_or_ge i parts.length with a|a
 ·rw[wS a];exact b _ (List.getElem_mem a)
 ·rw[List.getElem?_eq_none a];intro x c;cases c
theorem NG{parts:List Ai}(e:BP parts):∀f,Ty parts.length (BN parts f)
 |0,i,l,s,_,hs=>⟨hs,wQ _,wQ _,fun b=>b⟩
 |f+1,i,l,s,t,hs=>by
  rw[BN];split
  ·exact⟨hs,wQ _,wQ _,fun b=>b⟩
  ·rename_i c
   have n:s[i]?=some false:=by
    have:i<s.length:=by omega
    rw[wS this];rw[List.getD_eq_getElem?_getD,wS this]at c;simpa using c
   obtain⟨g,p,h,k⟩:=RQ (NG e f) (Ax parts i).sels (l++[i]) (s.set i true) (e.d i) (by simpa using hs);have r:=KD s i n;refine⟨g,by omega,by simp only[xJ,List.length_singleton]at h;omega,fun q=>k (fun j m=>?_)⟩;rcases yD.1 m with a|a
   ·exact q j a
   ·rw[List.mem_singleton]at a;omega
theorem Jl(n:Nat):uns (List.replicate n false)=n:=by
 unfold uns
 induction n with
 |zero=>rfl
 |succ n a=>rw[List.replicate_succ,List.countP_cons,a];simp
theorem Mi{parts:List Ai}(e:BP parts){i:Nat}(c:i<parts.length):(Bi parts i).length<=parts.length/\∀j∈Bi parts i,j<parts.length:=by
 obtain⟨_,_,a,b⟩:=NG e (parts.length+1) i [] (List.replicate parts.length false) c (by simp);rw[Jl]at a;exact⟨by unfold Bi;simp at a;omega,b (fun j d=>by cases d)⟩
abbrev Bc:=List Bool×List (Nat×Nat)
def Cq(a b:Nat):Nat×Nat:=if b<a then(b,a)else(a,b)
def If(n a b:Nat)(g:Bc):Bc:=if g.1.getD ((Cq a b).1*n+(Cq a b).2) false=true then g else(g.1.set ((Cq a b).1*n+(Cq a b).2) true,g.2++[Cq a b])
def Jc(n a:Nat):List Nat->Bc->Bc
 |[],g=>g
 |b::l,g=>Jc n a l (If n a b g)
def JH(n:Nat)(m:List Nat):List Nat->Bc->Bc
 |[],g=>g
 |a::l,g=>JH n m l (Jc n a m g)
def GT(parts:List Ai)(a b:Nat)(g:Bc):Bc:=JH parts.length (Bi parts b) (Bi parts a) g
def FY(x y:As):Bool:=decide (x.name=y.name)&&decide (x.args=y.args)
def DM(parts:List Ai)(x:As):List As->Bc->Bool×Bc
 |[],g=>(true,g)
 |y::l,g=>
  if x.kind=0/\y.kind=0/\x.key=y.key then
   (if FY x y=true then
    (match x.part,y.part with
     |some a,some b=>DM parts x l (GT parts a b g)
     |_,_=>DM parts x l g)
   else(false,g))
  else DM parts x l g
def GU(parts:List Ai)(ys:List As):List As->Bc->Bool×Bc
 |[],g=>(true,g)
 |x::l,g=>if (DM parts x ys g).1=true then GU parts ys l (DM parts x ys g).2 else(false,(DM parts x ys g).2)
def GV(parts:List Ai)(p:Nat×Nat)(g:Bc):Bool×Bc:=GU parts (Ax parts p.2).sels (Ax parts p.1).sels g
def IW(parts:List Ai):Nat->Bc->Bool
 |0,_=>true
 |f+1,g=>match g.2.getLast? with
  |none=>true
  |some p=>if (GV parts p (g.1,g.2.dropLast)).1=true then IW parts f (GV parts p (g.1,g.2.dropLast)).2 else false
def KP(parts:List Ai)(whole:Nat):Bool:=IW parts (parts.length*parts.length+1) (GT parts whole whole (List.replicate (parts.length*parts.length) false,[]))
structure BF(n:Nat)(c:Nat)(g:Bc):Prop where
 l:g.1.length=n*n
 o:∀p∈g.2,p.1<n/\p.2<n
 c:uns g.1+g.2.length<=c
theorem PY{n a b:Nat}(c:a<n)(hb:b<n):a*n+b<n*n:=by
 have:(a+1)*n<=n*n:=Nat.mul_le_mul_right n c;rw[Nat.succ_mul]at this;omega
theorem Sn{n a b:Nat}(c:a<n)(hb:b<n):(Cq a b).1<n/\(Cq a b).2<n:=by
 unfold Cq;split<;>simp<;>omega
theorem Se{n c a b:Nat}{g:Bc}(d:BF n c g)(i:a<n)(hb:b<n):BF n c (If n a b g):=by
 have e:=Sn i hb;have j:=PY e.1 e.2;unfold If;split
 ·exact d
 ·rename_i f
  have m:g.1[(Cq a b).1*n+(Cq a b).2]?=some false:=by
   have h:(Cq a b).1*n+(Cq a b).2<g.1.length:=by rw[d.l];exact j
   rw[wS h];rw[List.getD_eq_getElem?_getD,wS h]at f;simpa using f
  have r:=KD _ _ m;have s:=d.c;refine⟨by simp[d.l],fun p k=>?_,by simp only[xJ,List.length_singleton];omega⟩;rcases yD.1 k with q|q
  ·exact d.o p q
  ·rw[List.mem_singleton]at q;rw[q];exact e
theorem RM{n c a:Nat}(e:a<n):∀(l:List Nat) {g:Bc},(∀j∈l,j<n)->BF n c g->BF n c (Jc n a l g)
 |[],_,_,d=>d
 |b::l,_,f,d=>RM e l (fun j h=>f j (yA _ h)) (Se d e (f b yB))
theorem VE{n c:Nat}{m:List Nat}(e:∀j∈m,j<n):∀(l:List Nat) {g:Bc},(∀j∈l,j<n)->BF n c g->BF n c (JH n m l g)
 |[],_,_,b=>b
 |a::l,_,d,b=>VE e l (fun j f=>d j (yA _ f)) (RM (d a yB) m e b)
theorem NA{parts:List Ai}(d:BP parts){a b c:Nat}(f:a<parts.length)(hb:b<parts.length){g:Bc}(e:BF parts.length c g):BF parts.length c (GT parts a b g):=VE (Mi d hb).2 _ (Mi d f).2 e
theorem Sc{parts:List Ai}(h:BP parts){c:Nat}{x:As}(j:∀i,x.part=some i->i<parts.length):∀(l:List As) {g:Bc},(∀y∈l,∀i,y.part=some i->i<parts.length)->BF parts.length c g->BF parts.length c (DM parts x l g).2
 |[],_,_,d=>d
 |y::l,g,f,d=>by
  have e:=fun{n:Bc} (p:BF parts.length c n)=>Sc h j l (fun z q=>f z (yA _ q)) p;rw[DM];split
  ·split
   ·split
    ·rename_i a b k m
     exact e (NA h (j a k) (f y yB b m) d)
    ·exact e d
   ·exact d
  ·exact e d
theorem WD{parts:List Ai}(e:BP parts){c:Nat}{ys:List As}(f:∀y∈ys,∀i,y.part=some i->i<parts.length):∀(l:List As) {g:Bc},(∀y∈l,∀i,y.part=some i->i<parts.length)->BF parts.length c g->BF parts.length c (GU parts ys l g).2
 |[],_,_,a=>a
 |x::l,g,d,a=>by
  rw[GU];have b:=Sc e (d x yB) ys f a;split
  ·exact WD e f l (fun z h=>d z (yA _ h)) b
  ·exact b
theorem WF{parts:List Ai}(a:BP parts){c:Nat}{p:Nat×Nat}{g:Bc}(b:BF parts.length c g):BF parts.length c (GV parts p g).2:=WD a (a.d _) _ (a.d _) b
end Go.Proofs.YtogdodlibkckkaaGreatDoor
