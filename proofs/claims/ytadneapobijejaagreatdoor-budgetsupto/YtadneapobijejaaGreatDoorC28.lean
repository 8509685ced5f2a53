import Derived.Test.YtadneapobijejaaGreatDoorC27
namespace Go.Proofs.YtadneapobijejaaGreatDoor
set_option maxHeartbeats 20000000
set_option maxRecDepth 100000
open Go.RowKit Tryz
structure CB where
 objs:List Ap
 ifs:List As
 uns:List Au
 roles:List vD
abbrev Ey:=Nat->vD->List Bool->Bool×List Bool
def FH:vD:=Az [95,95,116,121,112,101,110,97,109,101]
def FI:vD:=Az [95,95,116,121,112,101,115]
def Fk:vD:=Az [95,95,102,105,101,108,100,115]
def Qg:vD:=Az [116,121,112,101]
def Jr:vD:=Az [66,111,111,108,101,97,110]
def MG:vD:=Az [83,116,114,105,110,103]
def bQ:vD:=Az [81,117,101,114,121]
def Du(rec:Ey)(f:Al)(part:Option Nat)(seen:List Bool):Bool×List Bool:=
 if Ef (BI f.ty)=true then(part.isNone,seen)else match part with
  |none=>(false,seen)
  |some p=>rec p (BI f.ty) seen
def IT(E:CB)(parts:List Ai)(rec:Ey)(p:Nat)(typ:vD)(seen:List Bool):Bool×List Bool:=
 if Iq E.objs E.uns (DY (Ax parts p).typ typ) typ=true then rec p (DY (Ax parts p).typ typ) seen else(false,seen)
def Qz:List Eh->Bool
 |[a]=>decide (a.1=Qg)&&Dm a.2 MG true
 |_=>false
def Ik(E:CB)(rec:Ey)(x:Aq)(typ:vD)(seen:List Bool):Bool×List Bool:=
 if x.name=FH\/(x.name=FI/\typ=bQ)then(x.args.isEmpty&&x.part.isNone,seen)
 else if x.name=Fk/\typ=bQ then(Qz x.args&&x.part.isNone,seen)
 else match Il E.objs E.ifs typ x.name with
  |none=>(false,seen)
  |some f=>if Dy E.roles f.hide_=true then(if Id f x.args=true then Du rec f x.part seen else(false,seen))else(false,seen)
def De(E:CB)(parts:List Ai)(rec:Ey)(x:Aq)(typ:vD)(seen:List Bool):Bool×List Bool:=
 if x.conds.all (fun c=>Dm c.2 Jr true)=true then
  (if x.kind=0 then Ik E rec x typ seen else match x.part with
   |none=>(false,seen)
   |some p=>IT E parts rec p typ seen)
 else(false,seen)
def Fd(E:CB)(parts:List Ai)(rec:Ey)(typ:vD):List Aq->List Bool->Bool×List Bool
 |[],seen=>(true,seen)
 |x::l,seen=>if (De E parts rec x typ seen).1=true then Fd E parts rec typ l (De E parts rec x typ seen).2 else(false,(De E parts rec x typ seen).2)
def BT(E:CB)(parts:List Ai):Nat->Ey
 |0,_,_,seen=>(true,seen)
 |f+1,i,typ,seen=>if seen.getD i false=true then(true,seen)else Fd E parts (BT E parts f) typ (Ax parts i).sels (seen.set i true)
def Kn(w:World)(C Sb:Nat)(k:Value)(typ:vD)(r:Bool×List Bool):Prop:=
 Calls prog 46 #[.pointer (some ⟨C,0,none⟩),k,.string typ] w fun e w'=>e=.returned (.bool r.1)/\w'.heap[Sb]?=some (.cells (Bp r.2).toArray 4 (0,0))/\Ag Sb w w'
theorem fI(rec:Ey)(f:Al)(part:Option Nat)(seen:List Bool)(h:Ef (BI f.ty)=true):Du rec f part seen=(part.isNone,seen):=by unfold Du;rw[uC h]
theorem fH(rec:Ey)(f:Al)(seen:List Bool)(h:Ef (BI f.ty)=false):Du rec f none seen=(false,seen):=by unfold Du;rw[uB (by rw[h];simp)]
theorem fJ(rec:Ey)(f:Al)(seen:List Bool)(p:Nat)(h:Ef (BI f.ty)=false):Du rec f (some p) seen=rec p (BI f.ty) seen:=by unfold Du;rw[uB (by rw[h];simp)]
theorem fO{w:World}{B C Sb g o:Nat}{f:Al}{u:Value}{part:Option Nat}{pp:List Nat}{rec:Ey}{seen:List Bool}(hf:Ce w g o f u)(hu:Bu w B u f.ty)(hs:w.heap[Sb]?=some (.cells (Bp seen).toArray 4 (0,0)))(hp:∀i,part=some i->i<pp.length)(hrec:∀p k,part=some p->pp[p]?=some k->Kn w C Sb (.pointer (some ⟨k,0,none⟩)) (BI f.ty) (rec p (BI f.ty) seen)):
 Calls prog 174 #[.pointer (some ⟨C,0,none⟩),.pointer (some ⟨g,o,none⟩),AM pp part] w fun e w'=>e=.returned (.bool (Du rec f part seen).1)/\w'.heap[Sb]?=some (.cells (Bp (Du rec f part seen).2).toArray 4 (0,0))/\Ag Sb w w':=by
 have HIN:=Aa (Ux w B u f.ty hu);have HSC:=Aa (fun W=>Nb (BI f.ty) W);have d5:=hf.c5;have lg:=tR w _ d5;obtain⟨ku,hku⟩:∃ku,u=.pointer (some ⟨ku,0,none⟩):=by
  cases hty:f.ty with
  |one n st=>rw[hty]at hu;obtain⟨k,e,_⟩:=hu;exact⟨k,e⟩
  |list t st=>rw[hty]at hu;obtain⟨k,_,e,_⟩:=hu;exact⟨k,e⟩
 subst hku;have HQ0:=Aa (fun(h:Ef (BI f.ty)=true)=>fI rec f part seen h);have HQ1:=Aa (fun(h:Ef (BI f.ty)=false) (e:part=none)=>(show Du rec f part seen=(false,seen)from by rw[e];exact fH rec f seen h));have HQ3:=Aa (fun(h:Ef (BI f.ty)=false) p (e:part=some p)=>(show Du rec f part seen=rec p (BI f.ty) seen from by rw[e];exact fJ rec f seen p h));generalize Du rec f part seen=FF at*;have HS:=Aa hs;have HR:=Aa hrec;clear hf hu hs hrec;generalize BI f.ty=ct at*;cases es:Ef ct
 ·rw[es]at HSC
  have HQ1:=Aa (HQ1.o es);have HQ3:=Aa (HQ3.o es);cases part with
  |none=>
   have HQ2:=Aa (HQ1.o rfl);show Calls _ _ #[_,_,.pointer none] _ _;go_enter func174,ntmps174;go_wp2_with fail;refine HIN.o.mono ?_;rintro _ w1 ⟨⟨k,st,rfl,hk⟩,hw1⟩;have hw1:=hw1.symm;subst hw1;have ck:w.cell? ⟨k,0,none⟩=some (.string ct):=Ac hk 0;have lk:=Ab hk;clear hk;go_wp2_with fail;refine(HSC.o _).mono ?_;rintro _ w2 ⟨rfl,hw2⟩;have hw2:=hw2.symm;subst hw2;go_wp2_with fail;go_ret;rw[HQ2.o];exact⟨rfl,HS.o,Ag.refl _ _⟩
  |some p=>
   obtain⟨kp,hkp⟩:∃kp,pp[p]?=some kp:=⟨_,tN (hp p rfl)⟩;have HQ2:=Aa (HQ3.o p rfl);have HA:=Aa (show Calls prog 46 #[.pointer (some ⟨C,0,none⟩),.pointer (some ⟨kp,0,none⟩),.string ct] w fun e w'=>e=.returned (.bool (rec p ct seen).1)/\w'.heap[Sb]?=some (.cells (Bp (rec p ct seen).2).toArray 4 (0,0))/\Ag Sb w w' from HR.o p kp rfl hkp);have hpt:AM pp (some p)=.pointer (some ⟨kp,0,none⟩):=by simp[AM,hkp]
   rw[hpt];generalize rec p ct seen=r at*;clear HR hpt hp hkp;go_enter func174,ntmps174;go_wp2_with fail;refine HIN.o.mono ?_;rintro _ w1 ⟨⟨k,st,rfl,hk⟩,hw1⟩;have hw1:=hw1.symm;subst hw1;have ck:w.cell? ⟨k,0,none⟩=some (.string ct):=Ac hk 0;have lk:=Ab hk;clear hk;go_wp2_with fail;refine(HSC.o _).mono ?_;rintro _ w2 ⟨rfl,hw2⟩;have hw2:=hw2.symm;subst hw2;go_wp2_with fail;refine HA.o.mono ?_;rintro _ w3 ⟨rfl,h3,k3⟩;go_wp2_with fail;go_ret;rw[HQ2.o];exact⟨Ak (by simp),h3,k3⟩
 ·rw[es]at HSC
  have HQ2:=Aa (HQ0.o es);cases part with
  |none=>
   show Calls _ _ #[_,_,.pointer none] _ _;go_enter func174,ntmps174;go_wp2_with fail;refine HIN.o.mono ?_;rintro _ w1 ⟨⟨k,st,rfl,hk⟩,hw1⟩;have hw1:=hw1.symm;subst hw1;have ck:w.cell? ⟨k,0,none⟩=some (.string ct):=Ac hk 0;have lk:=Ab hk;clear hk;go_wp2_with fail;refine(HSC.o _).mono ?_;rintro _ w2 ⟨rfl,hw2⟩;have hw2:=hw2.symm;subst hw2;go_wp2_with fail;go_ret;rw[HQ2.o];exact⟨rfl,HS.o,Ag.refl _ _⟩
  |some p=>
   obtain⟨kp,hkp⟩:∃kp,pp[p]?=some kp:=⟨_,tN (hp p rfl)⟩;have hpt:AM pp (some p)=.pointer (some ⟨kp,0,none⟩):=by simp[AM,hkp]
   rw[hpt];clear HR hpt hp hkp;go_enter func174,ntmps174;go_wp2_with fail;refine HIN.o.mono ?_;rintro _ w1 ⟨⟨k,st,rfl,hk⟩,hw1⟩;have hw1:=hw1.symm;subst hw1;have ck:w.cell? ⟨k,0,none⟩=some (.string ct):=Ac hk 0;have lk:=Ab hk;clear hk;go_wp2_with fail;refine(HSC.o _).mono ?_;rintro _ w2 ⟨rfl,hw2⟩;have hw2:=hw2.symm;subst hw2;go_wp2_with fail;go_ret;rw[HQ2.o];exact⟨rfl,HS.o,Ag.refl _ _⟩
section
variable {w:World} {S:Nat} {vR vO vI vU vN:Value} {LR:List (At×Value)} {LO:List AV} {LI:List (As×Value)} {LU:List (Au×Value)} {names:List vD}
theorem nP(h:SV w S vR vO vI vU vN LR LO LI LU names){C Sb k:Nat}{v1 v2 v3 v4:Value}{pt typ:vD}{r:vD->Bool×List Bool}{seen:List Bool}(hC:w.heap[C]?=some (.cells #[.pointer (some ⟨S,0,none⟩),v1,v2] 126 (0,0)))(hk:w.heap[k]?=some (.cells #[.string pt,v3,v4] 171 (0,0)))(hs:w.heap[Sb]?=some (.cells (Bp seen).toArray 4 (0,0)))
 (hrec:∀W,vE w W->Kn W C Sb (.pointer (some ⟨k,0,none⟩)) (DY pt typ) (r (DY pt typ))):
 Calls prog 122 #[.pointer (some ⟨C,0,none⟩),.pointer (some ⟨k,0,none⟩),.string typ] w fun e w'=>e=.returned (.bool (if Iq (LO.map Prod.fst) (LU.map Prod.fst) (DY pt typ) typ=true then r (DY pt typ)else(false,seen)).1)/\w'.heap[Sb]?=some (.cells (Bp (if Iq (LO.map Prod.fst) (LU.map Prod.fst) (DY pt typ) typ=true then r (DY pt typ)else(false,seen)).2).toArray 4 (0,0))/\Ag Sb w w':=by
 have cC:w.cell? ⟨C,0,none⟩=some (.pointer (some ⟨S,0,none⟩)):=Ac hC 0;have lC:=Ab hC;have ck:w.cell? ⟨k,0,none⟩=some (.string pt):=Ac hk 0;have lk:=Ab hk;have lS:=Ab hs;have HS:=Aa hs;have HOR:=Aa (show Calls prog 175 #[.slice (some ⟨w.heap.size,0,none⟩) 2 2] (w.alloc (.cells #[.string pt,.string typ] 9)) (fun e w'=>e=.returned (.string (DY pt typ))/\w'=w.alloc (.cells #[.string pt,.string typ] 9))from mK (tS w _));have HB1:=Aa (show vE w (w.alloc (.cells #[.string pt,.string typ] 9))from bA (tM _ _) _);have HM:=Aa (kC (h.below HB1.o) (DY pt typ) typ);have HR:=Aa hrec;clear h hC hk hs hrec;generalize DY pt typ=on at*;generalize Iq (LO.map Prod.fst) (LU.map Prod.fst) on typ=mb at*;generalize hFF:(if mb=true then r on else(false,seen))=FF;have HFF:=Aa hFF;clear hFF;go_enter func122,ntmps122;go_wp2_with fail;refine HOR.o.mono ?_;rintro _ w1 ⟨rfl,hw1⟩;have hw1:=hw1.symm;subst hw1;go_wp2_with fail;refine HM.o.mono ?_;rintro _ w2 ⟨rfl,b2⟩;have HB2:=Aa (bT HB1.o b2);clear b2;cases mb
 ·have HF2:=Aa (show FF=(false,seen)from HFF.o.symm)
  go_wp2_with fail;go_ret;rw[HF2.o];exact⟨rfl,(HB2.o.block _ lS).trans HS.o,Ag.of_below HB2.o⟩
 ·have HA:=Aa (show Calls prog 46 #[.pointer (some ⟨C,0,none⟩),.pointer (some ⟨k,0,none⟩),.string on] w2 fun e w'=>e=.returned (.bool (r on).1)/\w'.heap[Sb]?=some (.cells (Bp (r on).2).toArray 4 (0,0))/\Ag Sb w2 w' from HR.o w2 HB2.o)
  have HF2:=Aa (show FF=r on from HFF.o.symm);generalize r on=rr at*;go_wp2_with fail;refine HA.o.mono ?_;rintro _ w3 ⟨rfl,h3,k3⟩;go_wp2_with fail;go_ret;rw[HF2.o];exact⟨Ak (by simp),h3,(Ag.of_below HB2.o).trans k3⟩
end
def uns(s:List Bool):Nat:=s.countP (fun b=>!b)
theorem sN(s:List Bool)(i:Nat):uns (s.set i true)<=uns s:=by
 unfold uns
 induction s generalizing i with
 |nil=>simp
 |cons a l ih=>
  cases i with
  |zero=>simp[List.countP_cons]
  |succ i=>simp only[List.set_cons_succ,List.countP_cons];have:=ih i;omega
theorem Kj(s:List Bool)(i:Nat)(h:s[i]?=some false):uns (s.set i true)+1=uns s:=by
 unfold uns
 induction s generalizing i with
 |nil=>simp at h
 |cons a l ih=>
  cases i with
  |zero=>simp at h;subst h;simp
  |succ i=>simp only[List.set_cons_succ,List.countP_cons];have:=ih i (by simpa using h);omega
theorem NY(s:List Bool)(i:Nat)(b:Bool):(Bp s).toArray.setIfInBounds i (.bool b)=(Bp (s.set i b)).toArray:=by
 apply Array.ext';simp[Bp,List.map_set]
theorem ML(s:List Bool)(i:Nat)(b:Bool)(h:s[i]?=some b):(Bp s).toArray[i]?=some (.bool b):=by simp[Bp,h]
def SG(rec:Ey):Prop:=∀i typ s,(rec i typ s).2.length=s.length/\uns (rec i typ s).2<=uns s
section
variable {rec:Ey} (h:SG rec) (E:CB) (parts:List Ai)
include h
theorem fE(f:Al)(part:Option Nat)(s:List Bool):(Du rec f part s).2.length=s.length/\uns (Du rec f part s).2<=uns s:=by
 unfold Du;split
 ·exact⟨rfl,tL _⟩
 ·cases part with
  |none=>exact⟨rfl,tL _⟩
  |some p=>exact h _ _ _
theorem nO(p:Nat)(typ:vD)(s:List Bool):(IT E parts rec p typ s).2.length=s.length/\uns (IT E parts rec p typ s).2<=uns s:=by
 unfold IT;split
 ·exact h _ _ _
 ·exact⟨rfl,tL _⟩
theorem cJ(x:Aq)(typ:vD)(s:List Bool):(Ik E rec x typ s).2.length=s.length/\uns (Ik E rec x typ s).2<=uns s:=by
 unfold Ik;split
 ·exact⟨rfl,tL _⟩
 split
 ·exact⟨rfl,tL _⟩
 split
 ·exact⟨rfl,tL _⟩
 split
 ·split
  ·exact fE h _ _ _
  ·exact⟨rfl,tL _⟩
 ·exact⟨rfl,tL _⟩
theorem QL(x:Aq)(typ:vD)(s:List Bool):(De E parts rec x typ s).2.length=s.length/\uns (De E parts rec x typ s).2<=uns s:=by
 unfold De;split
 ·split
  ·exact cJ h E x typ s
  ·split
   ·exact⟨rfl,tL _⟩
   ·exact nO h E parts _ _ _
 ·exact⟨rfl,tL _⟩
theorem XG(typ:vD):∀(l:List Aq) (s:List Bool),(Fd E parts rec typ l s).2.length=s.length/\uns (Fd E parts rec typ l s).2<=uns s
 |[],s=>⟨rfl,tL _⟩
 |x::l,s=>by
  rw[Fd];have h1:=QL h E parts x typ s;split
  ·have h2:=XG typ l (De E parts rec x typ s).2
   exact⟨h2.1.trans h1.1,tQ h2.2 h1.2⟩
  ·exact h1
end
theorem Qd(E:CB)(parts:List Ai):∀f,SG (BT E parts f)
 |0,i,typ,s=>⟨rfl,tL _⟩
 |f+1,i,typ,s=>by
  rw[BT];split
  ·exact⟨rfl,tL _⟩
  ·have h1:=XG (Qd E parts f) E parts typ (Ax parts i).sels (s.set i true)
   have h2:=sN s i;exact⟨h1.1.trans (by simp),tQ h1.2 h2⟩
abbrev NL:=Nat->List Nat->List Bool->List Nat×List Bool
def CN(rec:NL):List Aq->List Nat->List Bool->List Nat×List Bool
 |[],l,s=>(l,s)
 |x::r,l,s=>match (if x.kind=0 then none else x.part)with
  |none=>CN rec r l s
  |some i=>CN rec r (rec i l s).1 (rec i l s).2
def BJ(parts:List Ai):Nat->NL
 |0,_,l,s=>(l,s)
 |f+1,i,l,s=>if s.getD i false=true then(l,s)else CN (BJ parts f) (Ax parts i).sels (l++[i]) (s.set i true)
def Bf(parts:List Ai)(i:Nat):List Nat:=(BJ parts (parts.length+1) i [] (List.replicate parts.length false)).1
def SI(n:Nat)(rec:NL):Prop:=∀i l s,i<n->s.length=n->(rec i l s).2.length=n/\uns (rec i l s).2<=uns s/\(rec i l s).1.length+uns (rec i l s).2<=l.length+uns s/\((∀j∈l,j<n)->∀j∈(rec i l s).1,j<n)
theorem Rd{n:Nat}{rec:NL}(h:SI n rec):∀(r:List Aq) (l:List Nat) (s:List Bool),(∀x∈r,∀i,x.part=some i->i<n)->s.length=n->(CN rec r l s).2.length=n/\uns (CN rec r l s).2<=uns s/\(CN rec r l s).1.length+uns (CN rec r l s).2<=l.length+uns s/\((∀j∈l,j<n)->∀j∈(CN rec r l s).1,j<n)
 |[],l,s,_,hs=>⟨hs,tL _,tL _,fun h=>h⟩
 |x::r,l,s,hx,hs=>by
  rw[CN];split
  ·exact Rd h r l s (fun y hy=>hx y (uW _ hy)) hs
  ·rename_i i hi
   have hp:x.part=some i:=by
    by_cases hk:x.kind=0
    ·rw[uC hk]at hi;cases hi
    ·rw[uB hk]at hi;exact hi
   obtain⟨h1,h2,h3,h4⟩:=h i l s (hx x uX i hp) hs;obtain⟨k1,k2,k3,k4⟩:=Rd h r (rec i l s).1 (rec i l s).2 (fun y hy=>hx y (uW _ hy)) h1;exact⟨k1,tQ k2 h2,tQ k3 h3,fun q=>k4 (h4 q)⟩
def BM(parts:List Ai):Prop:=∀P∈parts,∀x∈P.sels,∀i,x.part=some i->i<parts.length
theorem BM.d{parts:List Ai}(h:BM parts)(i:Nat):∀x∈(Ax parts i).sels,∀j,x.part=some j->j<parts.length:=by
 unfold Ax;rw[List.getD_eq_getElem?_getD];rcases Nat.lt_or_ge i parts.length with a|a
 ·rw[tN a];exact h _ (List.getElem_mem a)
 ·rw[List.getElem?_eq_none a];intro x hx;cases hx
theorem Ng{parts:List Ai}(hp:BM parts):∀f,SI parts.length (BJ parts f)
 |0,i,l,s,_,hs=>⟨hs,tL _,tL _,fun h=>h⟩
 |f+1,i,l,s,hi,hs=>by
  rw[BJ];split
  ·exact⟨hs,tL _,tL _,fun h=>h⟩
  ·rename_i hf
   have hsi:s[i]?=some false:=by
    have:i<s.length:=by omega
    rw[tN this];rw[List.getD_eq_getElem?_getD,tN this]at hf;simpa using hf
   obtain⟨h1,h2,h3,h4⟩:=Rd (Ng hp f) (Ax parts i).sels (l++[i]) (s.set i true) (hp.d i) (by simpa using hs);have h5:=Kj s i hsi;refine⟨h1,by omega,by simp only[uE,List.length_singleton]at h3;omega,fun q=>h4 (fun j hj=>?_)⟩;rcases uZ.1 hj with a|a
   ·exact q j a
   ·rw[List.mem_singleton]at a;omega
theorem Ja(n:Nat):uns (List.replicate n false)=n:=by
 unfold uns
 induction n with
 |zero=>rfl
 |succ n ih=>rw[List.replicate_succ,List.countP_cons,ih];simp
theorem LJ{parts:List Ai}(hp:BM parts){i:Nat}(hi:i<parts.length):(Bf parts i).length<=parts.length/\∀j∈Bf parts i,j<parts.length:=by
 obtain⟨_,_,h3,h4⟩:=Ng hp (parts.length+1) i [] (List.replicate parts.length false) hi (by simp);rw[Ja]at h3;exact⟨by unfold Bf;simp at h3;omega,h4 (fun j hj=>by cases hj)⟩
abbrev AY:=List Bool×List (Nat×Nat)
def Cg(a b:Nat):Nat×Nat:=if b<a then(b,a)else(a,b)
def Hr(n a b:Nat)(g:AY):AY:=if g.1.getD ((Cg a b).1*n+(Cg a b).2) false=true then g else(g.1.set ((Cg a b).1*n+(Cg a b).2) true,g.2++[Cg a b])
def IL(n a:Nat):List Nat->AY->AY
 |[],g=>g
 |b::l,g=>IL n a l (Hr n a b g)
def Jw(n:Nat)(m:List Nat):List Nat->AY->AY
 |[],g=>g
 |a::l,g=>Jw n m l (IL n a m g)
def GF(parts:List Ai)(a b:Nat)(g:AY):AY:=Jw parts.length (Bf parts b) (Bf parts a) g
def FG(x y:Aq):Bool:=decide (x.name=y.name)&&decide (x.args=y.args)
def Dx(parts:List Ai)(x:Aq):List Aq->AY->Bool×AY
 |[],g=>(true,g)
 |y::l,g=>
  if x.kind=0/\y.kind=0/\x.key=y.key then
   (if FG x y=true then
    (match x.part,y.part with
     |some a,some b=>Dx parts x l (GF parts a b g)
     |_,_=>Dx parts x l g)
   else(false,g))
  else Dx parts x l g
def GH(parts:List Ai)(ys:List Aq):List Aq->AY->Bool×AY
 |[],g=>(true,g)
 |x::l,g=>if (Dx parts x ys g).1=true then GH parts ys l (Dx parts x ys g).2 else(false,(Dx parts x ys g).2)
def GI(parts:List Ai)(p:Nat×Nat)(g:AY):Bool×AY:=GH parts (Ax parts p.2).sels (Ax parts p.1).sels g
def IH(parts:List Ai):Nat->AY->Bool
 |0,_=>true
 |f+1,g=>match g.2.getLast? with
  |none=>true
  |some p=>if (GI parts p (g.1,g.2.dropLast)).1=true then IH parts f (GI parts p (g.1,g.2.dropLast)).2 else false
def Kv(parts:List Ai)(whole:Nat):Bool:=IH parts (parts.length*parts.length+1) (GF parts whole whole (List.replicate (parts.length*parts.length) false,[]))
structure BB(n:Nat)(c:Nat)(g:AY):Prop where
 l:g.1.length=n*n
 o:∀p∈g.2,p.1<n/\p.2<n
 c:uns g.1+g.2.length<=c
theorem Pd{n a b:Nat}(ha:a<n)(hb:b<n):a*n+b<n*n:=by
 have:(a+1)*n<=n*n:=Nat.mul_le_mul_right n ha;rw[Nat.succ_mul]at this;omega
theorem Rz{n a b:Nat}(ha:a<n)(hb:b<n):(Cg a b).1<n/\(Cg a b).2<n:=by
 unfold Cg;split<;>simp<;>omega
theorem Ro{n c a b:Nat}{g:AY}(h:BB n c g)(ha:a<n)(hb:b<n):BB n c (Hr n a b g):=by
 have ho:=Rz ha hb;have hl:=Pd ho.1 ho.2;unfold Hr;split
 ·exact h
 ·rename_i hf
  have hsi:g.1[(Cg a b).1*n+(Cg a b).2]?=some false:=by
   have hlt:(Cg a b).1*n+(Cg a b).2<g.1.length:=by rw[h.l];exact hl
   rw[tN hlt];rw[List.getD_eq_getElem?_getD,tN hlt]at hf;simpa using hf
  have h5:=Kj _ _ hsi;have h6:=h.c;refine⟨by simp[h.l],fun p hp=>?_,by simp only[uE,List.length_singleton];omega⟩;rcases uZ.1 hp with q|q
  ·exact h.o p q
  ·rw[List.mem_singleton]at q;rw[q];exact ho
theorem QY{n c a:Nat}(ha:a<n):∀(l:List Nat) {g:AY},(∀j∈l,j<n)->BB n c g->BB n c (IL n a l g)
 |[],_,_,h=>h
 |b::l,_,hl,h=>QY ha l (fun j hj=>hl j (uW _ hj)) (Ro h ha (hl b uX))
theorem UD{n c:Nat}{m:List Nat}(hm:∀j∈m,j<n):∀(l:List Nat) {g:AY},(∀j∈l,j<n)->BB n c g->BB n c (Jw n m l g)
 |[],_,_,h=>h
 |a::l,_,hl,h=>UD hm l (fun j hj=>hl j (uW _ hj)) (QY (hl a uX) m hm h)
theorem Nc{parts:List Ai}(hp:BM parts){a b c:Nat}(ha:a<parts.length)(hb:b<parts.length){g:AY}(h:BB parts.length c g):BB parts.length c (GF parts a b g):=UD (LJ hp hb).2 _ (LJ hp ha).2 h
theorem Rm{parts:List Ai}(hp:BM parts){c:Nat}{x:Aq}(hx:∀i,x.part=some i->i<parts.length):∀(l:List Aq) {g:AY},(∀y∈l,∀i,y.part=some i->i<parts.length)->BB parts.length c g->BB parts.length c (Dx parts x l g).2
 |[],_,_,h=>h
 |y::l,g,hl,h=>by
  have hr:=fun{g':AY} (hg:BB parts.length c g')=>Rm hp hx l (fun z hz=>hl z (uW _ hz)) hg;rw[Dx];split
  ·split
   ·split
    ·rename_i a b e1 e2
     exact hr (Nc hp (hx a e1) (hl y uX b e2) h)
    ·exact hr h
   ·exact h
  ·exact hr h
theorem Vu{parts:List Ai}(hp:BM parts){c:Nat}{ys:List Aq}(hys:∀y∈ys,∀i,y.part=some i->i<parts.length):∀(l:List Aq) {g:AY},(∀y∈l,∀i,y.part=some i->i<parts.length)->BB parts.length c g->BB parts.length c (GH parts ys l g).2
 |[],_,_,h=>h
 |x::l,g,hl,h=>by
  rw[GH];have h1:=Rm hp (hl x uX) ys hys h;split
  ·exact Vu hp hys l (fun z hz=>hl z (uW _ hz)) h1
  ·exact h1
theorem Vw{parts:List Ai}(hp:BM parts){c:Nat}{p:Nat×Nat}{g:AY}(h:BB parts.length c g):BB parts.length c (GI parts p g).2:=Vu hp (hp.d _) _ (hp.d _) h
end Go.Proofs.YtadneapobijejaaGreatDoor
