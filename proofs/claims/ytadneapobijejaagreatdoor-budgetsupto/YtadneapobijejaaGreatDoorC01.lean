import Derived.Test.YtadneapobijejaaGreatDoorProg
import Derived.WalkKit
import Derived.WalkSpells
import Derived.WalkLawsBesides
namespace Go.Proofs.YtadneapobijejaaGreatDoor
set_option maxHeartbeats 20000000
set_option maxRecDepth 100000
open Go.RowKit Tryz
abbrev vE(w x:World):Prop:=Below w.heap.size w x
abbrev vD:=ByteArray
def Hi(p:Prop):Prop:=p
theorem Hi.o{p:Prop}(h:Hi p):p:=h
theorem tL:∀(n:Nat),n<=n:=@Nat.le_refl
theorem tM:∀(B:Nat)(w:World),Below B w w:=@Below.refl
theorem tN:∀{α:Type}{l:List α}{i:Nat}(h:i<l.length),l[i]?=some l[i]:=@List.getElem?_eq_getElem
theorem tO:∀{α:Type}{l:List α}{i:Nat}{a:α},l[i]?=some a->a∈l:=@List.mem_of_getElem?
theorem tP:∀{α:Type}{i:Nat}{a:α}{l:List α},l[i]?=some a↔∃h:i<l.length,l[i]=a:=@List.getElem?_eq_some_iff
theorem tQ:∀{n m k:Nat},n<=m->m<=k->n<=k:=@Nat.le_trans
theorem tR:∀(w:World)(a:Addr){u:Value},w.cell? a=some u->a.block<w.heap.size:=@World.block_lt_of_cell?
theorem tS:∀(w:World)(o:Obj),(w.alloc o).heap[w.heap.size]?=some o:=@heap_alloc_new
theorem tT:∀{p:Prop}[Decidable p],¬p->decide p=false:=@decide_eq_false
theorem tU:∀(n:Nat),0<=n:=@Nat.zero_le
theorem tV:∀{n m k:Nat},n<m->m<=k->n<k:=@Nat.lt_of_lt_of_le
theorem tW:∀{α:Type}{i:Nat}{l:List α},l.length<=i->l.take i=l:=@List.take_of_length_le
theorem tX:∀(w:World)(a:Addr)(u:Value)(k:Nat),k≠a.block->(w.setCell a u).heap[k]?=w.heap[k]?:=@Below.heap_setCell
theorem tY:∀{α:Type}{a b:α},some a=some b->a=b:=@Option.some.inj
theorem tZ:∀{α:Type}{l:List α},l.length=0->l=[]:=@List.eq_nil_of_length_eq_zero
theorem uA:∀(w:World)(base:Nat)(e:TypeId)(size:Nat),w.ownsRow base e size (.slice none 0 0) 0 []:=@World.ownsRow_nil
theorem uB:∀{c:Prop}{_:Decidable c},¬c->∀{α:Type}{t e:α},(if c then t else e)=e:=@if_neg
theorem uC:∀{c:Prop}{_:Decidable c},c->∀{α:Type}{t e:α},(if c then t else e)=t:=@if_pos
theorem uD:∀{α β:Type}{f:α->β}{l:List α}{i:Nat},(l.map f)[i]?=(l[i]?).map f:=@List.getElem?_map
theorem uE:∀{α:Type}{a b:List α},(a++b).length=a.length+b.length:=@List.length_append
theorem uF:∀{p:Prop}[Decidable p],(decide p=true)=p:=@decide_eq_true_eq
theorem uG:∀{α:Type}{l:List α}{i:Nat},l.take (i+1)=l.take i++l[i]?.toList:=@List.take_add_one
theorem uH:∀{p:Prop}[Decidable p],p->decide p=true:=@decide_eq_true
theorem uI:∀{α:Type}{a b:List α}{n:Nat},n<a.length->(a++b)[n]?=a[n]?:=@List.getElem?_append_left
theorem uJ:∀{α:Type}{a b:List α}{n:Nat},a.length<=n->(a++b)[n]?=b[n-a.length]?:=@List.getElem?_append_right
theorem uK:∀{α:Type}{p:α->Bool}{l:List α},l.all p=true↔∀x∈l,p x=true:=@List.all_eq_true
theorem uL:∀(a b:Bool),((a&&b)=true)=(a=true/\b=true):=@Bool.and_eq_true
theorem uM:(false=true)=False:=@Bool.false_eq_true
theorem uO:∀(n:Nat),(n:Int).toNat=n:=@Int.toNat_natCast
theorem uP:∀{α β:Type}{l:List α}(f:α->β),(l.map f).length=l.length:=@List.length_map
theorem uQ:∀{α:Type}{a:α}{l:List α},(a::l).length=l.length+1:=@List.length_cons
theorem uR:∀{α:Type}{xs:Array α}{i j:Nat},i≠j->∀{a:α},(xs.setIfInBounds i a)[j]?=xs[j]?:=@Array.getElem?_setIfInBounds_ne
theorem uS:∀{α:Type}{i:Nat}{l:List α},l.length<=i->l.drop i=[]:=@List.drop_of_length_le
theorem uT:∀{α:Type}{i:Nat}{l:List α}(h:i<l.length),l.drop i=l[i]::l.drop (i+1):=@List.drop_eq_getElem_cons
theorem uU:∀{α β:Type}{f:α->β}{a b:List α},(a++b).map f=a.map f++b.map f:=@List.map_append
theorem uV:∀{a b:Prop},a->b->a/\b:=@And.intro
theorem uW:∀{α:Type}(y:α){a:α}{l:List α},a∈l->a∈y::l:=@List.mem_cons_of_mem
theorem uX:∀{α:Type}{a:α}{l:List α},a∈a::l:=@List.mem_cons_self
theorem uY:∀{α:Type}{b:α}{β:Type}{x:Option β}{f:β->α},x.map f=some b↔∃a,x=some a/\f a=b:=@Option.map_eq_some_iff
theorem uZ:∀{α:Type}{a:α}{s t:List α},a∈s++t↔a∈s\/a∈t:=@List.mem_append
theorem vB:∀{α:Type}{b:α}{l:List α}{a:α},a∈b::l↔a=b\/a∈l:=@List.mem_cons
theorem Aa{p:Prop}(h:p):Hi p:=h
theorem sD(s:vD)(k:Nat)(h:k<s.size):s.data.toList.take (k+1)=s.data.toList.take k++[s[k]]:=by
 rw[List.take_succ_eq_append_getElem (by simpa using h)];rfl
theorem Tu(a b:UInt8):((a.toNat:Int)==(b.toNat:Int))=(a==b):=by
 rw[Bool.eq_iff_iff,beq_iff_eq,beq_iff_eq];constructor
 ·intro h;exact UInt8.toNat_inj.1 (by omega)
 ·intro h;rw[h]
theorem Ak{a b:Bool}(h:a=b):Ending.returned (.bool a)=.returned (.bool b):=by rw[h]
theorem CG{k:IntKind}{a b:Int}(h:a=b):Ending.returned (.int k a)=.returned (.int k b):=by rw[h]
theorem ED(s:vD)(k:Nat)(h:k<s.size):s.data.toList.drop k=s[k]::s.data.toList.drop (k+1):=by
 rw[uT (by simpa using h)];rfl
def Ar(s:vD)(c:UInt8):Bool:=s.data.toList.contains c
theorem XZ{α:Type}(p:α->Bool):∀(l:List α) (k:Nat),(∀x∈l.take k,p x=true)->k<=l.length->(∀x,l[k]?=some x->p x=false)->(l.takeWhile p).length=k
 |[],k,_,h2,_=>by simp at h2;simp[h2]
 |x::l,0,_,_,h3=>by have:=h3 x (by simp);simp[this]
 |x::l,k+1,h1,h2,h3=>by
  have hx:p x=true:=h1 x (by simp);rw[List.takeWhile_cons_of_pos hx,uQ,XZ p l k (fun y hy=>h1 y (by simp[hy])) (by simpa using h2) (fun y hy=>h3 y (by simpa using hy))]
theorem Um(s:vD)(a k:Nat)(h:a+k<s.size):(s.data.toList.drop a)[k]?=some s[a+k]:=by
 rw[List.getElem?_drop,tN (by simpa using h)];rfl
def Av(s:List UInt8)(o:vD):Nat:=(s.takeWhile (Ar o)).length
theorem Xw(s o:vD)(n k:Nat)(h:n+k<=s.size)(h1:∀x∈(s.data.toList.drop n).take k,Ar o x=true)(h2:∀hl:n+k<s.size,Ar o s[n+k]=false):Av (s.data.toList.drop n) o=k:=by
 refine XZ _ _ _ h1 (by simp;omega) ?_;intro x hx;by_cases hl:n+k<s.size
 ·rw[Um s n k hl]at hx;cases hx;exact h2 hl
 ·rw[List.getElem?_eq_none (by simp;omega)]at hx;cases hx
theorem qS(s o:vD)(n k:Nat)(hl:n+k<s.size)(h1:∀x∈(s.data.toList.drop n).take k,Ar o x=true)(h2:Ar o s[n+k]=true):∀x∈(s.data.toList.drop n).take (k+1),Ar o x=true:=by
 rw[uG,Um s n k hl];intro x hx;rcases uZ.1 hx with hx|hx
 ·exact h1 x hx
 ·simp at hx;rw[hx];exact h2
def AP:vD:=⟨#[48,49,50,51,52,53,54,55,56,57]⟩
def Dw:vD:=⟨#[97,98,99,100,101,102,103,104,105,106,107,108,109,110,111,112,113,114,115,116,117,118,119,120,121,122,65,66,67,68,69,70,71,72,73,74,75,76,77,78,79,80,81,82,83,84,85,86,87,88,89,90,95]⟩
def Ba:List UInt8->Int->Int
 |[],n=>n
 |c::l,n=>Ba l (10*n+((c.toNat:Int)-48))
def BK(l:List UInt8):Option (Int×Nat):=
 let sg:Nat:=if l.head?=some 45 then 1 else 0
 let k:=Av (l.drop sg) AP
 let more:=Av (l.drop (sg+k)) Dw
 if k<1\/9<k\/0<more\/(1<k/\(l.drop sg).head?=some 48)then none
 else some (if sg=1 then-Ba ((l.drop sg).take k) 0 else Ba ((l.drop sg).take k) 0,sg+k)
def BV:Option (Int×Nat)->Value
 |none=>.tuple #[.agg #[.int .i64 0,.string ⟨#[]⟩,.int .i64 0],.int .i64 0]
 |some (n,k)=>.tuple #[.agg #[.int .i64 2,.string ⟨#[]⟩,.int .i64 n],.int .i64 k]
theorem OQ(l:List UInt8)(c:UInt8)(n:Int):Ba (l++[c]) n=10*Ba l n+((c.toNat:Int)-48):=by
 induction l generalizing n with
 |nil=>rfl
 |cons a l ih=>simp[Ba,ih]
theorem KM(c:UInt8):Ar AP c=true↔48<=(c.toNat:Int)/\(c.toNat:Int)<=57:=by
 have h:∀i:Fin 256,Ar AP (UInt8.ofFin i)=decide (48<=i.val/\i.val<=57):=by decide+kernel
 have:=h c.toFin;rw[show UInt8.ofFin c.toFin=c from rfl]at this;rw[this];simp;constructor<;>intro h<;>constructor<;>have:=h.1<;>have:=h.2<;>omega
theorem OP(l:List UInt8)(h:∀c∈l,Ar AP c=true)(j:Nat)(hj:l.length<=j):0<=Ba l 0/\Ba l 0<10^j:=by
 have key:∀(l:List UInt8) (n:Int),(∀c∈l,Ar AP c=true)->0<=n->0<=Ba l n/\Ba l n<(n+1)*10^l.length:=by
  intro l
  induction l with
  |nil=>intro n _ h0;simp[Ba];omega
  |cons c l ih=>
   intro n hd h0;have hc:=(KM c).1 (hd c (by simp));have:=ih (10*n+((c.toNat:Int)-48)) (fun x hx=>hd x (by simp[hx])) (by omega);refine⟨this.1,Int.lt_of_lt_of_le this.2 ?_⟩;rw[uQ,Int.pow_succ,Int.mul_comm (10^l.length) 10,<-Int.mul_assoc];exact Int.mul_le_mul_of_nonneg_right (by omega) (Int.pow_nonneg (by omega))
 have:=key l 0 h (by omega);refine⟨this.1,?_⟩;have h2:(10:Int)^l.length<=10^j:=by exact_mod_cast Nat.pow_le_pow_right (by omega) hj
 omega
theorem qT(s:List UInt8)(o:vD):∀x∈s.take (Av s o),Ar o x=true:=by
 unfold Av;intro x hx;have h:=(List.takeWhile_prefix (p:=Ar o) (l:=s));obtain⟨t,ht⟩:=h;rw[<-ht,List.take_left' (by rw[ht])]at hx;exact uK.1 (List.all_takeWhile (p:=Ar o) (l:=s)) x hx
theorem Kf(s:List UInt8)(o:vD):Av s o<=s.length:=(List.takeWhile_prefix (p:=Ar o) (l:=s)).length_le
theorem Oa(c:UInt8):((c.toNat:Int)==45)=decide (c=45):=by
 have:=Tu c 45;rw[show((45:UInt8).toNat:Int)=45 from rfl]at this;rw[this];rfl
theorem ZI(c:UInt8):((c.toNat:Int)==48)=decide (c=48):=by
 have:=Tu c 48;rw[show((48:UInt8).toNat:Int)=48 from rfl]at this;rw[this];rfl
def Gl(d:UInt8):Option UInt8:=if d=34 then some 34 else if d=92 then some 92 else if d=110 then some 10 else if d=116 then some 9 else none
def Cp:List UInt8->List UInt8->Nat->Option (List UInt8×Nat)
 |[],_,_=>none
 |c::r,acc,m=>
  if c=34 then some (acc,m+1)
  else if c<32\/126<c then none
  else if c=92 then
   match r with
   |[]=>none
   |d::r'=>match Gl d with
    |none=>none
    |some e=>Cp r' (acc++[e]) (m+2)
  else Cp r (acc++[c]) (m+1)
def FW:Option (List UInt8×Nat)->Value
 |none=>.tuple #[.agg #[.int .i64 0,.string ⟨#[]⟩,.int .i64 0],.int .i64 0]
 |some (l,k)=>.tuple #[.agg #[.int .i64 3,.string ⟨l.toArray⟩,.int .i64 0],.int .i64 k]
def CJ(l:List UInt8):List Value:=l.map fun b=>Value.int .u8 (b.toNat:Int)
theorem Fe{c d:UInt8}(h:(c.toNat:Int)=(d.toNat:Int)):c=d:=UInt8.toNat_inj.1 (by omega)
theorem Pt(c d:UInt8):c<d↔(c.toNat:Int)<(d.toNat:Int):=by rw[UInt8.lt_iff_toNat_lt];omega
theorem Le(c:UInt8)(r acc:List UInt8)(m:Nat):Cp (c::r) acc m=if c=34 then some (acc,m+1)
 else if c<32\/126<c then none
 else if c=92 then
  match r with
  |[]=>none
  |d::r'=>match Gl d with
   |none=>none
   |some e=>Cp r' (acc++[e]) (m+2)
 else Cp r (acc++[c]) (m+1):=by cases r<;>rfl
theorem rM(s:vD)(k:Nat)(acc:List UInt8)(m:Nat)(h:s.size<=k):Cp (s.data.toList.drop k) acc m=none:=by
 rw[uS (by simp;exact h)];rfl
theorem rS(s:vD)(k:Nat)(acc:List UInt8)(m:Nat)(h:k<s.size)(hc:s[k]=34):Cp (s.data.toList.drop k) acc m=some (acc,m+1):=by
 rw[ED s k h,Le,uC hc]
theorem XP(s:vD)(k:Nat)(acc:List UInt8)(m:Nat)(h:k<s.size)(hc:s[k]<32\/126<s[k]):Cp (s.data.toList.drop k) acc m=none:=by
 rw[ED s k h,Le,uB (by intro e;rw[e]at hc;revert hc;decide),uC hc]
theorem rO(s:vD)(k:Nat)(acc:List UInt8)(m:Nat)(h:k<s.size)(hc:s[k]=92)(hk:s.size<=k+1):Cp (s.data.toList.drop k) acc m=none:=by
 rw[ED s k h,Le,uB (by rw[hc];decide),uB (by rw[hc];decide),uC hc,uS (by simp;exact hk)]
theorem XQ(s:vD)(k:Nat)(acc:List UInt8)(m:Nat)(h:k+1<s.size)(hc:s[k]=92):Cp (s.data.toList.drop k) acc m=match Gl s[k+1]with
 |none=>none
 |some e=>Cp (s.data.toList.drop (k+2)) (acc++[e]) (m+2):=by
 rw[ED s k (by omega),Le,uB (by rw[hc];decide),uB (by rw[hc];decide),uC hc,ED s (k+1) h]
theorem rR(s:vD)(k:Nat)(acc:List UInt8)(m:Nat)(h:k<s.size)(h1:¬s[k]=34)(h2:¬(s[k]<32\/126<s[k]))(h3:¬s[k]=92):Cp (s.data.toList.drop k) acc m=Cp (s.data.toList.drop (k+1)) (acc++[s[k]]) (m+1):=by
 rw[ED s k h,Le,uB h1,uB h2,uB h3]
theorem info5:(prog.info? 5).map (fun i=>(i.zero,i.size,i.bytes))=some (some (.int .u8 0),1,1):=by kernel_rfl
theorem Im(w:World)(cs:Array Value)(j:Nat){T:TypeId}:(w.alloc (.cells cs T)).frozen? ⟨w.heap.size,j,none⟩=false:=by
 unfold World.frozen?;rw[tS w _];simp
theorem MM(w:World)(base:Nat)(v:Value)(l:List UInt8)(h:w.ownsRow base 5 1 v l.length (CJ l)):(convert 84 9 v).run prog w=.ok (.string ⟨l.toArray⟩) w:=by
 rcases h.2 with⟨rfl,h0⟩|⟨g,cap,cur,rfl,hg,hb,h1,h2,h3,h4⟩
 ·have:l=[]:=tZ h0
  subst this;exact run_convert_bytes_nil _ 84 5 underlying84 underlying5 0 0 9 underlying9
 ·refine run_convert_bytes_back w 84 9 5 _ cap l underlying84 underlying5 underlying9 ?_
  intro j hj;have:=h.cellAt j (by omega);rw[show(Addr.add ⟨g,0,none⟩ j)=⟨g,j,none⟩from by simp only[Addr.add,Nat.zero_add];split<;>simp_all,this];simp[CJ,hj]
structure Tk where
 k:Nat
 s:vD
 n:Int
def Hh:vD:=⟨#[32,9,13,10,44]⟩
def AN:vD:=⟨#[97,98,99,100,101,102,103,104,105,106,107,108,109,110,111,112,113,114,115,116,117,118,119,120,121,122,65,66,67,68,69,70,71,72,73,74,75,76,77,78,79,80,81,82,83,84,85,86,87,88,89,90,95,48,49,50,51,52,53,54,55,56,57]⟩
def Gi:vD:=⟨#[48,49,50,51,52,53,54,55,56,57,45]⟩
def Dp:vD:=⟨#[33,36,40,41,58,61,64,91,93,123,125,124,38]⟩
def Az(l:List UInt8):vD:=⟨l.toArray⟩
def GT:List UInt8->UInt8->Nat->Option Nat
 |[],_,_=>none
 |d::l,c,i=>if d=c then some i else GT l c (i+1)
def Br(l:List UInt8):Option (Tk×Nat):=
 match l with
 |[]=>none
 |c::r=>
  if Ar Dw c=true then some (⟨1,Az ((c::r).take (Av (c::r) AN)),0⟩,Av (c::r) AN)
  else if Ar Gi c=true then(BK (c::r)).map fun x=>(⟨2,⟨#[]⟩,x.1⟩,x.2)
  else if c=34 then(Cp r [] 1).map fun x=>(⟨3,Az x.1,0⟩,x.2)
  else if (c::r).take 3=[46,46,46]then some (⟨4,⟨#[]⟩,0⟩,3)
  else(GT Dp.data.toList c 5).map fun i=>(⟨i,⟨#[]⟩,0⟩,1)
def Fs:Nat->List UInt8->Option (List Tk)
 |0,_=>none
 |_+1,[]=>some []
 |f+1,c::r=>
  if Ar Hh c=true then Fs f r
  else if c=35 then Fs f (r.dropWhile (· !=10))
  else match Br (c::r)with
   |none=>none
   |some x=>(Fs f ((c::r).drop x.2)).map (x.1:: ·)
def Bb(l:List UInt8):Option (List Tk):=Fs (l.length+1) l
theorem rL:∀(n:Nat) (l acc:List UInt8) (m:Nat) (x:List UInt8×Nat),l.length<=n->Cp l acc m=some x->m<x.2/\x.2<=m+l.length:=by
 intro n
 induction n with
 |zero=>intro l acc m x hl h;have:l=[]:=tZ (by omega);subst this;cases h
 |succ n ih=>
  intro l acc m x hl h
  match l with
  |[]=>cases h
  |c::r=>
   rw[Le]at h;simp only[uQ]at hl⊢;by_cases h1:c=34
   ·rw[uC h1]at h;cases h;refine⟨?_,?_⟩<;>(simp only;omega)
   rw[uB h1]at h;by_cases h2:c<32\/126<c
   ·rw[uC h2]at h;cases h
   rw[uB h2]at h;by_cases h3:c=92
   ·rw[uC h3]at h
    match r with
    |[]=>cases h
    |d::r'=>
     cases he:Gl d with
     |none=>simp[he]at h
     |some e=>simp only[he]at h;simp only[uQ]at hl⊢;have:=ih r' _ _ x (by omega) h;omega
   ·rw[uB h3]at h;have:=ih r _ _ x (by omega) h;omega
theorem lP(l:List UInt8)(x:Int×Nat)(h:BK l=some x):0<x.2/\x.2<=l.length:=by
 unfold BK at h;simp only at h;generalize (if l.head?=some 45 then 1 else 0)=sg at h;have hk:=Kf (l.drop sg) AP;generalize Av (l.drop sg) AP=k at h hk;generalize Av (l.drop (sg+k)) Dw=m at h;by_cases hc:k<1\/9<k\/0<m\/(1<k/\(l.drop sg).head?=some 48)
 ·rw[uC hc]at h;cases h
 ·rw[uB hc]at h;cases h
  simp only[List.length_drop]at hk;simp only;omega
theorem Oz(l:List UInt8)(x:Tk×Nat)(h:Br l=some x):0<x.2/\x.2<=l.length:=by
 unfold Br at h;split at h
 ·cases h
 ·rename_i c r
  by_cases h1:Ar Dw c=true
  ·rw[uC h1]at h;cases h
   refine⟨?_,Kf _ _⟩;have:Ar AN c=true:=by
    have k:∀i:Fin 256,Ar Dw (UInt8.ofFin i)=true->Ar AN (UInt8.ofFin i)=true:=by decide+kernel
    exact k c.toFin h1
   simp[Av,this]
  rw[uB h1]at h;by_cases h2:Ar Gi c=true
  ·rw[uC h2]at h
   cases hn:BK (c::r)with
   |none=>simp[hn]at h
   |some y=>simp only[hn,Option.map_some,Option.some.injEq]at h;subst h;exact lP _ _ hn
  rw[uB h2]at h;by_cases h3:c=34
  ·rw[uC h3]at h
   cases hn:Cp r [] 1 with
   |none=>simp[hn]at h
   |some y=>simp only[hn,Option.map_some,Option.some.injEq]at h;subst h;have:=rL _ _ _ _ _ (tL _) hn;simp only[uQ];omega
  rw[uB h3]at h;by_cases h4:(c::r).take 3=[46,46,46]
  ·rw[uC h4]at h;cases h
   have:=congrArg List.length h4;simp only[List.length_take,uQ,List.length_nil]at this⊢;omega
  rw[uB h4]at h;cases hn:GT Dp.data.toList c 5 with
  |none=>simp[hn]at h
  |some y=>simp only[hn,Option.map_some,Option.some.injEq]at h;subst h;simp
theorem Of{α:Type}(p:α->Bool)(l:List α):(l.dropWhile p).length<=l.length:=(List.dropWhile_suffix p).length_le
theorem US:∀(f g:Nat) (l:List UInt8),l.length<f->l.length<g->Fs f l=Fs g l:=by
 intro f
 induction f with
 |zero=>intro g l h;omega
 |succ f ih=>
  intro g l hf hg
  match g,l with
  |0,_=>omega
  |g+1,[]=>rfl
  |g+1,c::r=>
   simp only[uQ]at hf hg;simp only[Fs];rw[ih g r (by omega) (by omega)];have h2:=Of (· !=10) r;rw[ih g (r.dropWhile (· !=10)) (by omega) (by omega)];cases hx:Br (c::r)with
   |none=>rfl
   |some x=>
    have:=Oz _ _ hx;simp only;rw[ih g ((c::r).drop x.2) (by simp;omega) (by simp;omega)]
theorem iU:Bb []=some []:=rfl
theorem LL(c:UInt8)(r:List UInt8)(h:Ar Hh c=true):Bb (c::r)=Bb r:=by
 unfold Bb;rw[uQ,Fs,uC h]
theorem iQ(r:List UInt8):Bb (35::r)=Bb (r.dropWhile (· !=10)):=by
 unfold Bb;rw[uQ,Fs,uB (by decide),uC rfl];have h2:=Of (· !=10) r;exact US _ _ _ (by omega) (by omega)
theorem iL(c:UInt8)(r:List UInt8)(h1:Ar Hh c=false)(h2:¬c=35)(h:Br (c::r)=none):Bb (c::r)=none:=by
 unfold Bb;rw[uQ,Fs,uB (by simp[h1]),uB h2,h]
theorem iW(c:UInt8)(r:List UInt8)(x:Tk×Nat)(h1:Ar Hh c=false)(h2:¬c=35)(h:Br (c::r)=some x):Bb (c::r)=(Bb ((c::r).drop x.2)).map (x.1:: ·):=by
 unfold Bb;rw[uQ,Fs,uB (by simp[h1]),uB h2,h];have:=Oz _ _ h;simp only[uQ]at this;simp only;rw[US (r.length+1) (((c::r).drop x.2).length+1) _ (by simp;omega) (by omega)]
theorem fC(c:UInt8):Ar AN c=true↔(48<=(c.toNat:Int)/\(c.toNat:Int)<=57)\/(c.toNat:Int)=95\/(97<=(c.toNat:Int)/\(c.toNat:Int)<=122)\/(65<=(c.toNat:Int)/\(c.toNat:Int)<=90):=by
 have h:∀i:Fin 256,Ar AN (UInt8.ofFin i)=decide ((48<=i.val/\i.val<=57)\/i.val=95\/(97<=i.val/\i.val<=122)\/(65<=i.val/\i.val<=90)):=by decide+kernel
 have:=h c.toFin;rw[show UInt8.ofFin c.toFin=c from rfl]at this;rw[this];simp only[uF];show((48<=c.toNat/\c.toNat<=57)\/c.toNat=95\/(97<=c.toNat/\c.toNat<=122)\/(65<=c.toNat/\c.toNat<=90))↔_;omega
theorem Df(c:UInt8)(w:World):Calls prog 161 #[.int .u8 c.toNat] w fun e w'=>e=.returned (.bool (Ar AP c))/\w'=w:=by
 have hb:(c.toNat:Int)<=255:=by have:=c.toNat_lt;omega
 have hd:=KM c;have H:=Aa hd;clear hd;by_cases h1:48<=(c.toNat:Int)
 ·by_cases h2:(c.toNat:Int)<=57
  ·have E:=Aa (show Ar AP c=true from H.o.2 ⟨h1,h2⟩)
   go_enter func161,ntmps161
   go_wp2
   go_ret;exact⟨Ak (by rw[E.o]<;>first|rfl|(simp;omega)),rfl⟩
  ·have E:=Aa (show Ar AP c=false from by cases hx:Ar AP c;rfl;have:=H.o.1 hx;omega)
   go_enter func161,ntmps161
   go_wp2
   go_ret;exact⟨Ak (by rw[E.o]<;>first|rfl|(simp;omega)),rfl⟩
 ·have E:=Aa (show Ar AP c=false from by cases hx:Ar AP c;rfl;have:=H.o.1 hx;omega)
  go_enter func161,ntmps161
  go_wp2
  go_ret;exact⟨Ak (by rw[E.o]<;>first|rfl|(simp;omega)),rfl⟩
theorem JX(c:UInt8)(w:World):Calls prog 163 #[.int .u8 c.toNat] w fun e w'=>e=.returned (.bool (Ar AN c))/\w'=w:=by
 have hb:(c.toNat:Int)<=255:=by have:=c.toNat_lt;omega
 have H:=Aa (fC c);have D:=Aa (KM c);cases hd:Ar AP c
 ·have nd:¬(48<=(c.toNat:Int)/\(c.toNat:Int)<=57):=fun h=>by rw[D.o.2 h]at hd;cases hd
  have ND:=Aa nd;clear nd;cases h95:((c.toNat:Int)==95)
  ·have n95:(c.toNat:Int)≠95:=by simpa using h95
   have N95:=Aa n95;clear n95;by_cases ha:97<=(c.toNat:Int)
   ·by_cases hz:(c.toNat:Int)<=122
    ·have E:=Aa (show Ar AN c=true from H.o.2 (Or.inr (Or.inr (Or.inl ⟨ha,hz⟩))))
     go_enter func163,ntmps163;go_wp2_with (go_at_call 161;refine(Df _ _).mono ?_;rintro e w' ⟨rfl,rfl⟩);go_ret;exact⟨Ak (by rw[E.o]<;>first|rfl|(simp;omega)),rfl⟩
    ·have E:=Aa (show Ar AN c=false from by cases hx:Ar AN c;rfl;have:=H.o.1 hx;have:=ND.o;have:=N95.o;omega)
     go_enter func163,ntmps163;go_wp2_with (go_at_call 161;refine(Df _ _).mono ?_;rintro e w' ⟨rfl,rfl⟩);go_ret;exact⟨Ak (by rw[E.o]<;>first|rfl|(simp;omega)),rfl⟩
   ·by_cases ha2:65<=(c.toNat:Int)
    ·by_cases hz2:(c.toNat:Int)<=90
     ·have E:=Aa (show Ar AN c=true from H.o.2 (Or.inr (Or.inr (Or.inr ⟨ha2,hz2⟩))))
      go_enter func163,ntmps163;go_wp2_with (go_at_call 161;refine(Df _ _).mono ?_;rintro e w' ⟨rfl,rfl⟩);go_ret;exact⟨Ak (by rw[E.o]<;>first|rfl|(simp;omega)),rfl⟩
     ·have E:=Aa (show Ar AN c=false from by cases hx:Ar AN c;rfl;have:=H.o.1 hx;have:=ND.o;have:=N95.o;omega)
      go_enter func163,ntmps163;go_wp2_with (go_at_call 161;refine(Df _ _).mono ?_;rintro e w' ⟨rfl,rfl⟩);go_ret;exact⟨Ak (by rw[E.o]<;>first|rfl|(simp;omega)),rfl⟩
    ·have E:=Aa (show Ar AN c=false from by cases hx:Ar AN c;rfl;have:=H.o.1 hx;have:=ND.o;have:=N95.o;omega)
     go_enter func163,ntmps163;go_wp2_with (go_at_call 161;refine(Df _ _).mono ?_;rintro e w' ⟨rfl,rfl⟩);go_ret;exact⟨Ak (by rw[E.o]<;>first|rfl|(simp;omega)),rfl⟩
  ·have E:=Aa (show Ar AN c=true from H.o.2 (Or.inr (Or.inl (by simpa using h95))))
   go_enter func163,ntmps163;go_wp2_with (go_at_call 161;refine(Df _ _).mono ?_;rintro e w' ⟨rfl,rfl⟩);go_ret;exact⟨Ak (by rw[E.o]<;>first|rfl|(simp;omega)),rfl⟩
 ·have E:=Aa (show Ar AN c=true from H.o.2 (Or.inl (D.o.1 hd)))
  go_enter func163,ntmps163;go_wp2_with (go_at_call 161;refine(Df _ _).mono ?_;rintro e w' ⟨rfl,rfl⟩);go_ret;exact⟨Ak (by rw[E.o]<;>first|rfl|(simp;omega)),rfl⟩
theorem Sw(s:vD)(w:World)(hs:s.size<=100000):
 Calls prog 164 #[.string s] w fun e w'=>e=.returned (.int .i64 (Av s.data.toList AN:Nat))/\w'=w:=by
 generalize hq:Av s.data.toList AN=q;have HQ:=Aa hq;clear hq;go_enter func164,ntmps164;go_wp2_with fail;go_loop [3] (fun i=>∃k:Nat,k<=s.size/\i=.int .i64 k/\∀x∈(s.data.toList.drop 0).take k,Ar AN x=true) (fun i=>s.size-(intOf i).toNat)
 case atStart=>exact⟨0,by omega,rfl,by simp⟩
 case round=>
  obtain⟨k,hk,rfl,hc⟩:=hrel;have HC:=Aa hc;clear hc;by_cases hlt:k<s.size
  ·cases hp:Ar AN s[k]
   ·go_wp2_with (go_at_call 163;refine(JX _ _).mono ?_;rintro e w' ⟨rfl,rfl⟩)
    go_ret;exact⟨CG (by rw[<-HQ.o];have:=Xw s AN 0 k (by omega) HC.o (fun _=>by simpa using hp);rw[List.drop_zero]at this;rw[this]),rfl⟩
   ·go_wp2_with (go_at_call 163;refine(JX _ _).mono ?_;rintro e w' ⟨rfl,rfl⟩)
    go_round
    case rel=>exact⟨k+1,by omega,by go_num,qS s AN 0 k (by omega) HC.o (by simpa using hp)⟩
    case measure=>simp[intOf];omega
  ·go_wp2_with fail
   go_ret;exact⟨CG (by rw[<-HQ.o];have:=Xw s AN 0 k (by omega) HC.o (fun h=>absurd h (by omega));rw[List.drop_zero]at this;rw[this]),rfl⟩
def TU:Option UInt8->Int
 |none=>0
 |some c=>c.toNat
def Gk(l:List UInt8):Option UInt8:=match l with
 |[]=>none
 |d::_=>Gl d
theorem TV(s:vD)(w:World):
 Calls prog 206 #[.string s] w fun e w'=>e=.returned (.int .u8 (TU (Gk s.data.toList)))/\w'=w:=by
 generalize hq:TU (Gk s.data.toList)=q;have HQ:=Aa hq;clear hq;by_cases h0:0<s.size
 ·have HE:=Aa (show Gk s.data.toList=Gl s[0]from by have:=ED s 0 h0;rw[List.drop_zero]at this;rw[this];rfl)
  have hne:s.toList.isEmpty=false:=by rw[ByteArray.toList_eq s];have:=ED s 0 h0;rw[List.drop_zero]at this;rw[this];rfl
  cases g34:((s[0].toNat:Int)==34)
  ·cases g92:((s[0].toNat:Int)==92)
   ·cases g110:((s[0].toNat:Int)==110)
    ·cases g116:((s[0].toNat:Int)==116)
     ·have HS:=Aa (show Gl s[0]=none by
       unfold Gl;rw[uB (by intro e;rw[e]at g34;simp at g34),uB (by intro e;rw[e]at g92;simp at g92),uB (by intro e;rw[e]at g110;simp at g110),uB (by intro e;rw[e]at g116;simp at g116)])
      go_enter func206,ntmps206
      go_wp2
      go_ret;exact⟨CG (by rw[<-HQ.o,HE.o,HS.o];rfl),rfl⟩
     ·have HS:=Aa (show Gl s[0]=some 9 by rw[show s[0]=116 from Fe (by simpa using g116)];rfl)
      go_enter func206,ntmps206
      go_wp2
      go_ret;exact⟨CG (by rw[<-HQ.o,HE.o,HS.o];rfl),rfl⟩
    ·have HS:=Aa (show Gl s[0]=some 10 by rw[show s[0]=110 from Fe (by simpa using g110)];rfl)
     go_enter func206,ntmps206
     go_wp2
     go_ret;exact⟨CG (by rw[<-HQ.o,HE.o,HS.o];rfl),rfl⟩
   ·have e2:=Aa (show s[0]=92 from Fe (by simpa using g92))
    have HS:=Aa (show Gl s[0]=some s[0]by rw[e2.o];rfl);go_enter func206,ntmps206
    go_wp2
    go_ret;exact⟨CG (by rw[<-HQ.o,HE.o,HS.o];rfl),rfl⟩
  ·have e2:=Aa (show s[0]=34 from Fe (by simpa using g34))
   have HS:=Aa (show Gl s[0]=some s[0]by rw[e2.o];rfl);go_enter func206,ntmps206
   go_wp2
   go_ret;exact⟨CG (by rw[<-HQ.o,HE.o,HS.o];rfl),rfl⟩
 ·have hl:s.data.toList=[]:=tZ (by show s.size=0;omega)
  have hne:s.toList.isEmpty=true:=by rw[ByteArray.toList_eq s,hl];rfl
  have HL:=Aa hl;clear hl;go_enter func206,ntmps206
  go_wp2
  go_ret;exact⟨CG (by rw[<-HQ.o,HL.o];rfl),rfl⟩
end Go.Proofs.YtadneapobijejaaGreatDoor
