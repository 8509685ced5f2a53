import Derived.Test.YtogdodlibkckkaaGreatDoorProg
import Derived.WalkKit
import Derived.WalkSpells
import Derived.WalkLawsBesides
namespace Go.Proofs.YtogdodlibkckkaaGreatDoor
set_option maxHeartbeats 20000000
set_option maxRecDepth 100000
open Go.RowKit Tryz
abbrev yG(w x:World):Prop:=Below w.heap.size w x
abbrev yF:=ByteArray
def Hi(p:Prop):Prop:=p
theorem Hi.o{p:Prop}(h:Hi p):p:=h
theorem wQ:∀(n:Nat),n<=n:=@Nat.le_refl
theorem wR:∀(B:Nat)(w:World),Below B w w:=@Below.refl
theorem wS:∀{α:Type}{l:List α}{i:Nat}(h:i<l.length),l[i]?=some l[i]:=@List.getElem?_eq_getElem
theorem wT:∀{α:Type}{l:List α}{i:Nat}{a:α},l[i]?=some a->a∈l:=@List.mem_of_getElem?
theorem wU:∀{α:Type}{i:Nat}{a:α}{l:List α},l[i]?=some a↔∃h:i<l.length,l[i]=a:=@List.getElem?_eq_some_iff
theorem wV:∀{n m k:Nat},n<=m->m<=k->n<=k:=@Nat.le_trans
theorem wW:∀(w:World)(a:Addr){u:Value},w.cell? a=some u->a.block<w.heap.size:=@World.block_lt_of_cell?
theorem wX:∀(w:World)(o:Obj),(w.alloc o).heap[w.heap.size]?=some o:=@heap_alloc_new
theorem wY:∀{p:Prop}[Decidable p],¬p->decide p=false:=@decide_eq_false
theorem wZ:∀(n:Nat),0<=n:=@Nat.zero_le
theorem xA:∀{n m k:Nat},n<m->m<=k->n<k:=@Nat.lt_of_lt_of_le
theorem xB:∀{α:Type}{i:Nat}{l:List α},l.length<=i->l.take i=l:=@List.take_of_length_le
theorem xC:∀(w:World)(a:Addr)(u:Value)(k:Nat),k≠a.block->(w.setCell a u).heap[k]?=w.heap[k]?:=@Below.heap_setCell
theorem xD:∀{α:Type}{a b:α},some a=some b->a=b:=@Option.some.inj
theorem xE:∀{α:Type}{l:List α},l.length=0->l=[]:=@List.eq_nil_of_length_eq_zero
theorem xF:∀(w:World)(base:Nat)(e:TypeId)(size:Nat),w.ownsRow base e size (.slice none 0 0) 0 []:=@World.ownsRow_nil
theorem xG:∀{c:Prop}{_:Decidable c},¬c->∀{α:Type}{t e:α},(if c then t else e)=e:=@if_neg
theorem xH:∀{c:Prop}{_:Decidable c},c->∀{α:Type}{t e:α},(if c then t else e)=t:=@if_pos
theorem xI:∀{α β:Type}{f:α->β}{l:List α}{i:Nat},(l.map f)[i]?=(l[i]?).map f:=@List.getElem?_map
theorem xJ:∀{α:Type}{a b:List α},(a++b).length=a.length+b.length:=@List.length_append
theorem xK:∀{p:Prop}[Decidable p],(decide p=true)=p:=@decide_eq_true_eq
theorem xL:∀{α:Type}{l:List α}{i:Nat},l.take (i+1)=l.take i++l[i]?.toList:=@List.take_add_one
theorem xM:∀{p:Prop}[Decidable p],p->decide p=true:=@decide_eq_true
theorem xN:∀{α:Type}{a b:List α}{n:Nat},n<a.length->(a++b)[n]?=a[n]?:=@List.getElem?_append_left
theorem xO:∀{α:Type}{a b:List α}{n:Nat},a.length<=n->(a++b)[n]?=b[n-a.length]?:=@List.getElem?_append_right
theorem xP:∀{α:Type}{p:α->Bool}{l:List α},l.all p=true↔∀x∈l,p x=true:=@List.all_eq_true
theorem xQ:∀(a b:Bool),((a&&b)=true)=(a=true/\b=true):=@Bool.and_eq_true
theorem xR:(false=true)=False:=@Bool.false_eq_true
theorem xS:∀(n:Nat),(n:Int).toNat=n:=@Int.toNat_natCast
theorem xT:∀{α β:Type}{l:List α}(f:α->β),(l.map f).length=l.length:=@List.length_map
theorem xU:∀{α:Type}{a:α}{l:List α},(a::l).length=l.length+1:=@List.length_cons
theorem xV:∀{α:Type}{xs:Array α}{i j:Nat},i≠j->∀{a:α},(xs.setIfInBounds i a)[j]?=xs[j]?:=@Array.getElem?_setIfInBounds_ne
theorem xW:∀{α:Type}{i:Nat}{l:List α},l.length<=i->l.drop i=[]:=@List.drop_of_length_le
theorem xX:∀{α:Type}{i:Nat}{l:List α}(h:i<l.length),l.drop i=l[i]::l.drop (i+1):=@List.drop_eq_getElem_cons
theorem xY:∀{α β:Type}{f:α->β}{a b:List α},(a++b).map f=a.map f++b.map f:=@List.map_append
theorem xZ:∀{a b:Prop},a->b->a/\b:=@And.intro
theorem yA:∀{α:Type}(y:α){a:α}{l:List α},a∈l->a∈y::l:=@List.mem_cons_of_mem
theorem yB:∀{α:Type}{a:α}{l:List α},a∈a::l:=@List.mem_cons_self
theorem yC:∀{α:Type}{b:α}{β:Type}{x:Option β}{f:β->α},x.map f=some b↔∃a,x=some a/\f a=b:=@Option.map_eq_some_iff
theorem yD:∀{α:Type}{a:α}{s t:List α},a∈s++t↔a∈s\/a∈t:=@List.mem_append
theorem yE:∀{α:Type}{b:α}{l:List α}{a:α},a∈b::l↔a=b\/a∈l:=@List.mem_cons
theorem Aa{p:Prop}(a:p):Hi p:=a
theorem uT(s:yF)(k:Nat)(a:k<s.size):s.data.toList.take (k+1)=s.data.toList.take k++[s[k]]:=by
 rw[List.take_succ_eq_append_getElem (by simpa using a)];rfl
theorem Uq(a b:UInt8):((a.toNat:Int)==(b.toNat:Int))=(a==b):=by
 rw[Bool.eq_iff_iff,beq_iff_eq,beq_iff_eq];constructor
 ·intro c;exact UInt8.toNat_inj.1 (by omega)
 ·intro c;rw[c]
theorem Al{a b:Bool}(c:a=b):Ending.returned (.bool a)=.returned (.bool b):=by rw[c]
theorem CN{k:IntKind}{a b:Int}(c:a=b):Ending.returned (.int k a)=.returned (.int k b):=by rw[c]
theorem EO(s:yF)(k:Nat)(a:k<s.size):s.data.toList.drop k=s[k]::s.data.toList.drop (k+1):=by
 rw[xX (by simpa using a)];rfl
def Ar(s:yF)(c:UInt8):Bool:=s.data.toList.contains c
theorem YY{α:Type}(p:α->Bool):∀(l:List α) (k:Nat),(∀x∈l.take k,p x=true)->k<=l.length->(∀x,l[k]?=some x->p x=false)->(l.takeWhile p).length=k
 |[],k,_,a,_=>by simp at a;simp[a]
 |x::l,0,_,_,b=>by have:=b x (by simp);simp[this]
 |x::l,k+1,d,a,b=>by
  have e:p x=true:=d x (by simp);rw[List.takeWhile_cons_of_pos e,xU,YY p l k (fun y c=>d y (by simp[c])) (by simpa using a) (fun y c=>b y (by simpa using c))]
theorem Vk(s:yF)(a k:Nat)(b:a+k<s.size):(s.data.toList.drop a)[k]?=some s[a+k]:=by
 rw[List.getElem?_drop,wS (by simpa using b)];rfl
def Av(s:List UInt8)(o:yF):Nat:=(s.takeWhile (Ar o)).length
theorem YE(s o:yF)(n k:Nat)(e:n+k<=s.size)(c:∀x∈(s.data.toList.drop n).take k,Ar o x=true)(d:∀b:n+k<s.size,Ar o s[n+k]=false):Av (s.data.toList.drop n) o=k:=by
 refine YY _ _ _ c (by simp;omega) ?_;intro x a;by_cases b:n+k<s.size
 ·rw[Vk s n k b]at a;cases a;exact d b
 ·rw[List.getElem?_eq_none (by simp;omega)]at a;cases a
theorem tI(s o:yF)(n k:Nat)(d:n+k<s.size)(b:∀x∈(s.data.toList.drop n).take k,Ar o x=true)(c:Ar o s[n+k]=true):∀x∈(s.data.toList.drop n).take (k+1),Ar o x=true:=by
 rw[xL,Vk s n k d];intro x a;rcases yD.1 a with a|a
 ·exact b x a
 ·simp at a;rw[a];exact c
def AP:yF:=⟨#[48,49,50,51,52,53,54,55,56,57]⟩
def DK:yF:=⟨#[97,98,99,100,101,102,103,104,105,106,107,108,109,110,111,112,113,114,115,116,117,118,119,120,121,122,65,66,67,68,69,70,71,72,73,74,75,76,77,78,79,80,81,82,83,84,85,86,87,88,89,90,95]⟩
def Bh:List UInt8->Int->Int
 |[],n=>n
 |c::l,n=>Bh l (10*n+((c.toNat:Int)-48))
def BJ(l:List UInt8):Option (Int×Nat):=
 let a:Nat:=if l.head?=some 45 then 1 else 0
 let k:=Av (l.drop a) AP
 let more:=Av (l.drop (a+k)) DK
 if k<1\/9<k\/0<more\/(1<k/\(l.drop a).head?=some 48)then none
 else some (if a=1 then-Bh ((l.drop a).take k) 0 else Bh ((l.drop a).take k) 0,a+k)
def Ca:Option (Int×Nat)->Value
 |none=>.tuple #[.agg #[.int .i64 0,.string ⟨#[]⟩,.int .i64 0],.int .i64 0]
 |some (n,k)=>.tuple #[.agg #[.int .i64 2,.string ⟨#[]⟩,.int .i64 n],.int .i64 k]
theorem PG(l:List UInt8)(c:UInt8)(n:Int):Bh (l++[c]) n=10*Bh l n+((c.toNat:Int)-48):=by
 induction l generalizing n with
 |nil=>rfl
 |cons a l b=>simp[Bh,b]
theorem Le(c:UInt8):Ar AP c=true↔48<=(c.toNat:Int)/\(c.toNat:Int)<=57:=by
 have a:∀i:Fin 256,Ar AP (UInt8.ofFin i)=decide (48<=i.val/\i.val<=57):=by decide+kernel
 have:=a c.toFin;rw[show UInt8.ofFin c.toFin=c from rfl]at this;rw[this];simp;constructor<;>intro a<;>constructor<;>have:=a.1<;>have:=a.2<;>omega
theorem PE(l:List UInt8)(a:∀c∈l,Ar AP c=true)(j:Nat)(d:l.length<=j):0<=Bh l 0/\Bh l 0<10^j:=by
 have key:∀(l:List UInt8) (n:Int),(∀c∈l,Ar AP c=true)->0<=n->0<=Bh l n/\Bh l n<(n+1)*10^l.length:=by
  intro l
  induction l with
  |nil=>intro n _ b;simp[Bh];omega
  |cons c l f=>
   intro n hd b;have h:=(Le c).1 (hd c (by simp));have:=f (10*n+((c.toNat:Int)-48)) (fun x e=>hd x (by simp[e])) (by omega);refine⟨this.1,Int.lt_of_lt_of_le this.2 ?_⟩;rw[xU,Int.pow_succ,Int.mul_comm (10^l.length) 10,<-Int.mul_assoc];exact Int.mul_le_mul_of_nonneg_right (by omega) (Int.pow_nonneg (by omega))
 have:=key l 0 a (by omega);refine⟨this.1,?_⟩;have g:(10:Int)^l.length<=10^j:=by exact_mod_cast Nat.pow_le_pow_right (by omega) d
 omega
theorem tJ(s:List UInt8)(o:yF):∀x∈s.take (Av s o),Ar o x=true:=by
 unfold Av;intro x b;have c:=(List.takeWhile_prefix (p:=Ar o) (l:=s));obtain⟨t,a⟩:=c;rw[<-a,List.take_left' (by rw[a])]at b;exact xP.1 (List.all_takeWhile (p:=Ar o) (l:=s)) x b
theorem Kv(s:List UInt8)(o:yF):Av s o<=s.length:=(List.takeWhile_prefix (p:=Ar o) (l:=s)).length_le
theorem OH(c:UInt8):((c.toNat:Int)==45)=decide (c=45):=by
 have:=Uq c 45;rw[show((45:UInt8).toNat:Int)=45 from rfl]at this;rw[this];rfl
theorem bY(c:UInt8):((c.toNat:Int)==48)=decide (c=48):=by
 have:=Uq c 48;rw[show((48:UInt8).toNat:Int)=48 from rfl]at this;rw[this];rfl
def Fk(d:UInt8):Option UInt8:=if d=34 then some 34 else if d=92 then some 92 else if d=110 then some 10 else if d=116 then some 9 else none
def Cm:List UInt8->List UInt8->Nat->Option (List UInt8×Nat)
 |[],_,_=>none
 |c::r,a,m=>
  if c=34 then some (a,m+1)
  else if c<32\/126<c then none
  else if c=92 then
   match r with
   |[]=>none
   |d::b=>match Fk d with
    |none=>none
    |some e=>Cm b (a++[e]) (m+2)
  else Cm r (a++[c]) (m+1)
def Gg:Option (List UInt8×Nat)->Value
 |none=>.tuple #[.agg #[.int .i64 0,.string ⟨#[]⟩,.int .i64 0],.int .i64 0]
 |some (l,k)=>.tuple #[.agg #[.int .i64 3,.string ⟨l.toArray⟩,.int .i64 0],.int .i64 k]
def CR(l:List UInt8):List Value:=l.map fun b=>Value.int .u8 (b.toNat:Int)
theorem Fa{c d:UInt8}(a:(c.toNat:Int)=(d.toNat:Int)):c=d:=UInt8.toNat_inj.1 (by omega)
theorem Ql(c d:UInt8):c<d↔(c.toNat:Int)<(d.toNat:Int):=by rw[UInt8.lt_iff_toNat_lt];omega
theorem Ky(c:UInt8)(r a:List UInt8)(m:Nat):Cm (c::r) a m=if c=34 then some (a,m+1)
 else if c<32\/126<c then none
 else if c=92 then
  match r with
  |[]=>none
  |d::b=>match Fk d with
   |none=>none
   |some e=>Cm b (a++[e]) (m+2)
 else Cm r (a++[c]) (m+1):=by cases r<;>rfl
theorem uF(s:yF)(k:Nat)(a:List UInt8)(m:Nat)(b:s.size<=k):Cm (s.data.toList.drop k) a m=none:=by
 rw[xW (by simp;exact b)];rfl
theorem uK(s:yF)(k:Nat)(a:List UInt8)(m:Nat)(b:k<s.size)(c:s[k]=34):Cm (s.data.toList.drop k) a m=some (a,m+1):=by
 rw[EO s k b,Ky,xH c]
theorem YW(s:yF)(k:Nat)(b:List UInt8)(m:Nat)(c:k<s.size)(a:s[k]<32\/126<s[k]):Cm (s.data.toList.drop k) b m=none:=by
 rw[EO s k c,Ky,xG (by intro e;rw[e]at a;revert a;decide),xH a]
theorem uG(s:yF)(k:Nat)(b:List UInt8)(m:Nat)(c:k<s.size)(a:s[k]=92)(d:s.size<=k+1):Cm (s.data.toList.drop k) b m=none:=by
 rw[EO s k c,Ky,xG (by rw[a];decide),xG (by rw[a];decide),xH a,xW (by simp;exact d)]
theorem YX(s:yF)(k:Nat)(b:List UInt8)(m:Nat)(c:k+1<s.size)(a:s[k]=92):Cm (s.data.toList.drop k) b m=match Fk s[k+1]with
 |none=>none
 |some e=>Cm (s.data.toList.drop (k+2)) (b++[e]) (m+2):=by
 rw[EO s k (by omega),Ky,xG (by rw[a];decide),xG (by rw[a];decide),xH a,EO s (k+1) c]
theorem uJ(s:yF)(k:Nat)(a:List UInt8)(m:Nat)(b:k<s.size)(c:¬s[k]=34)(d:¬(s[k]<32\/126<s[k]))(e:¬s[k]=92):Cm (s.data.toList.drop k) a m=Cm (s.data.toList.drop (k+1)) (a++[s[k]]) (m+1):=by
 rw[EO s k b,Ky,xG c,xG d,xG e]
theorem info5:(prog.info? 5).map (fun i=>(i.zero,i.size,i.bytes))=some (some (.int .u8 0),1,1):=by kernel_rfl
theorem Iz(w:World)(cs:Array Value)(j:Nat){T:TypeId}:(w.alloc (.cells cs T)).frozen? ⟨w.heap.size,j,none⟩=false:=by
 unfold World.frozen?;rw[wX w _];simp
theorem Nk(w:World)(base:Nat)(v:Value)(l:List UInt8)(a:w.ownsRow base 5 1 v l.length (CR l)):(convert 69 9 v).run prog w=.ok (.string ⟨l.toArray⟩) w:=by
 rcases a.2 with⟨rfl,b⟩|⟨g,cap,d,rfl,k,hb,e,f,h,i⟩
 ·have:l=[]:=xE b
  subst this;exact run_convert_bytes_nil _ 69 5 underlying69 underlying5 0 0 9 underlying9
 ·refine run_convert_bytes_back w 69 9 5 _ cap l underlying69 underlying5 underlying9 ?_
  intro j c;have:=a.cellAt j (by omega);rw[show(Addr.add ⟨g,0,none⟩ j)=⟨g,j,none⟩from by simp only[Addr.add,Nat.zero_add];split<;>simp_all,this];simp[CR,c]
structure Tk where
 k:Nat
 s:yF
 n:Int
def Hv:yF:=⟨#[32,9,13,10,44]⟩
def AL:yF:=⟨#[97,98,99,100,101,102,103,104,105,106,107,108,109,110,111,112,113,114,115,116,117,118,119,120,121,122,65,66,67,68,69,70,71,72,73,74,75,76,77,78,79,80,81,82,83,84,85,86,87,88,89,90,95,48,49,50,51,52,53,54,55,56,57]⟩
def Gx:yF:=⟨#[48,49,50,51,52,53,54,55,56,57,45]⟩
def Du:yF:=⟨#[33,36,40,41,58,61,64,91,93,123,125,124,38]⟩
def Az(l:List UInt8):yF:=⟨l.toArray⟩
def GJ:List UInt8->UInt8->Nat->Option Nat
 |[],_,_=>none
 |d::l,c,i=>if d=c then some i else GJ l c (i+1)
def Bm(l:List UInt8):Option (Tk×Nat):=
 match l with
 |[]=>none
 |c::r=>
  if Ar DK c=true then some (⟨1,Az ((c::r).take (Av (c::r) AL)),0⟩,Av (c::r) AL)
  else if Ar Gx c=true then(BJ (c::r)).map fun x=>(⟨2,⟨#[]⟩,x.1⟩,x.2)
  else if c=34 then(Cm r [] 1).map fun x=>(⟨3,Az x.1,0⟩,x.2)
  else if (c::r).take 3=[46,46,46]then some (⟨4,⟨#[]⟩,0⟩,3)
  else(GJ Du.data.toList c 5).map fun i=>(⟨i,⟨#[]⟩,0⟩,1)
def Ez:Nat->List UInt8->Option (List Tk)
 |0,_=>none
 |_+1,[]=>some []
 |f+1,c::r=>
  if Ar Hv c=true then Ez f r
  else if c=35 then Ez f (r.dropWhile (· !=10))
  else match Bm (c::r)with
   |none=>none
   |some x=>(Ez f ((c::r).drop x.2)).map (x.1:: ·)
def Bf(l:List UInt8):Option (List Tk):=Ez (l.length+1) l
theorem uE:∀(n:Nat) (l b:List UInt8) (m:Nat) (x:List UInt8×Nat),l.length<=n->Cm l b m=some x->m<x.2/\x.2<=m+l.length:=by
 intro n
 induction n with
 |zero=>intro l b m x f a;have:l=[]:=xE (by omega);subst this;cases a
 |succ n k=>
  intro l b m x f a
  match l with
  |[]=>cases a
  |c::r=>
   rw[Ky]at a;simp only[xU]at f⊢;by_cases g:c=34
   ·rw[xH g]at a;cases a;refine⟨?_,?_⟩<;>(simp only;omega)
   rw[xG g]at a;by_cases h:c<32\/126<c
   ·rw[xH h]at a;cases a
   rw[xG h]at a;by_cases i:c=92
   ·rw[xH i]at a
    match r with
    |[]=>cases a
    |d::p=>
     cases j:Fk d with
     |none=>simp[j]at a
     |some e=>simp only[j]at a;simp only[xU]at f⊢;have:=k p _ _ x (by omega) a;omega
   ·rw[xG i]at a;have:=k r _ _ x (by omega) a;omega
theorem oU(l:List UInt8)(x:Int×Nat)(a:BJ l=some x):0<x.2/\x.2<=l.length:=by
 unfold BJ at a;simp only at a;generalize (if l.head?=some 45 then 1 else 0)=b at a;have d:=Kv (l.drop b) AP;generalize Av (l.drop b) AP=k at a d;generalize Av (l.drop (b+k)) DK=m at a;by_cases c:k<1\/9<k\/0<m\/(1<k/\(l.drop b).head?=some 48)
 ·rw[xH c]at a;cases a
 ·rw[xG c]at a;cases a
  simp only[List.length_drop]at d;simp only;omega
theorem Pk(l:List UInt8)(x:Tk×Nat)(a:Bm l=some x):0<x.2/\x.2<=l.length:=by
 unfold Bm at a;split at a
 ·cases a
 ·rename_i c r
  by_cases d:Ar DK c=true
  ·rw[xH d]at a;cases a
   refine⟨?_,Kv _ _⟩;have:Ar AL c=true:=by
    have k:∀i:Fin 256,Ar DK (UInt8.ofFin i)=true->Ar AL (UInt8.ofFin i)=true:=by decide+kernel
    exact k c.toFin d
   simp[Av,this]
  rw[xG d]at a;by_cases f:Ar Gx c=true
  ·rw[xH f]at a
   cases b:BJ (c::r)with
   |none=>simp[b]at a
   |some y=>simp only[b,Option.map_some,Option.some.injEq]at a;subst a;exact oU _ _ b
  rw[xG f]at a;by_cases g:c=34
  ·rw[xH g]at a
   cases b:Cm r [] 1 with
   |none=>simp[b]at a
   |some y=>simp only[b,Option.map_some,Option.some.injEq]at a;subst a;have:=uE _ _ _ _ _ (wQ _) b;simp only[xU];omega
  rw[xG g]at a;by_cases e:(c::r).take 3=[46,46,46]
  ·rw[xH e]at a;cases a
   have:=congrArg List.length e;simp only[List.length_take,xU,List.length_nil]at this⊢;omega
  rw[xG e]at a;cases b:GJ Du.data.toList c 5 with
  |none=>simp[b]at a
  |some y=>simp only[b,Option.map_some,Option.some.injEq]at a;subst a;simp
theorem OO{α:Type}(p:α->Bool)(l:List α):(l.dropWhile p).length<=l.length:=(List.dropWhile_suffix p).length_le
theorem VY:∀(f g:Nat) (l:List UInt8),l.length<f->l.length<g->Ez f l=Ez g l:=by
 intro f
 induction f with
 |zero=>intro g l h;omega
 |succ f a=>
  intro g l b d
  match g,l with
  |0,_=>omega
  |g+1,[]=>rfl
  |g+1,c::r=>
   simp only[xU]at b d;simp only[Ez];rw[a g r (by omega) (by omega)];have i:=OO (· !=10) r;rw[a g (r.dropWhile (· !=10)) (by omega) (by omega)];cases e:Bm (c::r)with
   |none=>rfl
   |some x=>
    have:=Pk _ _ e;simp only;rw[a g ((c::r).drop x.2) (by simp;omega) (by simp;omega)]
theorem lZ:Bf []=some []:=rfl
theorem Ml(c:UInt8)(r:List UInt8)(a:Ar Hv c=true):Bf (c::r)=Bf r:=by
 unfold Bf;rw[xU,Ez,xH a]
theorem lX(r:List UInt8):Bf (35::r)=Bf (r.dropWhile (· !=10)):=by
 unfold Bf;rw[xU,Ez,xG (by decide),xH rfl];have a:=OO (· !=10) r;exact VY _ _ _ (by omega) (by omega)
theorem lR(c:UInt8)(r:List UInt8)(b:Ar Hv c=false)(d:¬c=35)(a:Bm (c::r)=none):Bf (c::r)=none:=by
 unfold Bf;rw[xU,Ez,xG (by simp[b]),xG d,a]
theorem mA(c:UInt8)(r:List UInt8)(x:Tk×Nat)(b:Ar Hv c=false)(d:¬c=35)(a:Bm (c::r)=some x):Bf (c::r)=(Bf ((c::r).drop x.2)).map (x.1:: ·):=by
 unfold Bf;rw[xU,Ez,xG (by simp[b]),xG d,a];have:=Pk _ _ a;simp only[xU]at this;simp only;rw[VY (r.length+1) (((c::r).drop x.2).length+1) _ (by simp;omega) (by omega)]
theorem jK(c:UInt8):Ar AL c=true↔(48<=(c.toNat:Int)/\(c.toNat:Int)<=57)\/(c.toNat:Int)=95\/(97<=(c.toNat:Int)/\(c.toNat:Int)<=122)\/(65<=(c.toNat:Int)/\(c.toNat:Int)<=90):=by
 have a:∀i:Fin 256,Ar AL (UInt8.ofFin i)=decide ((48<=i.val/\i.val<=57)\/i.val=95\/(97<=i.val/\i.val<=122)\/(65<=i.val/\i.val<=90)):=by decide+kernel
 have:=a c.toFin;rw[show UInt8.ofFin c.toFin=c from rfl]at this;rw[this];simp only[xK];show((48<=c.toNat/\c.toNat<=57)\/c.toNat=95\/(97<=c.toNat/\c.toNat<=122)\/(65<=c.toNat/\c.toNat<=90))↔_;omega
theorem Do(c:UInt8)(w:World):Calls prog 198 #[.int .u8 c.toNat] w fun e w'=>e=.returned (.bool (Ar AP c))/\w'=w:=by
 have hb:(c.toNat:Int)<=255:=by have:=c.toNat_lt;omega
 have hd:=Le c;have H:=Aa hd;clear hd;by_cases b:48<=(c.toNat:Int)
 ·by_cases d:(c.toNat:Int)<=57
  ·have E:=Aa (show Ar AP c=true from H.o.2 ⟨b,d⟩)
   go_enter func198,ntmps198
   go_wp2
   go_ret;exact⟨Al (by rw[E.o]<;>first|rfl|(simp;omega)),rfl⟩
  ·have E:=Aa (show Ar AP c=false from by cases a:Ar AP c;rfl;have:=H.o.1 a;omega)
   go_enter func198,ntmps198
   go_wp2
   go_ret;exact⟨Al (by rw[E.o]<;>first|rfl|(simp;omega)),rfl⟩
 ·have E:=Aa (show Ar AP c=false from by cases a:Ar AP c;rfl;have:=H.o.1 a;omega)
  go_enter func198,ntmps198
  go_wp2
  go_ret;exact⟨Al (by rw[E.o]<;>first|rfl|(simp;omega)),rfl⟩
theorem Kl(c:UInt8)(w:World):Calls prog 200 #[.int .u8 c.toNat] w fun e w'=>e=.returned (.bool (Ar AL c))/\w'=w:=by
 have hb:(c.toNat:Int)<=255:=by have:=c.toNat_lt;omega
 have H:=Aa (jK c);have D:=Aa (Le c);cases hd:Ar AP c
 ·have g:¬(48<=(c.toNat:Int)/\(c.toNat:Int)<=57):=fun h=>by rw[D.o.2 h]at hd;cases hd
  have d:=Aa g;clear g;cases f:((c.toNat:Int)==95)
  ·have n95:(c.toNat:Int)≠95:=by simpa using f
   have b:=Aa n95;clear n95;by_cases i:97<=(c.toNat:Int)
   ·by_cases k:(c.toNat:Int)<=122
    ·have E:=Aa (show Ar AL c=true from H.o.2 (Or.inr (Or.inr (Or.inl ⟨i,k⟩))))
     go_enter func200,ntmps200;go_wp2_with (go_at_call 198;refine(Do _ _).mono ?_;rintro e w' ⟨rfl,rfl⟩);go_ret;exact⟨Al (by rw[E.o]<;>first|rfl|(simp;omega)),rfl⟩
    ·have E:=Aa (show Ar AL c=false from by cases a:Ar AL c;rfl;have:=H.o.1 a;have:=d.o;have:=b.o;omega)
     go_enter func200,ntmps200;go_wp2_with (go_at_call 198;refine(Do _ _).mono ?_;rintro e w' ⟨rfl,rfl⟩);go_ret;exact⟨Al (by rw[E.o]<;>first|rfl|(simp;omega)),rfl⟩
   ·by_cases j:65<=(c.toNat:Int)
    ·by_cases l:(c.toNat:Int)<=90
     ·have E:=Aa (show Ar AL c=true from H.o.2 (Or.inr (Or.inr (Or.inr ⟨j,l⟩))))
      go_enter func200,ntmps200;go_wp2_with (go_at_call 198;refine(Do _ _).mono ?_;rintro e w' ⟨rfl,rfl⟩);go_ret;exact⟨Al (by rw[E.o]<;>first|rfl|(simp;omega)),rfl⟩
     ·have E:=Aa (show Ar AL c=false from by cases a:Ar AL c;rfl;have:=H.o.1 a;have:=d.o;have:=b.o;omega)
      go_enter func200,ntmps200;go_wp2_with (go_at_call 198;refine(Do _ _).mono ?_;rintro e w' ⟨rfl,rfl⟩);go_ret;exact⟨Al (by rw[E.o]<;>first|rfl|(simp;omega)),rfl⟩
    ·have E:=Aa (show Ar AL c=false from by cases a:Ar AL c;rfl;have:=H.o.1 a;have:=d.o;have:=b.o;omega)
     go_enter func200,ntmps200;go_wp2_with (go_at_call 198;refine(Do _ _).mono ?_;rintro e w' ⟨rfl,rfl⟩);go_ret;exact⟨Al (by rw[E.o]<;>first|rfl|(simp;omega)),rfl⟩
  ·have E:=Aa (show Ar AL c=true from H.o.2 (Or.inr (Or.inl (by simpa using f))))
   go_enter func200,ntmps200;go_wp2_with (go_at_call 198;refine(Do _ _).mono ?_;rintro e w' ⟨rfl,rfl⟩);go_ret;exact⟨Al (by rw[E.o]<;>first|rfl|(simp;omega)),rfl⟩
 ·have E:=Aa (show Ar AL c=true from H.o.2 (Or.inl (D.o.1 hd)))
  go_enter func200,ntmps200;go_wp2_with (go_at_call 198;refine(Do _ _).mono ?_;rintro e w' ⟨rfl,rfl⟩);go_ret;exact⟨Al (by rw[E.o]<;>first|rfl|(simp;omega)),rfl⟩
theorem Tn(s:yF)(w:World)(hs:s.size<=100000):
 Calls prog 201 #[.string s] w fun e w'=>e=.returned (.int .i64 (Av s.data.toList AL:Nat))/\w'=w:=by
 generalize f:Av s.data.toList AL=q;have b:=Aa f;clear f;go_enter func201,ntmps201;go_wp2;go_loop [3] (fun i=>∃k:Nat,k<=s.size/\i=.int .i64 k/\∀x∈(s.data.toList.drop 0).take k,Ar AL x=true) (fun i=>s.size-(intOf i).toNat)
 case atStart=>exact⟨0,by omega,rfl,by simp⟩
 case round=>
  obtain⟨k,h,rfl,c⟩:=hrel;have a:=Aa c;clear c;by_cases j:k<s.size
  ·cases d:Ar AL s[k]
   ·go_wp2_with (go_at_call 200;refine(Kl _ _).mono ?_;rintro e w' ⟨rfl,rfl⟩)
    go_ret;exact⟨CN (by rw[<-b.o];have:=YE s AL 0 k (by omega) a.o (fun _=>by simpa using d);rw[List.drop_zero]at this;rw[this]),rfl⟩
   ·go_wp2_with (go_at_call 200;refine(Kl _ _).mono ?_;rintro e w' ⟨rfl,rfl⟩)
    go_round
    case rel=>exact⟨k+1,by omega,by go_num,tI s AL 0 k (by omega) a.o (by simpa using d)⟩
    case measure=>simp[intOf];omega
  ·go_wp2
   go_ret;exact⟨CN (by rw[<-b.o];have:=YE s AL 0 k (by omega) a.o (fun g=>absurd g (by omega));rw[List.drop_zero]at this;rw[this]),rfl⟩
def UR:Option UInt8->Int
 |none=>0
 |some c=>c.toNat
def Gz(l:List UInt8):Option UInt8:=match l with
 |[]=>none
 |d::_=>Fk d
theorem US(s:yF)(w:World):
 Calls prog 240 #[.string s] w fun e w'=>e=.returned (.int .u8 (UR (Gz s.data.toList)))/\w'=w:=by
 generalize l:UR (Gz s.data.toList)=q;have b:=Aa l;clear l;by_cases k:0<s.size
 ·have c:=Aa (show Gz s.data.toList=Fk s[0]from by have:=EO s 0 k;rw[List.drop_zero]at this;rw[this];rfl)
  have n:s.toList.isEmpty=false:=by rw[ByteArray.toList_eq s];have:=EO s 0 k;rw[List.drop_zero]at this;rw[this];rfl
  cases h:((s[0].toNat:Int)==34)
  ·cases i:((s[0].toNat:Int)==92)
   ·cases f:((s[0].toNat:Int)==110)
    ·cases g:((s[0].toNat:Int)==116)
     ·have a:=Aa (show Fk s[0]=none by
       unfold Fk;rw[xG (by intro e;rw[e]at h;simp at h),xG (by intro e;rw[e]at i;simp at i),xG (by intro e;rw[e]at f;simp at f),xG (by intro e;rw[e]at g;simp at g)])
      go_enter func240,ntmps240
      go_wp2
      go_ret;exact⟨CN (by rw[<-b.o,c.o,a.o];rfl),rfl⟩
     ·have a:=Aa (show Fk s[0]=some 9 by rw[show s[0]=116 from Fa (by simpa using g)];rfl)
      go_enter func240,ntmps240
      go_wp2
      go_ret;exact⟨CN (by rw[<-b.o,c.o,a.o];rfl),rfl⟩
    ·have a:=Aa (show Fk s[0]=some 10 by rw[show s[0]=110 from Fa (by simpa using f)];rfl)
     go_enter func240,ntmps240
     go_wp2
     go_ret;exact⟨CN (by rw[<-b.o,c.o,a.o];rfl),rfl⟩
   ·have d:=Aa (show s[0]=92 from Fa (by simpa using i))
    have a:=Aa (show Fk s[0]=some s[0]by rw[d.o];rfl);go_enter func240,ntmps240
    go_wp2
    go_ret;exact⟨CN (by rw[<-b.o,c.o,a.o];rfl),rfl⟩
  ·have d:=Aa (show s[0]=34 from Fa (by simpa using h))
   have a:=Aa (show Fk s[0]=some s[0]by rw[d.o];rfl);go_enter func240,ntmps240
   go_wp2
   go_ret;exact⟨CN (by rw[<-b.o,c.o,a.o];rfl),rfl⟩
 ·have j:s.data.toList=[]:=xE (by show s.size=0;omega)
  have n:s.toList.isEmpty=true:=by rw[ByteArray.toList_eq s,j];rfl
  have m:=Aa j;clear j;go_enter func240,ntmps240
  go_wp2
  go_ret;exact⟨CN (by rw[<-b.o,m.o];rfl),rfl⟩
end Go.Proofs.YtogdodlibkckkaaGreatDoor
