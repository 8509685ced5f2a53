import Derived.Test.YtgbloieahmkcjaaGreatProg
import Derived.WalkKit
import Derived.WalkSpells
import Derived.WalkLawsBesides
namespace Go.Proofs.YtgbloieahmkcjaaGreat
set_option maxHeartbeats 20000000
set_option maxRecDepth 100000
open Go.RowKit Tryz
abbrev Lt(w x:World):Prop:=Below w.heap.size w x
abbrev Ls:=ByteArray
def Hi(p:Prop):Prop:=p
theorem Hi.o{p:Prop}(h:Hi p):p:=h
theorem KK:∀(n:Nat),n<=n:=@Nat.le_refl
theorem KL:∀(B:Nat)(w:World),Below B w w:=@Below.refl
theorem KM:∀{α:Type}{l:List α}{i:Nat}(h:i<l.length),l[i]?=some l[i]:=@List.getElem?_eq_getElem
theorem KN:∀{α:Type}{l:List α}{i:Nat}{a:α},l[i]?=some a->a∈l:=@List.mem_of_getElem?
theorem KO:∀{α:Type}{i:Nat}{a:α}{l:List α},l[i]?=some a↔∃h:i<l.length,l[i]=a:=@List.getElem?_eq_some_iff
theorem KP:∀{n m k:Nat},n<=m->m<=k->n<=k:=@Nat.le_trans
theorem KQ:∀(w:World)(a:Addr){u:Value},w.cell? a=some u->a.block<w.heap.size:=@World.block_lt_of_cell?
theorem KS:∀(w:World)(o:Obj),(w.alloc o).heap[w.heap.size]?=some o:=@heap_alloc_new
theorem KT:∀{p:Prop}[Decidable p],¬p->decide p=false:=@decide_eq_false
theorem KU:∀(n:Nat),0<=n:=@Nat.zero_le
theorem KV:∀{n m k:Nat},n<m->m<=k->n<k:=@Nat.lt_of_lt_of_le
theorem KW:∀{α:Type}{i:Nat}{l:List α},l.length<=i->l.take i=l:=@List.take_of_length_le
theorem KX:∀(w:World)(a:Addr)(u:Value)(k:Nat),k≠a.block->(w.setCell a u).heap[k]?=w.heap[k]?:=@Below.heap_setCell
theorem KY:∀{α:Type}{a b:α},some a=some b->a=b:=@Option.some.inj
theorem KZ:∀{α:Type}{l:List α},l.length=0->l=[]:=@List.eq_nil_of_length_eq_zero
theorem K7:∀(w:World)(base:Nat)(e:TypeId)(size:Nat),w.ownsRow base e size (.slice none 0 0) 0 []:=@World.ownsRow_nil
theorem K8:∀{c:Prop}{_:Decidable c},¬c->∀{α:Type}{t e:α},(if c then t else e)=e:=@if_neg
theorem K9:∀{c:Prop}{_:Decidable c},c->∀{α:Type}{t e:α},(if c then t else e)=t:=@if_pos
theorem La:∀{α β:Type}{f:α->β}{l:List α}{i:Nat},(l.map f)[i]?=(l[i]?).map f:=@List.getElem?_map
theorem Lb:∀{α:Type}{a b:List α},(a++b).length=a.length+b.length:=@List.length_append
theorem Lc:∀{p:Prop}[Decidable p],(decide p=true)=p:=@decide_eq_true_eq
theorem Ld:∀{α:Type}{l:List α}{i:Nat},l.take (i+1)=l.take i++l[i]?.toList:=@List.take_add_one
theorem Le:∀{p:Prop}[Decidable p],p->decide p=true:=@decide_eq_true
theorem Lf:∀{α:Type}{a b:List α}{n:Nat},n<a.length->(a++b)[n]?=a[n]?:=@List.getElem?_append_left
theorem Lg:∀{α:Type}{a b:List α}{n:Nat},a.length<=n->(a++b)[n]?=b[n-a.length]?:=@List.getElem?_append_right
theorem Lh:∀{α:Type}{p:α->Bool}{l:List α},l.all p=true↔∀x∈l,p x=true:=@List.all_eq_true
theorem Li:∀(a b:Bool),((a&&b)=true)=(a=true/\b=true):=@Bool.and_eq_true
theorem Lj:(false=true)=False:=@Bool.false_eq_true
theorem Lk:∀(n:Nat),(n:Int).toNat=n:=@Int.toNat_natCast
theorem Ll:∀{α β:Type}{l:List α}(f:α->β),(l.map f).length=l.length:=@List.length_map
theorem Lm:∀{α:Type}{a:α}{l:List α},(a::l).length=l.length+1:=@List.length_cons
theorem Ln:∀{α:Type}{xs:Array α}{i j:Nat},i≠j->∀{a:α},(xs.setIfInBounds i a)[j]?=xs[j]?:=@Array.getElem?_setIfInBounds_ne
theorem Lp:∀{α:Type}{i:Nat}{l:List α},l.length<=i->l.drop i=[]:=@List.drop_of_length_le
theorem Lq:∀{α:Type}{i:Nat}{l:List α}(h:i<l.length),l.drop i=l[i]::l.drop (i+1):=@List.drop_eq_getElem_cons
theorem Lr:∀{α β:Type}{f:α->β}{a b:List α},(a++b).map f=a.map f++b.map f:=@List.map_append
theorem aa{p:Prop}(h:p):Hi p:=h
theorem AL(s:Ls)(k:Nat)(h:k<s.size):s.data.toList.take (k+1)=s.data.toList.take k++[s[k]]:=by
 rw[List.take_succ_eq_append_getElem (by simpa using h)];rfl
theorem sA(a b:UInt8):((a.toNat:Int)==(b.toNat:Int))=(a==b):=by
 rw[Bool.eq_iff_iff,beq_iff_eq,beq_iff_eq];constructor
 ·intro h;exact UInt8.toNat_inj.1 (by omega)
 ·intro h;rw[h]
theorem am{a b:Bool}(h:a=b):Ending.returned (.bool a)=.returned (.bool b):=by rw[h]
theorem dx{k:IntKind}{a b:Int}(h:a=b):Ending.returned (.int k a)=.returned (.int k b):=by rw[h]
theorem eQ(s:Ls)(k:Nat)(h:k<s.size):s.data.toList.drop k=s[k]::s.data.toList.drop (k+1):=by
 rw[Lq (by simpa using h)];rfl
def aw(s:Ls)(c:UInt8):Bool:=s.data.toList.contains c
theorem dD(c:UInt8)(s:Ls)(w:World)(hs:s.size<=100000):
 Calls prog 62 #[.int .u8 c.toNat,.string s] w fun e w'=>e=.returned (.bool (aw s c))/\w'=w:=by
 generalize hq:aw s c=q;have HQ:Hi (s.data.toList.contains c=q):=hq;clear hq;go_enter func62,ntmps62
 go_wp2
 go_loop [5] (fun i=>∃k:Nat,k<=s.size/\i=.int .i64 k/\(s.data.toList.take k).contains c=false) (fun i=>s.size-(intOf i).toNat)
 case atStart=>exact⟨0,KU _,rfl,by simp⟩
 case round=>
  obtain⟨k,hk,rfl,hc⟩:=hrel;have HC:Hi ((s.data.toList.take k).contains c=false):=hc;clear hc;by_cases hlt:k<s.size
  ·have hts:=AL s k hlt
   have HT:Hi (s.data.toList.take (k+1)=s.data.toList.take k++[s[k]]):=hts;clear hts
   go_wp2
   ·go_ret
    have h:(↑s[k].toNat==(↑c.toNat:Int))=true:=by assumption
    rw[sA]at h;refine⟨am ?_,rfl⟩;rw[<-HQ.o];symm;rw[List.contains_iff_mem];have:=List.mem_of_mem_take (i:=k+1) (l:=s.data.toList) (a:=c) (by rw[HT.o];simp at h;simp[h]);exact this
   ·go_round
    case rel=>
     have h:(↑s[k].toNat==(↑c.toNat:Int))=false:=by assumption
     rw[sA]at h;exact⟨k+1,hlt,by go_num,by rw[HT.o,List.contains_append,HC.o];simp at h⊢;exact fun x=>h x.symm⟩
    case measure=>simp[intOf];omega
  ·go_wp2
   go_ret;refine⟨am ?_,rfl⟩;rw[<-HQ.o,<-HC.o,KW (by simp;omega)]
theorem zY{α:Type}(p:α->Bool):∀(l:List α) (k:Nat),(∀x∈l.take k,p x=true)->k<=l.length->(∀x,l[k]?=some x->p x=false)->(l.takeWhile p).length=k
 |[],k,_,h2,_=>by simp at h2;simp[h2]
 |x::l,0,_,_,h3=>by have:=h3 x (by simp);simp[this]
 |x::l,k+1,h1,h2,h3=>by
  have hx:p x=true:=h1 x (by simp);rw[List.takeWhile_cons_of_pos hx,Lm,zY p l k (fun y hy=>h1 y (by simp[hy])) (by simpa using h2) (fun y hy=>h3 y (by simpa using hy))]
theorem xj(s:Ls)(a k:Nat)(h:a+k<s.size):(s.data.toList.drop a)[k]?=some s[a+k]:=by
 rw[List.getElem?_drop,KM (by simpa using h)];rfl
def ay(s:List UInt8)(o:Ls):Nat:=(s.takeWhile (aw o)).length
theorem uC(s o:Ls)(n k:Nat)(h:n+k<=s.size)(h1:∀x∈(s.data.toList.drop n).take k,aw o x=true)(h2:∀hl:n+k<s.size,aw o s[n+k]=false):ay (s.data.toList.drop n) o=k:=by
 refine zY _ _ _ h1 (by simp;omega) ?_;intro x hx;by_cases hl:n+k<s.size
 ·rw[xj s n k hl]at hx;cases hx;exact h2 hl
 ·rw[List.getElem?_eq_none (by simp;omega)]at hx;cases hx
theorem xY(s o:Ls)(n k:Nat)(hl:n+k<s.size)(h1:∀x∈(s.data.toList.drop n).take k,aw o x=true)(h2:aw o s[n+k]=true):∀x∈(s.data.toList.drop n).take (k+1),aw o x=true:=by
 rw[Ld,xj s n k hl];intro x hx;rcases List.mem_append.1 hx with hx|hx
 ·exact h1 x hx
 ·simp at hx;rw[hx];exact h2
theorem EW(s o:Ls)(a:Int)(w:World)(h0:0<=a)(h1:a<=s.size)(hs:s.size<=100000)(ho:o.size<=100000):
 Calls prog 63 #[.string s,.int .i64 a,.string o] w fun e w'=>e=.returned (.int .i64 (ay (s.data.toList.drop a.toNat) o:Nat))/\w'=w:=by
 obtain⟨n,rfl⟩:=Int.eq_ofNat_of_zero_le h0;rw[Lk];generalize hq:ay (s.data.toList.drop n) o=q;have HQ:Hi (ay (s.data.toList.drop n) o=q):=hq;clear hq;go_enter func63,ntmps63;go_wp2_with fail;go_loop [7] (fun i=>∃k:Nat,n+k<=s.size/\i=.int .i64 k/\∀x∈(s.data.toList.drop n).take k,aw o x=true) (fun i=>s.size-(intOf i).toNat)
 case atStart=>exact⟨0,by omega,rfl,by simp⟩
 case round=>
  obtain⟨k,hk,rfl,hc⟩:=hrel;have HC:Hi (∀x∈(s.data.toList.drop n).take k,aw o x=true):=hc;clear hc;by_cases hlt:n+k<s.size
  ·cases hp:aw o s[n+k]
   ·go_wp2_with (go_at_call 62;refine(dD _ _ _ ho).mono ?_;rintro e w' ⟨rfl,rfl⟩)
    go_ret;exact⟨dx (by rw[<-HQ.o,uC s o n k hk HC.o (fun _=>hp)]),rfl⟩
   ·go_wp2_with (go_at_call 62;refine(dD _ _ _ ho).mono ?_;rintro e w' ⟨rfl,rfl⟩)
    go_round
    case rel=>exact⟨k+1,by omega,by go_num,xY s o n k hlt HC.o hp⟩
    case measure=>simp[intOf];omega
  ·go_wp2_with fail
   go_ret;exact⟨dx (by rw[<-HQ.o,uC s o n k hk HC.o (fun h=>absurd h hlt)]),rfl⟩
theorem pu(s o:Ls)(n:Nat)(a:Int)(w:World)(ha:a=n)(h1:n<=s.size)(hs:s.size<=100000)(ho:o.size<=100000):
 Calls prog 63 #[.string s,.int .i64 a,.string o] w fun e w'=>e=.returned (.int .i64 (ay (s.data.toList.drop n) o:Nat))/\w'=w:=by
 subst ha;exact EW s o n w (by omega) (by omega) hs ho
def bu:Ls:=⟨#[48,49,50,51,52,53,54,55,56,57]⟩
def dm:Ls:=⟨#[97,98,99,100,101,102,103,104,105,106,107,108,109,110,111,112,113,114,115,116,117,118,119,120,121,122,65,66,67,68,69,70,71,72,73,74,75,76,77,78,79,80,81,82,83,84,85,86,87,88,89,90,95]⟩
def bv:List UInt8->Int->Int
 |[],n=>n
 |c::l,n=>bv l (10*n+((c.toNat:Int)-48))
def ch(l:List UInt8):Option (Int×Nat):=
 let sg:Nat:=if l.head?=some 45 then 1 else 0
 let k:=ay (l.drop sg) bu
 let more:=ay (l.drop (sg+k)) dm
 if k<1\/9<k\/0<more\/(1<k/\(l.drop sg).head?=some 48)then none
 else some (if sg=1 then-bv ((l.drop sg).take k) 0 else bv ((l.drop sg).take k) 0,sg+k)
def bF:Option (Int×Nat)->Value
 |none=>.tuple #[.agg #[.int .i64 0,.string ⟨#[]⟩,.int .i64 0],.int .i64 0]
 |some (n,k)=>.tuple #[.agg #[.int .i64 2,.string ⟨#[]⟩,.int .i64 n],.int .i64 k]
theorem rj(l:List UInt8)(c:UInt8)(n:Int):bv (l++[c]) n=10*bv l n+((c.toNat:Int)-48):=by
 induction l generalizing n with
 |nil=>rfl
 |cons a l ih=>simp[bv,ih]
theorem nZ(c:UInt8):aw bu c=true↔48<=(c.toNat:Int)/\(c.toNat:Int)<=57:=by
 have h:∀i:Fin 256,aw bu (UInt8.ofFin i)=decide (48<=i.val/\i.val<=57):=by decide+kernel
 have:=h c.toFin;rw[show UInt8.ofFin c.toFin=c from rfl]at this;rw[this];simp;constructor<;>intro h<;>constructor<;>have:=h.1<;>have:=h.2<;>omega
theorem qT(l:List UInt8)(h:∀c∈l,aw bu c=true)(j:Nat)(hj:l.length<=j):0<=bv l 0/\bv l 0<10^j:=by
 have key:∀(l:List UInt8) (n:Int),(∀c∈l,aw bu c=true)->0<=n->0<=bv l n/\bv l n<(n+1)*10^l.length:=by
  intro l
  induction l with
  |nil=>intro n _ h0;simp[bv];omega
  |cons c l ih=>
   intro n hd h0;have hc:=(nZ c).1 (hd c (by simp));have:=ih (10*n+((c.toNat:Int)-48)) (fun x hx=>hd x (by simp[hx])) (by omega);refine⟨this.1,Int.lt_of_lt_of_le this.2 ?_⟩;rw[Lm,Int.pow_succ,Int.mul_comm (10^l.length) 10,<-Int.mul_assoc];exact Int.mul_le_mul_of_nonneg_right (by omega) (Int.pow_nonneg (by omega))
 have:=key l 0 h (by omega);refine⟨this.1,?_⟩;have h2:(10:Int)^l.length<=10^j:=by exact_mod_cast Nat.pow_le_pow_right (by omega) hj
 omega
theorem sJ(s:List UInt8)(o:Ls):∀x∈s.take (ay s o),aw o x=true:=by
 unfold ay;intro x hx;have h:=(List.takeWhile_prefix (p:=aw o) (l:=s));obtain⟨t,ht⟩:=h;rw[<-ht,List.take_left' (by rw[ht])]at hx;exact Lh.1 (List.all_takeWhile (p:=aw o) (l:=s)) x hx
theorem lK(s:List UInt8)(o:Ls):ay s o<=s.length:=(List.takeWhile_prefix (p:=aw o) (l:=s)).length_le
theorem A0(s:Ls)(n sg k m:Nat)(h:n<s.size)(hsg:sg=if s[n]=45 then 1 else 0)(hk:ay (s.data.toList.drop (n+sg)) bu=k)(hm:ay (s.data.toList.drop (n+sg+k)) dm=m):
 ch (s.data.toList.drop n)=if k<1\/9<k\/0<m\/(1<k/\(s.data.toList.drop (n+sg)).head?=some 48)then none else some (if sg=1 then-bv ((s.data.toList.drop (n+sg)).take k) 0 else bv ((s.data.toList.drop (n+sg)).take k) 0,sg+k):=by
 have e:(if (s.data.toList.drop n).head?=some 45 then 1 else 0)=sg:=by
  rw[hsg,eQ s n h];simp
 unfold ch;simp only[e,List.drop_drop,<-Nat.add_assoc,hk,hm]
theorem pS(c:UInt8):((c.toNat:Int)==45)=decide (c=45):=by
 have:=sA c 45;rw[show((45:UInt8).toNat:Int)=45 from rfl]at this;rw[this];rfl
theorem sl(c:UInt8):((c.toNat:Int)==48)=decide (c=48):=by
 have:=sA c 48;rw[show((48:UInt8).toNat:Int)=48 from rfl]at this;rw[this];rfl
theorem uA(s:Ls)(n j k:Nat)(h:n+j<s.size)(hj:j<k)(hT:∀x∈(s.data.toList.drop n).take k,aw bu x=true):48<=(s[n+j].toNat:Int)/\(s[n+j].toNat:Int)<=57/\bv ((s.data.toList.drop n).take (j+1)) 0=10*bv ((s.data.toList.drop n).take j) 0+((s[n+j].toNat:Int)-48):=by
 have e:(s.data.toList.drop n).take (j+1)=(s.data.toList.drop n).take j++[s[n+j]]:=by
  rw[Ld,xj s n j h];rfl
 have m:s[n+j]∈(s.data.toList.drop n).take k:=by
  have:s[n+j]∈(s.data.toList.drop n).take (j+1):=by rw[e];simp
  exact List.take_subset_take_left _ (by omega) this
 have:=(nZ _).1 (hT _ m);exact⟨this.1,this.2,by rw[e,rj]⟩
theorem tJ(s:Ls)(n j k:Nat)(hj:j<=k)(h9:k<=9)(hT:∀x∈(s.data.toList.drop n).take k,aw bu x=true):0<=bv ((s.data.toList.drop n).take j) 0/\bv ((s.data.toList.drop n).take j) 0<1000000000:=by
 have:=qT ((s.data.toList.drop n).take j) (fun c hc=>hT c (List.take_subset_take_left _ hj hc)) 9 (by have:=List.length_take_le j (s.data.toList.drop n);omega);exact this
theorem BV(s:Ls)(n:Nat)(w:World)(h:n<s.size)(hs:s.size<=100000):
 Calls prog 64 #[.string s,.int .i64 n] w fun e w'=>e=.returned (bF (ch (s.data.toList.drop n)))/\Lt w w':=by
 generalize hq:bF (ch (s.data.toList.drop n))=q;have HQ:Hi (bF (ch (s.data.toList.drop n))=q):=hq;clear hq;cases hsg:((s[n].toNat:Int)==45)
 ·go_enter func64,ntmps64
  go_wp2_with fail;refine(pu s bu n _ _ ?_ ?_ hs (by decide)).mono ?_
  ·omega
  ·omega
  rintro e w' ⟨rfl,rfl⟩;have hkl:=lK (s.data.toList.drop n) bu;have hkt:=sJ (s.data.toList.drop n) bu;rw[List.length_drop,Array.length_toList,show s.data.size=s.size from rfl]at hkl;generalize hk:ay (s.data.toList.drop n) bu=k at*;have HK:Hi (ay (s.data.toList.drop n) bu=k):=hk;have HT:Hi (∀x∈(s.data.toList.drop n).take k,aw bu x=true):=hkt;clear hk hkt;go_wp2_with fail;refine(pu s dm (n+k) _ _ ?_ ?_ hs (by decide)).mono ?_
  ·omega
  ·omega
  rintro e w' ⟨rfl,rfl⟩;generalize hm:ay (s.data.toList.drop (n+k)) dm=m;have HM:Hi (ay (s.data.toList.drop (n+k)) dm=m):=hm;clear hm;have hr:=A0 s n 0 k m h (by simpa [pS]using hsg) HK.o HM.o;simp only[Nat.add_zero]at hr;have HR:=aa hr;clear hr;by_cases c1:k<1
  ·go_wp2_with fail
   refine bodyPost_ret (v:=bF none) (by simp[results,results64,go_sem,bF]) rfl ⟨?_,(KL _ _).alloc (KK _) _⟩;rw[<-HQ.o,HR.o,K9 (Or.inl c1)]
  by_cases c2:9<k
  ·go_wp2_with fail
   refine bodyPost_ret (v:=bF none) (by simp[results,results64,go_sem,bF]) rfl ⟨?_,(KL _ _).alloc (KK _) _⟩;rw[<-HQ.o,HR.o,K9 (Or.inr (Or.inl c2))]
  by_cases c3:0<m
  ·go_wp2_with fail
   refine bodyPost_ret (v:=bF none) (by simp[results,results64,go_sem,bF]) rfl ⟨?_,(KL _ _).alloc (KK _) _⟩;rw[<-HQ.o,HR.o,K9 (Or.inr (Or.inr (Or.inl c3)))]
  by_cases c4:1<k
  ·cases hz:((s[n].toNat:Int)==48)
   ·have MA:¬(k<1\/9<k\/0<m\/(1<k/\(s.data.toList.drop n).head?=some 48)):=by
     rintro(x|x|x|⟨_,x⟩)
     ·exact c1 x
     ·exact c2 x
     ·exact c3 x
     ·rw[eQ s n (by omega)]at x;simp[sl]at hz x;exact hz x
    go_wp2_with fail;go_loop [9,10] (fun v i=>∃j:Nat,j<=k/\i=.int .i64 j/\v=.int .i64 (bv ((s.data.toList.drop n).take j) 0)) (fun _ i=>k-(intOf i).toNat)
    case atStart=>exact⟨0,KU _,rfl,rfl⟩
    case round=>
     obtain⟨j,hj,rfl,rfl⟩:=hrel;have hb:=tJ s n j k hj (by omega) HT.o;by_cases hlt:j<k
     ·have hd:=uA s n j k (by omega) hlt HT.o
      obtain⟨hd1,hd2,hd3⟩:=hd;have HD:Hi (bv ((s.data.toList.drop n).take (j+1)) 0=10*bv ((s.data.toList.drop n).take j) 0+((s[n+j].toNat:Int)-48)):=hd3;clear hd3;generalize hv:bv ((s.data.toList.drop n).take j) 0=v at*;clear hv;go_wp2_with fail
      go_round
      case rel=>exact⟨j+1,by omega,by go_num,by rw[HD.o]⟩
      case measure=>simp[intOf];omega
     ·have e:j=k:=by omega
      subst e;have HE:Hi (bF (ch (s.data.toList.drop n))=bF (some (bv ((s.data.toList.drop n).take j) 0,0+j))):=by
       show _=_;rw[HR.o,K8 MA];rw[K8 (by decide)]
      generalize hv:bv ((s.data.toList.drop n).take j) 0=v at*;clear hv;go_wp2_with fail;refine bodyPost_ret (v:=bF (some (v,0+j))) (by simp[results,results64,go_sem,bF]) rfl ⟨by rw[<-HQ.o,HE.o],((KL _ _).alloc (KK _) _)⟩
   ·go_wp2_with fail
    refine bodyPost_ret (v:=bF none) (by simp[results,results64,go_sem,bF]) rfl ⟨?_,(KL _ _).alloc (KK _) _⟩;rw[<-HQ.o,HR.o,K9 (Or.inr (Or.inr (Or.inr ⟨c4,by rw[eQ s n (by omega)];simpa [sl]using hz⟩)))]
  ·have MA:¬(k<1\/9<k\/0<m\/(1<k/\(s.data.toList.drop n).head?=some 48)):=by
    rintro(x|x|x|⟨x,_⟩)
    ·exact c1 x
    ·exact c2 x
    ·exact c3 x
    ·exact c4 x
   go_wp2_with fail;go_loop [9,10] (fun v i=>∃j:Nat,j<=k/\i=.int .i64 j/\v=.int .i64 (bv ((s.data.toList.drop n).take j) 0)) (fun _ i=>k-(intOf i).toNat)
   case atStart=>exact⟨0,KU _,rfl,rfl⟩
   case round=>
    obtain⟨j,hj,rfl,rfl⟩:=hrel;have hb:=tJ s n j k hj (by omega) HT.o;by_cases hlt:j<k
    ·have hd:=uA s n j k (by omega) hlt HT.o
     obtain⟨hd1,hd2,hd3⟩:=hd;have HD:Hi (bv ((s.data.toList.drop n).take (j+1)) 0=10*bv ((s.data.toList.drop n).take j) 0+((s[n+j].toNat:Int)-48)):=hd3;clear hd3;generalize hv:bv ((s.data.toList.drop n).take j) 0=v at*;clear hv;go_wp2_with fail
     go_round
     case rel=>exact⟨j+1,by omega,by go_num,by rw[HD.o]⟩
     case measure=>simp[intOf];omega
    ·have e:j=k:=by omega
     subst e;have HE:Hi (bF (ch (s.data.toList.drop n))=bF (some (bv ((s.data.toList.drop n).take j) 0,0+j))):=by
      show _=_;rw[HR.o,K8 MA];rw[K8 (by decide)]
     generalize hv:bv ((s.data.toList.drop n).take j) 0=v at*;clear hv;go_wp2_with fail;refine bodyPost_ret (v:=bF (some (v,0+j))) (by simp[results,results64,go_sem,bF]) rfl ⟨by rw[<-HQ.o,HE.o],((KL _ _).alloc (KK _) _)⟩
 ·have h1:n+1<=s.size:=h
  go_enter func64,ntmps64;go_wp2_with fail;refine(pu s bu (n+1) _ _ ?_ ?_ hs (by decide)).mono ?_
  ·omega
  ·omega
  rintro e w' ⟨rfl,rfl⟩;have hkl:=lK (s.data.toList.drop (n+1)) bu;have hkt:=sJ (s.data.toList.drop (n+1)) bu;rw[List.length_drop,Array.length_toList,show s.data.size=s.size from rfl]at hkl;generalize hk:ay (s.data.toList.drop (n+1)) bu=k at*;have HK:Hi (ay (s.data.toList.drop (n+1)) bu=k):=hk;have HT:Hi (∀x∈(s.data.toList.drop (n+1)).take k,aw bu x=true):=hkt;clear hk hkt;go_wp2_with fail;refine(pu s dm ((n+1)+k) _ _ ?_ ?_ hs (by decide)).mono ?_
  ·omega
  ·omega
  rintro e w' ⟨rfl,rfl⟩;generalize hm:ay (s.data.toList.drop ((n+1)+k)) dm=m;have HM:Hi (ay (s.data.toList.drop ((n+1)+k)) dm=m):=hm;clear hm;have HR:=aa (A0 s n 1 k m h (by simpa [pS]using hsg) HK.o HM.o);by_cases c1:k<1
  ·go_wp2_with fail
   refine bodyPost_ret (v:=bF none) (by simp[results,results64,go_sem,bF]) rfl ⟨?_,(KL _ _).alloc (KK _) _⟩;rw[<-HQ.o,HR.o,K9 (Or.inl c1)]
  by_cases c2:9<k
  ·go_wp2_with fail
   refine bodyPost_ret (v:=bF none) (by simp[results,results64,go_sem,bF]) rfl ⟨?_,(KL _ _).alloc (KK _) _⟩;rw[<-HQ.o,HR.o,K9 (Or.inr (Or.inl c2))]
  by_cases c3:0<m
  ·go_wp2_with fail
   refine bodyPost_ret (v:=bF none) (by simp[results,results64,go_sem,bF]) rfl ⟨?_,(KL _ _).alloc (KK _) _⟩;rw[<-HQ.o,HR.o,K9 (Or.inr (Or.inr (Or.inl c3)))]
  by_cases c4:1<k
  ·cases hz:((s[(n+1)].toNat:Int)==48)
   ·have MA:¬(k<1\/9<k\/0<m\/(1<k/\(s.data.toList.drop (n+1)).head?=some 48)):=by
     rintro(x|x|x|⟨_,x⟩)
     ·exact c1 x
     ·exact c2 x
     ·exact c3 x
     ·rw[eQ s (n+1) (by omega)]at x;simp[sl]at hz x;exact hz x
    go_wp2_with fail;go_loop [9,10] (fun v i=>∃j:Nat,j<=k/\i=.int .i64 j/\v=.int .i64 (bv ((s.data.toList.drop (n+1)).take j) 0)) (fun _ i=>k-(intOf i).toNat)
    case atStart=>exact⟨0,KU _,rfl,rfl⟩
    case round=>
     obtain⟨j,hj,rfl,rfl⟩:=hrel;have hb:=tJ s (n+1) j k hj (by omega) HT.o;by_cases hlt:j<k
     ·have hd:=uA s (n+1) j k (by omega) hlt HT.o
      obtain⟨hd1,hd2,hd3⟩:=hd;have HD:Hi (bv ((s.data.toList.drop (n+1)).take (j+1)) 0=10*bv ((s.data.toList.drop (n+1)).take j) 0+((s[(n+1)+j].toNat:Int)-48)):=hd3;clear hd3;generalize hv:bv ((s.data.toList.drop (n+1)).take j) 0=v at*;clear hv;go_wp2_with fail
      go_round
      case rel=>exact⟨j+1,by omega,by go_num,by rw[HD.o]⟩
      case measure=>simp[intOf];omega
     ·have e:j=k:=by omega
      subst e;have HE:Hi (bF (ch (s.data.toList.drop n))=bF (some (-bv ((s.data.toList.drop (n+1)).take j) 0,1+j))):=by
       show _=_;rw[HR.o,K8 MA];rw[K9 trivial]
      generalize hv:bv ((s.data.toList.drop (n+1)).take j) 0=v at*;clear hv;go_wp2_with fail;refine bodyPost_ret (v:=bF (some (-v,1+j))) (by simp[results,results64,go_sem,bF]) rfl ⟨by rw[<-HQ.o,HE.o],((KL _ _).alloc (KK _) _)⟩
   ·go_wp2_with fail
    refine bodyPost_ret (v:=bF none) (by simp[results,results64,go_sem,bF]) rfl ⟨?_,(KL _ _).alloc (KK _) _⟩;rw[<-HQ.o,HR.o,K9 (Or.inr (Or.inr (Or.inr ⟨c4,by rw[eQ s (n+1) (by omega)];simpa [sl]using hz⟩)))]
  ·have MA:¬(k<1\/9<k\/0<m\/(1<k/\(s.data.toList.drop (n+1)).head?=some 48)):=by
    rintro(x|x|x|⟨x,_⟩)
    ·exact c1 x
    ·exact c2 x
    ·exact c3 x
    ·exact c4 x
   go_wp2_with fail;go_loop [9,10] (fun v i=>∃j:Nat,j<=k/\i=.int .i64 j/\v=.int .i64 (bv ((s.data.toList.drop (n+1)).take j) 0)) (fun _ i=>k-(intOf i).toNat)
   case atStart=>exact⟨0,KU _,rfl,rfl⟩
   case round=>
    obtain⟨j,hj,rfl,rfl⟩:=hrel;have hb:=tJ s (n+1) j k hj (by omega) HT.o;by_cases hlt:j<k
    ·have hd:=uA s (n+1) j k (by omega) hlt HT.o
     obtain⟨hd1,hd2,hd3⟩:=hd;have HD:Hi (bv ((s.data.toList.drop (n+1)).take (j+1)) 0=10*bv ((s.data.toList.drop (n+1)).take j) 0+((s[(n+1)+j].toNat:Int)-48)):=hd3;clear hd3;generalize hv:bv ((s.data.toList.drop (n+1)).take j) 0=v at*;clear hv;go_wp2_with fail
     go_round
     case rel=>exact⟨j+1,by omega,by go_num,by rw[HD.o]⟩
     case measure=>simp[intOf];omega
    ·have e:j=k:=by omega
     subst e;have HE:Hi (bF (ch (s.data.toList.drop n))=bF (some (-bv ((s.data.toList.drop (n+1)).take j) 0,1+j))):=by
      show _=_;rw[HR.o,K8 MA];rw[K9 trivial]
     generalize hv:bv ((s.data.toList.drop (n+1)).take j) 0=v at*;clear hv;go_wp2_with fail;refine bodyPost_ret (v:=bF (some (-v,1+j))) (by simp[results,results64,go_sem,bF]) rfl ⟨by rw[<-HQ.o,HE.o],((KL _ _).alloc (KK _) _)⟩
def iA(d:UInt8):Option UInt8:=if d=34 then some 34 else if d=92 then some 92 else if d=110 then some 10 else if d=116 then some 9 else none
def cj:List UInt8->List UInt8->Nat->Option (List UInt8×Nat)
 |[],_,_=>none
 |c::r,acc,m=>
  if c=34 then some (acc,m+1)
  else if c<32\/126<c then none
  else if c=92 then
   match r with
   |[]=>none
   |d::r'=>match iA d with
    |none=>none
    |some e=>cj r' (acc++[e]) (m+2)
  else cj r (acc++[c]) (m+1)
def eJ:Option (List UInt8×Nat)->Value
 |none=>.tuple #[.agg #[.int .i64 0,.string ⟨#[]⟩,.int .i64 0],.int .i64 0]
 |some (l,k)=>.tuple #[.agg #[.int .i64 3,.string ⟨l.toArray⟩,.int .i64 0],.int .i64 k]
def lC(l:List UInt8):List Value:=l.map fun b=>Value.int .u8 (b.toNat:Int)
theorem fp{c d:UInt8}(h:(c.toNat:Int)=(d.toNat:Int)):c=d:=UInt8.toNat_inj.1 (by omega)
theorem oo(c d:UInt8):c<d↔(c.toNat:Int)<(d.toNat:Int):=by rw[UInt8.lt_iff_toNat_lt];omega
theorem pw(c:UInt8)(r acc:List UInt8)(m:Nat):cj (c::r) acc m=if c=34 then some (acc,m+1)
 else if c<32\/126<c then none
 else if c=92 then
  match r with
  |[]=>none
  |d::r'=>match iA d with
   |none=>none
   |some e=>cj r' (acc++[e]) (m+2)
 else cj r (acc++[c]) (m+1):=by cases r<;>rfl
theorem yE(s:Ls)(k:Nat)(acc:List UInt8)(m:Nat)(h:s.size<=k):cj (s.data.toList.drop k) acc m=none:=by
 rw[Lp (by simp;exact h)];rfl
theorem Cg(s:Ls)(k:Nat)(acc:List UInt8)(m:Nat)(h:k<s.size)(hc:s[k]=34):cj (s.data.toList.drop k) acc m=some (acc,m+1):=by
 rw[eQ s k h,pw,K9 hc]
theorem tZ(s:Ls)(k:Nat)(acc:List UInt8)(m:Nat)(h:k<s.size)(hc:s[k]<32\/126<s[k]):cj (s.data.toList.drop k) acc m=none:=by
 rw[eQ s k h,pw,K8 (by intro e;rw[e]at hc;revert hc;decide),K9 hc]
theorem Cy(s:Ls)(k:Nat)(acc:List UInt8)(m:Nat)(h:k<s.size)(hc:s[k]=92)(hk:s.size<=k+1):cj (s.data.toList.drop k) acc m=none:=by
 rw[eQ s k h,pw,K8 (by rw[hc];decide),K8 (by rw[hc];decide),K9 hc,Lp (by simp;exact hk)]
theorem vJ(s:Ls)(k:Nat)(acc:List UInt8)(m:Nat)(h:k+1<s.size)(hc:s[k]=92):cj (s.data.toList.drop k) acc m=match iA s[k+1]with
 |none=>none
 |some e=>cj (s.data.toList.drop (k+2)) (acc++[e]) (m+2):=by
 rw[eQ s k (by omega),pw,K8 (by rw[hc];decide),K8 (by rw[hc];decide),K9 hc,eQ s (k+1) h]
theorem Ba(s:Ls)(k:Nat)(acc:List UInt8)(m:Nat)(h:k<s.size)(h1:¬s[k]=34)(h2:¬(s[k]<32\/126<s[k]))(h3:¬s[k]=92):cj (s.data.toList.drop k) acc m=cj (s.data.toList.drop (k+1)) (acc++[s[k]]) (m+1):=by
 rw[eQ s k h,pw,K8 h1,K8 h2,K8 h3]
theorem info5:(prog.info? 5).map (fun i=>(i.zero,i.size,i.bytes))=some (some (.int .u8 0),1,1):=by kernel_rfl
def dq:Obj:=.cells #[.int .i64 0,.string ⟨#[]⟩,.int .i64 0] 137
theorem jg(w:World)(cs:Array Value)(j:Nat){T:TypeId}:(w.alloc (.cells cs T)).frozen? ⟨w.heap.size,j,none⟩=false:=by
 unfold World.frozen?;rw[KS w _];simp
theorem xE(w:World)(base:Nat)(v:Value)(l:List UInt8)(h:w.ownsRow base 5 1 v l.length (lC l)):(convert 81 9 v).run prog w=.ok (.string ⟨l.toArray⟩) w:=by
 rcases h.2 with⟨rfl,h0⟩|⟨g,cap,cur,rfl,hg,hb,h1,h2,h3,h4⟩
 ·have:l=[]:=KZ h0
  subst this;exact run_convert_bytes_nil _ 81 5 underlying81 underlying5 0 0 9 underlying9
 ·refine run_convert_bytes_back w 81 9 5 _ cap l underlying81 underlying5 underlying9 ?_
  intro j hj;have:=h.cellAt j (by omega);rw[show(Addr.add ⟨g,0,none⟩ j)=⟨g,j,none⟩from by simp only[Addr.add,Nat.zero_add];split<;>simp_all,this];simp[lC,hj]
theorem yh(s:Ls)(n:Nat)(w:World)(h:n<s.size)(hs:s.size<=100000):
 Calls prog 65 #[.string s,.int .i64 n] w fun e w'=>e=.returned (eJ (cj (s.data.toList.drop (n+1)) [] 1))/\Lt w w':=by
 generalize hq:eJ (cj (s.data.toList.drop (n+1)) [] 1)=q;have HQ:=aa hq;clear hq;obtain⟨i0,hi,hz0,hz1,hz2⟩:=info_parts info5;go_enter func65,ntmps65;go_wp2_with fail
 go_loopw [6,7] (fun v i wr=>∃(k:Nat) (acc:List UInt8),n+1<=k/\k<=s.size/\i=.int .i64 k/\wr.ownsRow (w.heap.size+1) 5 1 v acc.length (lC acc)/\acc.length<=k/\Below (w.heap.size+1) (w.alloc dq) wr/\cj (s.data.toList.drop (n+1)) [] 1=cj (s.data.toList.drop k) acc (k-n)) (fun _ i _=>s.size-(intOf i).toNat)
 case atStart=>exact⟨n+1,[],by omega,by omega,by go_num,K7 _ _ _ _,by simp,KL _ _,by simp⟩
 case round=>
  obtain⟨k,acc,hk1,hk2,rfl,LJ,hacc,LN,hrr⟩:=hrel;have HR:=aa hrr;clear hrr;have LQ:∀j,wr.cell? ⟨w.heap.size,j,none⟩=(w.alloc dq).cell? ⟨w.heap.size,j,none⟩:=fun j=>LN.cell (by simp);have hfroz:∀j,wr.frozen? ⟨w.heap.size,j,none⟩=false:=fun j=>by rw[LN.frozen (by simp)];exact jg w _ j
  have hc0:wr.cell? ⟨w.heap.size,0,none⟩=some (.int .i64 0):=by rw[LQ];simp[dq]
  have hc1:wr.cell? ⟨w.heap.size,1,none⟩=some (.string ⟨#[]⟩):=by rw[LQ];simp[dq]
  have hc2:wr.cell? ⟨w.heap.size,2,none⟩=some (.int .i64 0):=by rw[LQ];simp[dq]
  clear LQ;have LP:Lt w wr:=((KL _ _).alloc (KK _) _).trans (LN.mono (by omega));have ME:∀x y z,Lt w (((wr.setCell ⟨w.heap.size,0,none⟩ x).setCell ⟨w.heap.size,1,none⟩ y).setCell ⟨w.heap.size,2,none⟩ z):=fun x y z=>((LP.setCell (KK _) x).setCell (KK _) y).setCell (KK _) z;have MM:w.heap.size+1<=wr.heap.size:=by have:=LN.size;simp at this;omega
  by_cases hlt:k<s.size
  ·have hx0:0<=(s[k].toNat:Int):=by omega
   have hx1:(s[k].toNat:Int)<=255:=by have:=s[k].toNat_lt;omega
   cases h34:((s[k].toNat:Int)==34)
   ·have n34:¬s[k]=34:=by intro e;rw[e]at h34;simp at h34
    by_cases hlo:(s[k].toNat:Int)<32
    ·go_wp2_with fail
     refine bodyPost_ret (v:=eJ none) (by simp[results,results65,go_sem,eJ,hc0,hc1,hc2]) rfl ⟨by rw[<-HQ.o,HR.o,tZ s k _ _ hlt (Or.inl ((oo _ _).2 hlo))],ME _ _ _⟩
    by_cases hhi:126<(s[k].toNat:Int)
    ·go_wp2_with fail
     refine bodyPost_ret (v:=eJ none) (by simp[results,results65,go_sem,eJ,hc0,hc1,hc2]) rfl ⟨by rw[<-HQ.o,HR.o,tZ s k _ _ hlt (Or.inr ((oo _ _).2 hhi))],ME _ _ _⟩
    have nbad:¬(s[k]<32\/126<s[k]):=by
     rintro(x|x)
     ·exact hlo ((oo _ _).1 x)
     ·exact hhi ((oo _ _).1 x)
    cases h92:((s[k].toNat:Int)==92)
    ·have n92:¬s[k]=92:=by intro e;rw[e]at h92;simp at h92
     have HP:=aa (Ba s k acc (k-n) hlt n34 nbad n92);clear n34 n92 nbad;have HN:=aa (HP.o);go_wp2_with (at_builtin;refine wpList_append_own _ rfl _ _ 81 rfl (w.heap.size+1) 5 i0 (.int .u8 0) 1 1 underlying81 hi hz0 hz1 hz2 rfl (by decide) _ _ _ rfl (LJ.alloc _) ⟨wr.heap.size,0,none⟩ 1 1 [.int .u8 ↑s[k].toNat] rfl rfl (cell_one_new _ _ _) (fun u hu=>by simp at hu;subst hu;rfl) (by unfold maxLen;omega) (by omega) (by simp;omega) ?_;intro v' w1 hown' hgrow _);have L6:Below (w.heap.size+1) (w.alloc dq) w1:=Below.grown (LN.alloc (by omega) _) hgrow (by simp;omega) (fun k hk=>(LJ.lt k hk).1)
     go_roundw
     case rel=>exact⟨k+1,acc++[_],by omega,by omega,by go_num,by simpa [lC]using hown',by simp;omega,L6,by rw[HR.o,HN.o];congr 1;omega⟩
     case measure=>simp[intOf];omega
    ·have e92:s[k]=92:=fp (by simpa using h92)
     have E92:=aa e92;clear e92 n34 nbad;by_cases hk3:s.size<=k+1
     ·go_wp2_with fail
      refine bodyPost_ret (v:=eJ none) (by simp[results,results65,go_sem,eJ,hc0,hc1,hc2]) rfl ⟨by rw[<-HQ.o,HR.o,Cy s k _ _ hlt E92.o hk3],ME _ _ _⟩
     have hk4:k+1<s.size:=by omega
     have HE:=aa (vJ s k acc (k-n) hk4 E92.o);cases g34:((s[k+1].toNat:Int)==34)
     ·cases g92:((s[k+1].toNat:Int)==92)
      ·cases g110:((s[k+1].toNat:Int)==110)
       ·cases g116:((s[k+1].toNat:Int)==116)
        ·have hes:iA s[k+1]=none:=by
          unfold iA;rw[K8 (by intro e;rw[e]at g34;simp at g34),K8 (by intro e;rw[e]at g92;simp at g92),K8 (by intro e;rw[e]at g110;simp at g110),K8 (by intro e;rw[e]at g116;simp at g116)]
         have HS:=aa hes;clear hes;go_wp2_with fail;refine bodyPost_ret (v:=eJ none) (by simp[results,results65,go_sem,eJ,hc0,hc1,hc2]) rfl ⟨by rw[<-HQ.o,HR.o,HE.o,HS.o],ME _ _ _⟩
        ·have HS:=aa (show iA s[k+1]=some 9 by rw[show s[k+1]=116 from fp (by simpa using g116)];rfl)
         have HP:=aa (show cj (s.data.toList.drop k) acc (k-n)=cj (s.data.toList.drop (k+2)) (acc++[9]) (k-n+2)by rw[HE.o,HS.o]);have HN:=aa (HP.o);go_wp2_with (at_builtin;refine wpList_append_own _ rfl _ _ 81 rfl (w.heap.size+1) 5 i0 (.int .u8 0) 1 1 underlying81 hi hz0 hz1 hz2 rfl (by decide) _ _ _ rfl (LJ.alloc _) ⟨wr.heap.size,0,none⟩ 1 1 [.int .u8 9] rfl rfl (cell_one_new _ _ _) (fun u hu=>by simp at hu;subst hu;rfl) (by unfold maxLen;omega) (by omega) (by simp;omega) ?_;intro v' w1 hown' hgrow _);have L6:Below (w.heap.size+1) (w.alloc dq) w1:=Below.grown (LN.alloc (by omega) _) hgrow (by simp;omega) (fun k hk=>(LJ.lt k hk).1)
         go_roundw
         case rel=>exact⟨k+2,acc++[9],by omega,by omega,by go_num,by simpa [lC]using hown',by simp;omega,L6,by rw[HR.o,HN.o];congr 1;omega⟩
         case measure=>simp[intOf];omega
       ·have HS:=aa (show iA s[k+1]=some 10 by rw[show s[k+1]=110 from fp (by simpa using g110)];rfl)
        have HP:=aa (show cj (s.data.toList.drop k) acc (k-n)=cj (s.data.toList.drop (k+2)) (acc++[10]) (k-n+2)by rw[HE.o,HS.o]);have HN:=aa (HP.o);go_wp2_with (at_builtin;refine wpList_append_own _ rfl _ _ 81 rfl (w.heap.size+1) 5 i0 (.int .u8 0) 1 1 underlying81 hi hz0 hz1 hz2 rfl (by decide) _ _ _ rfl (LJ.alloc _) ⟨wr.heap.size,0,none⟩ 1 1 [.int .u8 10] rfl rfl (cell_one_new _ _ _) (fun u hu=>by simp at hu;subst hu;rfl) (by unfold maxLen;omega) (by omega) (by simp;omega) ?_;intro v' w1 hown' hgrow _);have L6:Below (w.heap.size+1) (w.alloc dq) w1:=Below.grown (LN.alloc (by omega) _) hgrow (by simp;omega) (fun k hk=>(LJ.lt k hk).1)
        go_roundw
        case rel=>exact⟨k+2,acc++[10],by omega,by omega,by go_num,by simpa [lC]using hown',by simp;omega,L6,by rw[HR.o,HN.o];congr 1;omega⟩
        case measure=>simp[intOf];omega
      ·have e2:=aa (show s[k+1]=92 from fp (by simpa using g92))
       have HS:=aa (show iA s[k+1]=some s[k+1]by rw[e2.o];rfl);have HP:=aa (show cj (s.data.toList.drop k) acc (k-n)=cj (s.data.toList.drop (k+2)) (acc++[s[k+1]]) (k-n+2)by rw[HE.o,HS.o]);have HN:=aa (HP.o);go_wp2_with (at_builtin;refine wpList_append_own _ rfl _ _ 81 rfl (w.heap.size+1) 5 i0 (.int .u8 0) 1 1 underlying81 hi hz0 hz1 hz2 rfl (by decide) _ _ _ rfl (LJ.alloc _) ⟨wr.heap.size,0,none⟩ 1 1 [.int .u8 ↑s[k+1].toNat] rfl rfl (cell_one_new _ _ _) (fun u hu=>by simp at hu;subst hu;rfl) (by unfold maxLen;omega) (by omega) (by simp;omega) ?_;intro v' w1 hown' hgrow _);have L6:Below (w.heap.size+1) (w.alloc dq) w1:=Below.grown (LN.alloc (by omega) _) hgrow (by simp;omega) (fun k hk=>(LJ.lt k hk).1)
       go_roundw
       case rel=>exact⟨k+2,acc++[_],by omega,by omega,by go_num,by simpa [lC]using hown',by simp;omega,L6,by rw[HR.o,HN.o];congr 1;omega⟩
       case measure=>simp[intOf];omega
     ·have e2:=aa (show s[k+1]=34 from fp (by simpa using g34))
      have HS:=aa (show iA s[k+1]=some s[k+1]by rw[e2.o];rfl);have HP:=aa (show cj (s.data.toList.drop k) acc (k-n)=cj (s.data.toList.drop (k+2)) (acc++[s[k+1]]) (k-n+2)by rw[HE.o,HS.o]);have HN:=aa (HP.o);go_wp2_with (at_builtin;refine wpList_append_own _ rfl _ _ 81 rfl (w.heap.size+1) 5 i0 (.int .u8 0) 1 1 underlying81 hi hz0 hz1 hz2 rfl (by decide) _ _ _ rfl (LJ.alloc _) ⟨wr.heap.size,0,none⟩ 1 1 [.int .u8 ↑s[k+1].toNat] rfl rfl (cell_one_new _ _ _) (fun u hu=>by simp at hu;subst hu;rfl) (by unfold maxLen;omega) (by omega) (by simp;omega) ?_;intro v' w1 hown' hgrow _);have L6:Below (w.heap.size+1) (w.alloc dq) w1:=Below.grown (LN.alloc (by omega) _) hgrow (by simp;omega) (fun k hk=>(LJ.lt k hk).1)
      go_roundw
      case rel=>exact⟨k+2,acc++[_],by omega,by omega,by go_num,by simpa [lC]using hown',by simp;omega,L6,by rw[HR.o,HN.o];congr 1;omega⟩
      case measure=>simp[intOf];omega
   ·have HE:=aa (Cg s k acc (k-n) hlt (fp (by simpa using h34)))
    have hconv:=xE wr _ _ acc LJ;go_wp2_with fail;refine bodyPost_ret (v:=eJ (some (acc,k-n+1))) (by simp[results,results65,go_sem,eJ,hc0,hc1,hc2];omega) rfl ⟨by rw[<-HQ.o,HR.o,HE.o],ME _ _ _⟩
  ·go_wp2_with fail
   refine bodyPost_ret (v:=eJ none) (by simp[results,results65,go_sem,eJ,hc0,hc1,hc2]) rfl ⟨by rw[<-HQ.o,HR.o,yE s k _ _ (by omega)],ME _ _ _⟩
structure Tk where
 k:Nat
 s:Ls
 n:Int
def eZ:Ls:=⟨#[32,9,13,10,44]⟩
def bm:Ls:=⟨#[97,98,99,100,101,102,103,104,105,106,107,108,109,110,111,112,113,114,115,116,117,118,119,120,121,122,65,66,67,68,69,70,71,72,73,74,75,76,77,78,79,80,81,82,83,84,85,86,87,88,89,90,95,48,49,50,51,52,53,54,55,56,57]⟩
def fK:Ls:=⟨#[48,49,50,51,52,53,54,55,56,57,45]⟩
def dB:Ls:=⟨#[33,36,40,41,58,61,64,91,93,123,125,124,38]⟩
def aE(l:List UInt8):Ls:=⟨l.toArray⟩
def kH:List UInt8->UInt8->Nat->Option Nat
 |[],_,_=>none
 |d::l,c,i=>if d=c then some i else kH l c (i+1)
def cG(l:List UInt8):Option (Tk×Nat):=
 match l with
 |[]=>none
 |c::r=>
  if aw dm c=true then some (⟨1,aE ((c::r).take (ay (c::r) bm)),0⟩,ay (c::r) bm)
  else if aw fK c=true then(ch (c::r)).map fun x=>(⟨2,⟨#[]⟩,x.1⟩,x.2)
  else if c=34 then(cj r [] 1).map fun x=>(⟨3,aE x.1,0⟩,x.2)
  else if (c::r).take 3=[46,46,46]then some (⟨4,⟨#[]⟩,0⟩,3)
  else(kH dB.data.toList c 5).map fun i=>(⟨i,⟨#[]⟩,0⟩,1)
def js:Nat->List UInt8->Option (List Tk)
 |0,_=>none
 |_+1,[]=>some []
 |f+1,c::r=>
  if aw eZ c=true then js f r
  else if c=35 then js f (r.dropWhile (· !=10))
  else match cG (c::r)with
   |none=>none
   |some x=>(js f ((c::r).drop x.2)).map (x.1:: ·)
def bG(l:List UInt8):Option (List Tk):=js (l.length+1) l
theorem AW:∀(n:Nat) (l acc:List UInt8) (m:Nat) (x:List UInt8×Nat),l.length<=n->cj l acc m=some x->m<x.2/\x.2<=m+l.length:=by
 intro n
 induction n with
 |zero=>intro l acc m x hl h;have:l=[]:=KZ (by omega);subst this;cases h
 |succ n ih=>
  intro l acc m x hl h
  match l with
  |[]=>cases h
  |c::r=>
   rw[pw]at h;simp only[Lm]at hl⊢;by_cases h1:c=34
   ·rw[K9 h1]at h;cases h;refine⟨?_,?_⟩<;>(simp only;omega)
   rw[K8 h1]at h;by_cases h2:c<32\/126<c
   ·rw[K9 h2]at h;cases h
   rw[K8 h2]at h;by_cases h3:c=92
   ·rw[K9 h3]at h
    match r with
    |[]=>cases h
    |d::r'=>
     cases he:iA d with
     |none=>simp[he]at h
     |some e=>simp only[he]at h;simp only[Lm]at hl⊢;have:=ih r' _ _ x (by omega) h;omega
   ·rw[K8 h3]at h;have:=ih r _ _ x (by omega) h;omega
theorem ze(l:List UInt8)(x:Int×Nat)(h:ch l=some x):0<x.2/\x.2<=l.length:=by
 unfold ch at h;simp only at h;generalize (if l.head?=some 45 then 1 else 0)=sg at h;have hk:=lK (l.drop sg) bu;generalize ay (l.drop sg) bu=k at h hk;generalize ay (l.drop (sg+k)) dm=m at h;by_cases hc:k<1\/9<k\/0<m\/(1<k/\(l.drop sg).head?=some 48)
 ·rw[K9 hc]at h;cases h
 ·rw[K8 hc]at h;cases h
  simp only[List.length_drop]at hk;simp only;omega
theorem rK(l:List UInt8)(x:Tk×Nat)(h:cG l=some x):0<x.2/\x.2<=l.length:=by
 unfold cG at h;split at h
 ·cases h
 ·rename_i c r
  by_cases h1:aw dm c=true
  ·rw[K9 h1]at h;cases h
   refine⟨?_,lK _ _⟩;have:aw bm c=true:=by
    have k:∀i:Fin 256,aw dm (UInt8.ofFin i)=true->aw bm (UInt8.ofFin i)=true:=by decide+kernel
    exact k c.toFin h1
   simp[ay,this]
  rw[K8 h1]at h;by_cases h2:aw fK c=true
  ·rw[K9 h2]at h
   cases hn:ch (c::r)with
   |none=>simp[hn]at h
   |some y=>simp only[hn,Option.map_some,Option.some.injEq]at h;subst h;exact ze _ _ hn
  rw[K8 h2]at h;by_cases h3:c=34
  ·rw[K9 h3]at h
   cases hn:cj r [] 1 with
   |none=>simp[hn]at h
   |some y=>simp only[hn,Option.map_some,Option.some.injEq]at h;subst h;have:=AW _ _ _ _ _ (KK _) hn;simp only[Lm];omega
  rw[K8 h3]at h;by_cases h4:(c::r).take 3=[46,46,46]
  ·rw[K9 h4]at h;cases h
   have:=congrArg List.length h4;simp only[List.length_take,Lm,List.length_nil]at this⊢;omega
  rw[K8 h4]at h;cases hn:kH dB.data.toList c 5 with
  |none=>simp[hn]at h
  |some y=>simp only[hn,Option.map_some,Option.some.injEq]at h;subst h;simp
theorem sG{α:Type}(p:α->Bool)(l:List α):(l.dropWhile p).length<=l.length:=(List.dropWhile_suffix p).length_le
theorem zb:∀(f g:Nat) (l:List UInt8),l.length<f->l.length<g->js f l=js g l:=by
 intro f
 induction f with
 |zero=>intro g l h;omega
 |succ f ih=>
  intro g l hf hg
  match g,l with
  |0,_=>omega
  |g+1,[]=>rfl
  |g+1,c::r=>
   simp only[Lm]at hf hg;simp only[js];rw[ih g r (by omega) (by omega)];have h2:=sG (· !=10) r;rw[ih g (r.dropWhile (· !=10)) (by omega) (by omega)];cases hx:cG (c::r)with
   |none=>rfl
   |some x=>
    have:=rK _ _ hx;simp only;rw[ih g ((c::r).drop x.2) (by simp;omega) (by simp;omega)]
theorem OC:bG []=some []:=rfl
theorem oX(c:UInt8)(r:List UInt8)(h:aw eZ c=true):bG (c::r)=bG r:=by
 unfold bG;rw[Lm,js,K9 h]
theorem BN(r:List UInt8):bG (35::r)=bG (r.dropWhile (· !=10)):=by
 unfold bG;rw[Lm,js,K8 (by decide),K9 rfl];have h2:=sG (· !=10) r;exact zb _ _ _ (by omega) (by omega)
theorem EM(c:UInt8)(r:List UInt8)(h1:aw eZ c=false)(h2:¬c=35)(h:cG (c::r)=none):bG (c::r)=none:=by
 unfold bG;rw[Lm,js,K8 (by simp[h1]),K8 h2,h]
theorem Fx(c:UInt8)(r:List UInt8)(x:Tk×Nat)(h1:aw eZ c=false)(h2:¬c=35)(h:cG (c::r)=some x):bG (c::r)=(bG ((c::r).drop x.2)).map (x.1:: ·):=by
 unfold bG;rw[Lm,js,K8 (by simp[h1]),K8 h2,h];have:=rK _ _ h;simp only[Lm]at this;simp only;rw[zb (r.length+1) (((c::r).drop x.2).length+1) _ (by simp;omega) (by omega)]
theorem Iw(c:UInt8):aw bm c=true↔(48<=(c.toNat:Int)/\(c.toNat:Int)<=57)\/(c.toNat:Int)=95\/(97<=(c.toNat:Int)/\(c.toNat:Int)<=122)\/(65<=(c.toNat:Int)/\(c.toNat:Int)<=90):=by
 have h:∀i:Fin 256,aw bm (UInt8.ofFin i)=decide ((48<=i.val/\i.val<=57)\/i.val=95\/(97<=i.val/\i.val<=122)\/(65<=i.val/\i.val<=90)):=by decide+kernel
 have:=h c.toFin;rw[show UInt8.ofFin c.toFin=c from rfl]at this;rw[this];simp only[Lc];show((48<=c.toNat/\c.toNat<=57)\/c.toNat=95\/(97<=c.toNat/\c.toNat<=122)\/(65<=c.toNat/\c.toNat<=90))↔_;omega
theorem fC(c:UInt8)(w:World):Calls prog 158 #[.int .u8 c.toNat] w fun e w'=>e=.returned (.bool (aw bu c))/\w'=w:=by
 have hb:(c.toNat:Int)<=255:=by have:=c.toNat_lt;omega
 have hd:=nZ c;have H:=aa hd;clear hd;by_cases h1:48<=(c.toNat:Int)
 ·by_cases h2:(c.toNat:Int)<=57
  ·have E:=aa (show aw bu c=true from H.o.2 ⟨h1,h2⟩)
   go_enter func158,ntmps158
   go_wp2
   go_ret;exact⟨am (by rw[E.o]<;>first|rfl|(simp;omega)),rfl⟩
  ·have E:=aa (show aw bu c=false from by cases hx:aw bu c;rfl;have:=H.o.1 hx;omega)
   go_enter func158,ntmps158
   go_wp2
   go_ret;exact⟨am (by rw[E.o]<;>first|rfl|(simp;omega)),rfl⟩
 ·have E:=aa (show aw bu c=false from by cases hx:aw bu c;rfl;have:=H.o.1 hx;omega)
  go_enter func158,ntmps158
  go_wp2
  go_ret;exact⟨am (by rw[E.o]<;>first|rfl|(simp;omega)),rfl⟩
theorem ob(c:UInt8)(w:World):Calls prog 160 #[.int .u8 c.toNat] w fun e w'=>e=.returned (.bool (aw bm c))/\w'=w:=by
 have hb:(c.toNat:Int)<=255:=by have:=c.toNat_lt;omega
 have H:=aa (Iw c);have D:=aa (nZ c);cases hd:aw bu c
 ·have nd:¬(48<=(c.toNat:Int)/\(c.toNat:Int)<=57):=fun h=>by rw[D.o.2 h]at hd;cases hd
  have ND:=aa nd;clear nd;cases h95:((c.toNat:Int)==95)
  ·have n95:(c.toNat:Int)≠95:=by simpa using h95
   have N95:=aa n95;clear n95;by_cases ha:97<=(c.toNat:Int)
   ·by_cases hz:(c.toNat:Int)<=122
    ·have E:=aa (show aw bm c=true from H.o.2 (Or.inr (Or.inr (Or.inl ⟨ha,hz⟩))))
     go_enter func160,ntmps160;go_wp2_with (go_at_call 158;refine(fC _ _).mono ?_;rintro e w' ⟨rfl,rfl⟩);go_ret;exact⟨am (by rw[E.o]<;>first|rfl|(simp;omega)),rfl⟩
    ·have E:=aa (show aw bm c=false from by cases hx:aw bm c;rfl;have:=H.o.1 hx;have:=ND.o;have:=N95.o;omega)
     go_enter func160,ntmps160;go_wp2_with (go_at_call 158;refine(fC _ _).mono ?_;rintro e w' ⟨rfl,rfl⟩);go_ret;exact⟨am (by rw[E.o]<;>first|rfl|(simp;omega)),rfl⟩
   ·by_cases ha2:65<=(c.toNat:Int)
    ·by_cases hz2:(c.toNat:Int)<=90
     ·have E:=aa (show aw bm c=true from H.o.2 (Or.inr (Or.inr (Or.inr ⟨ha2,hz2⟩))))
      go_enter func160,ntmps160;go_wp2_with (go_at_call 158;refine(fC _ _).mono ?_;rintro e w' ⟨rfl,rfl⟩);go_ret;exact⟨am (by rw[E.o]<;>first|rfl|(simp;omega)),rfl⟩
     ·have E:=aa (show aw bm c=false from by cases hx:aw bm c;rfl;have:=H.o.1 hx;have:=ND.o;have:=N95.o;omega)
      go_enter func160,ntmps160;go_wp2_with (go_at_call 158;refine(fC _ _).mono ?_;rintro e w' ⟨rfl,rfl⟩);go_ret;exact⟨am (by rw[E.o]<;>first|rfl|(simp;omega)),rfl⟩
    ·have E:=aa (show aw bm c=false from by cases hx:aw bm c;rfl;have:=H.o.1 hx;have:=ND.o;have:=N95.o;omega)
     go_enter func160,ntmps160;go_wp2_with (go_at_call 158;refine(fC _ _).mono ?_;rintro e w' ⟨rfl,rfl⟩);go_ret;exact⟨am (by rw[E.o]<;>first|rfl|(simp;omega)),rfl⟩
  ·have E:=aa (show aw bm c=true from H.o.2 (Or.inr (Or.inl (by simpa using h95))))
   go_enter func160,ntmps160;go_wp2_with (go_at_call 158;refine(fC _ _).mono ?_;rintro e w' ⟨rfl,rfl⟩);go_ret;exact⟨am (by rw[E.o]<;>first|rfl|(simp;omega)),rfl⟩
 ·have E:=aa (show aw bm c=true from H.o.2 (Or.inl (D.o.1 hd)))
  go_enter func160,ntmps160;go_wp2_with (go_at_call 158;refine(fC _ _).mono ?_;rintro e w' ⟨rfl,rfl⟩);go_ret;exact⟨am (by rw[E.o]<;>first|rfl|(simp;omega)),rfl⟩
theorem wE(s:Ls)(w:World)(hs:s.size<=100000):
 Calls prog 161 #[.string s] w fun e w'=>e=.returned (.int .i64 (ay s.data.toList bm:Nat))/\w'=w:=by
 generalize hq:ay s.data.toList bm=q;have HQ:=aa hq;clear hq;go_enter func161,ntmps161;go_wp2_with fail;go_loop [3] (fun i=>∃k:Nat,k<=s.size/\i=.int .i64 k/\∀x∈(s.data.toList.drop 0).take k,aw bm x=true) (fun i=>s.size-(intOf i).toNat)
 case atStart=>exact⟨0,by omega,rfl,by simp⟩
 case round=>
  obtain⟨k,hk,rfl,hc⟩:=hrel;have HC:=aa hc;clear hc;by_cases hlt:k<s.size
  ·cases hp:aw bm s[k]
   ·go_wp2_with (go_at_call 160;refine(ob _ _).mono ?_;rintro e w' ⟨rfl,rfl⟩)
    go_ret;exact⟨dx (by rw[<-HQ.o];have:=uC s bm 0 k (by omega) HC.o (fun _=>by simpa using hp);rw[List.drop_zero]at this;rw[this]),rfl⟩
   ·go_wp2_with (go_at_call 160;refine(ob _ _).mono ?_;rintro e w' ⟨rfl,rfl⟩)
    go_round
    case rel=>exact⟨k+1,by omega,by go_num,xY s bm 0 k (by omega) HC.o (by simpa using hp)⟩
    case measure=>simp[intOf];omega
  ·go_wp2_with fail
   go_ret;exact⟨dx (by rw[<-HQ.o];have:=uC s bm 0 k (by omega) HC.o (fun h=>absurd h (by omega));rw[List.drop_zero]at this;rw[this]),rfl⟩
def x8:Option UInt8->Int
 |none=>0
 |some c=>c.toNat
def kF(l:List UInt8):Option UInt8:=match l with
 |[]=>none
 |d::_=>iA d
theorem Au(s:Ls)(w:World):
 Calls prog 192 #[.string s] w fun e w'=>e=.returned (.int .u8 (x8 (kF s.data.toList)))/\w'=w:=by
 generalize hq:x8 (kF s.data.toList)=q;have HQ:=aa hq;clear hq;by_cases h0:0<s.size
 ·have HE:=aa (show kF s.data.toList=iA s[0]from by have:=eQ s 0 h0;rw[List.drop_zero]at this;rw[this];rfl)
  have hne:s.toList.isEmpty=false:=by rw[ByteArray.toList_eq s];have:=eQ s 0 h0;rw[List.drop_zero]at this;rw[this];rfl
  cases g34:((s[0].toNat:Int)==34)
  ·cases g92:((s[0].toNat:Int)==92)
   ·cases g110:((s[0].toNat:Int)==110)
    ·cases g116:((s[0].toNat:Int)==116)
     ·have HS:=aa (show iA s[0]=none by
       unfold iA;rw[K8 (by intro e;rw[e]at g34;simp at g34),K8 (by intro e;rw[e]at g92;simp at g92),K8 (by intro e;rw[e]at g110;simp at g110),K8 (by intro e;rw[e]at g116;simp at g116)])
      go_enter func192,ntmps192
      go_wp2
      go_ret;exact⟨dx (by rw[<-HQ.o,HE.o,HS.o];rfl),rfl⟩
     ·have HS:=aa (show iA s[0]=some 9 by rw[show s[0]=116 from fp (by simpa using g116)];rfl)
      go_enter func192,ntmps192
      go_wp2
      go_ret;exact⟨dx (by rw[<-HQ.o,HE.o,HS.o];rfl),rfl⟩
    ·have HS:=aa (show iA s[0]=some 10 by rw[show s[0]=110 from fp (by simpa using g110)];rfl)
     go_enter func192,ntmps192
     go_wp2
     go_ret;exact⟨dx (by rw[<-HQ.o,HE.o,HS.o];rfl),rfl⟩
   ·have e2:=aa (show s[0]=92 from fp (by simpa using g92))
    have HS:=aa (show iA s[0]=some s[0]by rw[e2.o];rfl);go_enter func192,ntmps192
    go_wp2
    go_ret;exact⟨dx (by rw[<-HQ.o,HE.o,HS.o];rfl),rfl⟩
  ·have e2:=aa (show s[0]=34 from fp (by simpa using g34))
   have HS:=aa (show iA s[0]=some s[0]by rw[e2.o];rfl);go_enter func192,ntmps192
   go_wp2
   go_ret;exact⟨dx (by rw[<-HQ.o,HE.o,HS.o];rfl),rfl⟩
 ·have hl:s.data.toList=[]:=KZ (by show s.size=0;omega)
  have hne:s.toList.isEmpty=true:=by rw[ByteArray.toList_eq s,hl];rfl
  have HL:=aa hl;clear hl;go_enter func192,ntmps192
  go_wp2
  go_ret;exact⟨dx (by rw[<-HQ.o,HL.o];rfl),rfl⟩
end Go.Proofs.YtgbloieahmkcjaaGreat
