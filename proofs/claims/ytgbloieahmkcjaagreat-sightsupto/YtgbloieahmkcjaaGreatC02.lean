import Derived.Test.YtgbloieahmkcjaaGreatC01
import Derived.Lib.Strings
namespace Go.Proofs.YtgbloieahmkcjaaGreat
set_option maxHeartbeats 20000000
set_option maxRecDepth 100000
open Go.RowKit Tryz
def rk(k:Nat):Nat:=if k<=3 then k else 4
def rs(t:Tk):Ls:=if t.k<=3 then t.s else if t.k=4 then⟨#[46,46,46]⟩else aE [dB.data.toList.getD (t.k-5) 0]
def kP(t:Tk):List Value:=[.int .i64 (rk t.k),.string (rs t),.int .i64 t.n]
def eF(ts:List Tk):List Value:=ts.flatMap kP
def av(s:Ls):Option (List Tk):=if 4000<s.size then none else match bG s.data.toList with
 |none=>none
 |some ts=>if ts.length<=800 then some ts else none
theorem sU{w w':World}{base:Nat}{e:TypeId}{size:Nat}{v:Value}{n:Nat}{xs:List Value}(h:w.ownsRow base e size v n xs)(hk:∀k,v.ownBlock=some k->k<w.heap.size->w'.heap[k]?=w.heap[k]?):w'.ownsRow base e size v n xs:=by
 refine⟨h.1,?_⟩;rcases h.2 with x|⟨g,cap,cur,hv,hg,hh,r⟩
 ·exact Or.inl x
 ·have hlt:g<w.heap.size:=by
   rcases Nat.lt_or_ge g w.heap.size with a|a
   ·exact a
   ·rw[Array.getElem?_eq_none a]at hh;cases hh
  exact Or.inr ⟨g,cap,cur,hv,hg,by rw[hk g (by rw[hv];rfl) hlt];exact hh,r⟩
theorem bZ{w w':World}{base:Nat}{e:TypeId}{size:Nat}{v:Value}{n:Nat}{xs:List Value}(h:w.ownsRow base e size v n xs)(hb:Lt w w'):w'.ownsRow base e size v n xs:=
 sU h fun k _ hk=>hb.block k hk
theorem iJ{w:World}{base base':Nat}{e:TypeId}{size:Nat}{v:Value}{n:Nat}{xs:List Value}(h:w.ownsRow base e size v n xs)(hb:base'<=base):w.ownsRow base' e size v n xs:=by
 refine⟨h.1,?_⟩;rcases h.2 with x|⟨g,cap,cur,hv,hg,r⟩
 ·exact Or.inl x
 ·exact Or.inr ⟨g,cap,cur,hv,by omega,r⟩
theorem GZ(w:World)(l:List Value)(T:TypeId):∀j u,l[j]?=some u->(w.alloc (.cells l.toArray T)).cell? ((⟨w.heap.size,0,none⟩:Addr).add j)=some u:=by
 intro j u h;have e:(⟨w.heap.size,0,none⟩:Addr).add j=⟨w.heap.size,j,none⟩:=by simp only[Addr.add,Nat.zero_add];split<;>simp_all
 rw[e];unfold World.cell?;rw[KS w _];simp[h]
theorem info137:(prog.info? 137).map (fun i=>(i.zero,i.size,i.bytes))=some (some (.agg #[.int .i64 0,.string ⟨#[]⟩,.int .i64 0]),3,32):=by kernel_rfl
theorem I1(s:Ls)(k:Nat)(h:s.size<=k):bG (s.data.toList.drop k)=some []:=by
 rw[Lp (by simp;exact h)];rfl
theorem E5(s:Ls)(k:Nat)(h:k<s.size)(hb:aw eZ s[k]=true):bG (s.data.toList.drop k)=bG (s.data.toList.drop (k+1)):=by
 rw[eQ s k h,oX _ _ hb]
theorem Fw(s:Ls):∀(d k j:Nat),s.size-k<=d->k<=j->j<=s.size->(∀i,k<=i->(h:i<s.size)->i<j->s[i]≠10)->(∀h:j<s.size,s[j]=10)->(s.data.toList.drop k).dropWhile (· !=10)=s.data.toList.drop j:=by
 intro d
 induction d with
 |zero=>intro k j hd hk hj _ _;rw[Lp (by simp;show s.size<=k;omega),Lp (by simp;show s.size<=j;omega)];rfl
 |succ d ih=>
  intro k j hd hk hj h1 h2;by_cases hks:k<s.size
  ·by_cases hkj:k=j
   ·subst hkj
    rw[eQ s k hks,List.dropWhile_cons_of_neg (by simp[h2 hks])]
   ·rw[eQ s k hks,List.dropWhile_cons_of_pos (by simpa using h1 k (KK _) hks (by omega))]
    exact ih (k+1) j (by omega) (by omega) hj (fun i hi h hij=>h1 i (by omega) h hij) h2
  ·rw[Lp (by simp;show s.size<=k;omega),Lp (by simp;show s.size<=j;omega)];rfl
theorem zC(s:Ls)(k j:Nat)(h:k<s.size)(hc:s[k]=35)(hk:k<=j)(hj:j<=s.size)(h1:∀i,k<=i->(h:i<s.size)->i<j->s[i]≠10)(h2:∀h:j<s.size,s[j]=10):k<j/\bG (s.data.toList.drop k)=bG (s.data.toList.drop j):=by
 have hkj:k≠j:=by intro e;subst e;have:=h2 h;rw[hc]at this;revert this;decide
 refine⟨by omega,?_⟩;rw[eQ s k h,hc,BN,Fw s (s.size-k) (k+1) j (by omega) (by omega) hj (fun i hi h hij=>h1 i (by omega) h hij) h2]
theorem rT(s:Ls)(k:Nat)(h:k<s.size)(h1:aw eZ s[k]=false)(h2:¬s[k]=35)(hx:cG (s.data.toList.drop k)=none):bG (s.data.toList.drop k)=none:=by
 rw[eQ s k h]at hx⊢;exact EM _ _ h1 h2 hx
theorem pt(s:Ls)(k:Nat)(x:Tk×Nat)(h:k<s.size)(h1:aw eZ s[k]=false)(h2:¬s[k]=35)(hx:cG (s.data.toList.drop k)=some x):bG (s.data.toList.drop k)=(bG (s.data.toList.drop (k+x.2))).map (x.1:: ·):=by
 have:=eQ s k h;rw[this]at hx;rw[this,Fx _ _ x h1 h2 hx,<-this,List.drop_drop]
theorem BX(s:Ls)(k:Nat)(h:k<s.size)(h1:aw dm s[k]=true):cG (s.data.toList.drop k)=some (⟨1,s.extract k (k+ay (s.data.toList.drop k) bm),0⟩,ay (s.data.toList.drop k) bm):=by
 have e:s.extract k (k+ay (s.data.toList.drop k) bm)=aE ((s.data.toList.drop k).take (ay (s.data.toList.drop k) bm)):=by
  apply ByteArray.ext;apply Array.toList_inj.1;simp[aE]
 rw[e,eQ s k h];simp only[cG];rw[K9 h1]
theorem wQ(s:Ls)(k:Nat)(h:k<s.size)(h1:aw dm s[k]=false)(h2:aw fK s[k]=true):cG (s.data.toList.drop k)=(ch (s.data.toList.drop k)).map fun x=>(⟨2,⟨#[]⟩,x.1⟩,x.2):=by
 rw[eQ s k h];simp only[cG];rw[K8 (by simp[h1]),K9 h2]
theorem Ci(s:Ls)(k:Nat)(h:k<s.size)(h1:aw dm s[k]=false)(h2:aw fK s[k]=false)(h3:s[k]=34):cG (s.data.toList.drop k)=(cj (s.data.toList.drop (k+1)) [] 1).map fun x=>(⟨3,aE x.1,0⟩,x.2):=by
 rw[eQ s k h];simp only[cG];rw[K8 (by simp[h1]),K8 (by simp[h2]),K9 h3]
theorem CC(s:Ls)(k:Nat)(h:k<s.size)(h1:aw dm s[k]=false)(h2:aw fK s[k]=false)(h3:¬s[k]=34)(h4:(s.data.toList.drop k).take 3=[46,46,46]):cG (s.data.toList.drop k)=some (⟨4,⟨#[]⟩,0⟩,3):=by
 rw[eQ s k h]at h4⊢;simp only[cG];rw[K8 (by simp[h1]),K8 (by simp[h2]),K8 h3,K9 h4]
theorem xa(s:Ls)(k:Nat)(h:k<s.size)(h1:aw dm s[k]=false)(h2:aw fK s[k]=false)(h3:¬s[k]=34)(h4:¬(s.data.toList.drop k).take 3=[46,46,46]):cG (s.data.toList.drop k)=(kH dB.data.toList s[k] 5).map fun i=>(⟨i,⟨#[]⟩,0⟩,1):=by
 rw[eQ s k h]at h4⊢;simp only[cG];rw[K8 (by simp[h1]),K8 (by simp[h2]),K8 h3,K8 h4]
theorem DX(s:Ls)(n:Nat)(w:World)(h:n<s.size)(hs:s.size<=100000)(hn:ch (s.data.toList.drop n)=none):
 Calls prog 64 #[.string s,.int .i64 n] w fun e w'=>e=.returned (.tuple #[.agg #[.int .i64 0,.string ⟨#[]⟩,.int .i64 0],.int .i64 0])/\Lt w w':=by
 have:=BV s n w h hs;rw[hn]at this;exact this
theorem Ey(s:Ls)(n:Nat)(w:World)(v:Int)(m:Nat)(h:n<s.size)(hs:s.size<=100000)(hn:ch (s.data.toList.drop n)=some (v,m)):
 Calls prog 64 #[.string s,.int .i64 n] w fun e w'=>e=.returned (.tuple #[.agg #[.int .i64 2,.string ⟨#[]⟩,.int .i64 v],.int .i64 m])/\Lt w w':=by
 have:=BV s n w h hs;rw[hn]at this;exact this
theorem Es(s:Ls)(n:Nat)(w:World)(h:n<s.size)(hs:s.size<=100000)(hn:cj (s.data.toList.drop (n+1)) [] 1=none):
 Calls prog 65 #[.string s,.int .i64 n] w fun e w'=>e=.returned (.tuple #[.agg #[.int .i64 0,.string ⟨#[]⟩,.int .i64 0],.int .i64 0])/\Lt w w':=by
 have:=yh s n w h hs;rw[hn]at this;exact this
theorem Ed(s:Ls)(n:Nat)(w:World)(l:Ls)(m:Nat)(h:n<s.size)(hs:s.size<=100000)(hn:cj (s.data.toList.drop (n+1)) [] 1=some (l.data.toList,m)):
 Calls prog 65 #[.string s,.int .i64 n] w fun e w'=>e=.returned (.tuple #[.agg #[.int .i64 3,.string l,.int .i64 0],.int .i64 m])/\Lt w w':=by
 have:=yh s n w h hs;rw[hn]at this;exact this
theorem de(w:World)(g:Nat)(l:List Value)(T:TypeId)(hg:g=w.heap.size):∀j u,l[j]?=some u->(w.alloc (.cells l.toArray T)).cell? ((⟨g,0,none⟩:Addr).add j)=some u:=by
 subst hg;exact GZ w l T
theorem bc{w:World}{base:Nat}{e:TypeId}{size:Nat}{v:Value}{n:Nat}{xs:List Value}(h:w.ownsRow base e size v n xs):∃a cap,v=.slice a n cap:=by
 rcases h.2 with⟨x,y⟩|⟨g,cap,cur,hv,r⟩
 ·subst y;exact⟨none,0,x⟩
 ·exact⟨_,_,hv⟩
theorem qd(ts:List Tk)(t:Tk):eF (ts++[t])=eF ts++kP t:=by simp[eF]
theorem qb(s:Ls)(k m:Nat)(ts:List Tk)(t:Tk)(h:bG s.data.toList=(bG (s.data.toList.drop k)).map (ts++ ·))(hx:bG (s.data.toList.drop k)=(bG (s.data.toList.drop (k+m))).map (t:: ·)):bG s.data.toList=(bG (s.data.toList.drop (k+m))).map ((ts++[t])++ ·):=by
 rw[h,hx];cases bG (s.data.toList.drop (k+m))<;>simp
theorem pi{a b c:Value}(h1:a.oneCell'=true)(h2:b.oneCell'=true)(h3:c.oneCell'=true):∀u∈[a,b,c],u.oneCell'=true:=by
 intro u hu;simp at hu;rcases hu with rfl|rfl|rfl<;>assumption
theorem wh(c:UInt8)(h:aw dB c=true):∃i,kH dB.data.toList c 5=some i/\5<=i/\i<=17/\dB.data.toList.getD (i-5) 0=c:=by
 have k:∀x:Fin 256,aw dB (UInt8.ofFin x)=true->(match kH dB.data.toList (UInt8.ofFin x) 5 with|none=>false|some i=>decide (5<=i/\i<=17/\dB.data.toList.getD (i-5) 0=UInt8.ofFin x))=true:=by decide+kernel
 have:=k c.toFin h;rw[show UInt8.ofFin c.toFin=c from rfl]at this;cases hx:kH dB.data.toList c 5 with
 |none=>rw[hx]at this;cases this
 |some i=>rw[hx]at this;simp only[Lc]at this;exact⟨i,rfl,this⟩
theorem xw(c:UInt8)(h:aw dB c=false):kH dB.data.toList c 5=none:=by
 have k:∀x:Fin 256,aw dB (UInt8.ofFin x)=false->(kH dB.data.toList (UInt8.ofFin x) 5).isNone=true:=by decide+kernel
 have:=k c.toFin h;rw[show UInt8.ofFin c.toFin=c from rfl]at this;exact Option.isNone_iff_eq_none.1 this
theorem ve(s:Ls)(k:Nat):((s.extract k (k+3)).toList==[46,46,46])=decide ((s.data.toList.drop k).take 3=[46,46,46]):=by
 rw[Lib.toList_data,Lib.extract_data,show k+3-k=3 from by omega];rw[Bool.eq_iff_iff];simp
theorem GJ(s:Ls)(k:Nat)(h:k<s.size):s.extract k (k+1)=aE [s[k]]:=by
 apply ByteArray.ext;apply Array.toList_inj.1;rw[Lib.extract_data,eQ s k h,show k+1-k=1 from by omega];rfl
theorem rC(s:Ls)(h:bG s.data.toList=none):av s=none:=by
 unfold av;rw[h];split<;>rfl
theorem J6(s:Ls)(ts:List Tk)(h0:¬4000<s.size)(h:bG s.data.toList=some ts):av s=if decide ((ts.length:Int)<=800)=true then some ts else none:=by
 unfold av;rw[K8 h0,h];simp only[Lc];by_cases hl:ts.length<=800
 ·rw[K9 hl,K9 (by omega)]
 ·rw[K8 hl,K8 (by omega)]
theorem A9(s:Ls)(k i:Nat)(h:k<s.size)(h1:5<=i)(h2:i<=17)(h3:dB.data.toList.getD (i-5) 0=s[k]):[Value.int .i64 4,.string (s.extract k (k+1)),.int .i64 0]=kP ⟨i,⟨#[]⟩,0⟩:=by
 rw[GJ s k h,<-h3];simp only[kP,rk,rs];rw[K8 (by omega),K8 (by omega),K8 (by omega)];rfl
theorem zE(s:Ls)(w:World)(hs:s.size<=maxLen):
 Calls prog 33 #[.string s] w fun e w'=>∃v b ts,e=.returned (.tuple #[v,.bool b])/\Lt w w'/\w'.ownsRow w.heap.size 137 3 v ts.length (eF ts)/\av s=if b=true then some ts else none:=by
 unfold maxLen at hs;by_cases hbig:4000<s.size
 ·go_enter func33,ntmps33
  go_wp2_with fail;go_ret2;exact⟨_,_,[],rfl,KL _ _,K7 _ _ _ _,by simp[av,hbig]⟩
 obtain⟨i0,hi,hz0,hz1,hz2⟩:=info_parts info137;go_enter func33,ntmps33;go_wp2_with fail
 go_loopw [4,5] (fun v i wr=>∃(k:Nat) (ts:List Tk),k<=s.size/\i=.int .i64 k/\wr.ownsRow w.heap.size 137 3 v ts.length (eF ts)/\ts.length<=k/\Lt w wr/\bG s.data.toList=(bG (s.data.toList.drop k)).map (ts++ ·)) (fun _ i _=>s.size-(intOf i).toNat)
 case atStart=>exact⟨0,[],by omega,rfl,K7 _ _ _ _,by simp,KL _ _,by simp⟩
 case round=>
  obtain⟨k,ts,hk,rfl,LJ,htl,LN,hrr⟩:=hrel;have HR:=aa hrr;clear hrr;have MG:=LN.size;by_cases hlt:k<s.size
  ·cases hbl:aw eZ s[k]
   ·cases h35:((s[k].toNat:Int)==35)
    ·have N35:=aa (show¬s[k]=35 from by intro e;rw[e]at h35;simp at h35)
     cases hlet:aw dm s[k]
     ·cases hdig:aw fK s[k]
      ·cases h34:((s[k].toNat:Int)==34)
       ·have N34:=aa (show¬s[k]=34 from by intro e;rw[e]at h34;simp at h34)
        by_cases hd3:k+3<=s.size
        ·cases hdd:((s.extract k (k+3)).toList==[46,46,46])
         ·have ND:=aa (show¬(s.data.toList.drop k).take 3=[46,46,46]from by simpa [ve]using hdd)
          have HX:=aa (xa s k hlt hlet hdig N34.o ND.o);cases hsig:aw dB s[k]
          ·have HS:=aa (xw _ hsig)
           go_wp2_with fail;refine(dD s[k] eZ _ (by decide)).mono ?_;rintro e w' ⟨rfl,rfl⟩;go_wp2_with fail;refine(dD s[k] dm _ (by decide)).mono ?_;rintro e w' ⟨rfl,rfl⟩;go_wp2_with fail;refine(dD s[k] fK _ (by decide)).mono ?_;rintro e w' ⟨rfl,rfl⟩;go_wp2_with fail;refine(dD s[k] dB _ (by decide)).mono ?_;rintro e w' ⟨rfl,rfl⟩;go_wp2_with fail;go_ret2;exact⟨_,_,[],rfl,LN.alloc (by omega) _,K7 _ _ _ _,by rw[rC s (by rw[HR.o,rT s k hlt hbl N35.o (by rw[HX.o,HS.o];rfl)];rfl)];simp⟩
          ·obtain⟨i,hi1,hi2,hi3,hi4⟩:=wh _ hsig
           have HS:=aa hi1;have H4:=aa hi4;clear hi1 hi4;go_wp2_with fail;refine(dD s[k] eZ _ (by decide)).mono ?_;rintro e w' ⟨rfl,rfl⟩;go_wp2_with fail;refine(dD s[k] dm _ (by decide)).mono ?_;rintro e w' ⟨rfl,rfl⟩;go_wp2_with fail;refine(dD s[k] fK _ (by decide)).mono ?_;rintro e w' ⟨rfl,rfl⟩;go_wp2_with fail;refine(dD s[k] dB _ (by decide)).mono ?_;rintro e w' ⟨rfl,rfl⟩;have HN:=aa (qb s k 1 ts (⟨i,⟨#[]⟩,0⟩:Tk) HR.o (pt s k ((⟨i,⟨#[]⟩,0⟩:Tk),1) hlt hbl N35.o (by rw[HX.o,HS.o];rfl)));go_wp2_with (at_builtin;refine wpList_append_own _ rfl _ _ 84 rfl w.heap.size 137 i0 _ 3 32 underlying84 hi hz0 hz1 hz2 rfl (by decide) _ _ _ rfl ((LJ.alloc _).alloc _) ⟨wr.heap.size+1,0,none⟩ 1 1 [.int .i64 4,.string (s.extract k (k+1)),.int .i64 0] rfl rfl (de _ _ _ _ (by simp)) (pi rfl rfl rfl) (by unfold maxLen;omega) (by omega) (by simp;omega) ?_;intro v' w1 hown' hgrow _);have L6:Lt w w1:=Below.grown ((LN.alloc (by omega) _).alloc (by simp;omega) _) hgrow (by simp;omega) (fun k hk=>(LJ.lt k hk).1);have LL:w1.ownsRow w.heap.size 137 3 v' (ts++[(⟨i,⟨#[]⟩,0⟩:Tk)]).length (eF (ts++[(⟨i,⟨#[]⟩,0⟩:Tk)])):=by
            rw[qd,Lb];exact(A9 s k i hlt hi2 hi3 H4.o)▸hown'
           go_roundw
           case rel=>exact⟨k+1,ts++[(⟨i,⟨#[]⟩,0⟩:Tk)],by omega,by go_num,LL,by simp;omega,L6,HN.o⟩
           case measure=>simp[intOf];omega
         ·have HX:=aa (CC s k hlt hlet hdig N34.o (by simpa [ve]using hdd))
          go_wp2_with fail;refine(dD s[k] eZ _ (by decide)).mono ?_;rintro e w' ⟨rfl,rfl⟩;go_wp2_with fail;refine(dD s[k] dm _ (by decide)).mono ?_;rintro e w' ⟨rfl,rfl⟩;go_wp2_with fail;refine(dD s[k] fK _ (by decide)).mono ?_;rintro e w' ⟨rfl,rfl⟩;have HN:=aa (qb s k 3 ts (⟨4,⟨#[]⟩,0⟩:Tk) HR.o (pt s k ((⟨4,⟨#[]⟩,0⟩:Tk),3) hlt hbl N35.o HX.o));go_wp2_with (at_builtin;refine wpList_append_own _ rfl _ _ 84 rfl w.heap.size 137 i0 _ 3 32 underlying84 hi hz0 hz1 hz2 rfl (by decide) _ _ _ rfl ((LJ.alloc _).alloc _) ⟨wr.heap.size+1,0,none⟩ 1 1 [.int .i64 4,.string ⟨#[46,46,46]⟩,.int .i64 0] rfl rfl (de _ _ _ _ (by simp)) (pi rfl rfl rfl) (by unfold maxLen;omega) (by omega) (by simp;omega) ?_;intro v' w1 hown' hgrow _);have L6:Lt w w1:=Below.grown ((LN.alloc (by omega) _).alloc (by simp;omega) _) hgrow (by simp;omega) (fun k hk=>(LJ.lt k hk).1);have LL:w1.ownsRow w.heap.size 137 3 v' (ts++[(⟨4,⟨#[]⟩,0⟩:Tk)]).length (eF (ts++[(⟨4,⟨#[]⟩,0⟩:Tk)])):=by
           rw[qd,Lb];exact hown'
          go_roundw
          case rel=>exact⟨k+3,ts++[(⟨4,⟨#[]⟩,0⟩:Tk)],by omega,by go_num,LL,by simp;omega,L6,HN.o⟩
          case measure=>simp[intOf];omega
        ·have ND:=aa (show¬(s.data.toList.drop k).take 3=[46,46,46]from by intro e;have:=congrArg List.length e;simp at this;have h9:s.data.size=s.size:=rfl;omega)
         have HX:=aa (xa s k hlt hlet hdig N34.o ND.o);cases hsig:aw dB s[k]
         ·have HS:=aa (xw _ hsig)
          go_wp2_with fail;refine(dD s[k] eZ _ (by decide)).mono ?_;rintro e w' ⟨rfl,rfl⟩;go_wp2_with fail;refine(dD s[k] dm _ (by decide)).mono ?_;rintro e w' ⟨rfl,rfl⟩;go_wp2_with fail;refine(dD s[k] fK _ (by decide)).mono ?_;rintro e w' ⟨rfl,rfl⟩;go_wp2_with fail;refine(dD s[k] dB _ (by decide)).mono ?_;rintro e w' ⟨rfl,rfl⟩;go_wp2_with fail;go_ret2;exact⟨_,_,[],rfl,LN.alloc (by omega) _,K7 _ _ _ _,by rw[rC s (by rw[HR.o,rT s k hlt hbl N35.o (by rw[HX.o,HS.o];rfl)];rfl)];simp⟩
         ·obtain⟨i,hi1,hi2,hi3,hi4⟩:=wh _ hsig
          have HS:=aa hi1;have H4:=aa hi4;clear hi1 hi4;go_wp2_with fail;refine(dD s[k] eZ _ (by decide)).mono ?_;rintro e w' ⟨rfl,rfl⟩;go_wp2_with fail;refine(dD s[k] dm _ (by decide)).mono ?_;rintro e w' ⟨rfl,rfl⟩;go_wp2_with fail;refine(dD s[k] fK _ (by decide)).mono ?_;rintro e w' ⟨rfl,rfl⟩;go_wp2_with fail;refine(dD s[k] dB _ (by decide)).mono ?_;rintro e w' ⟨rfl,rfl⟩;have HN:=aa (qb s k 1 ts (⟨i,⟨#[]⟩,0⟩:Tk) HR.o (pt s k ((⟨i,⟨#[]⟩,0⟩:Tk),1) hlt hbl N35.o (by rw[HX.o,HS.o];rfl)));go_wp2_with (at_builtin;refine wpList_append_own _ rfl _ _ 84 rfl w.heap.size 137 i0 _ 3 32 underlying84 hi hz0 hz1 hz2 rfl (by decide) _ _ _ rfl ((LJ.alloc _).alloc _) ⟨wr.heap.size+1,0,none⟩ 1 1 [.int .i64 4,.string (s.extract k (k+1)),.int .i64 0] rfl rfl (de _ _ _ _ (by simp)) (pi rfl rfl rfl) (by unfold maxLen;omega) (by omega) (by simp;omega) ?_;intro v' w1 hown' hgrow _);have L6:Lt w w1:=Below.grown ((LN.alloc (by omega) _).alloc (by simp;omega) _) hgrow (by simp;omega) (fun k hk=>(LJ.lt k hk).1);have LL:w1.ownsRow w.heap.size 137 3 v' (ts++[(⟨i,⟨#[]⟩,0⟩:Tk)]).length (eF (ts++[(⟨i,⟨#[]⟩,0⟩:Tk)])):=by
           rw[qd,Lb];exact(A9 s k i hlt hi2 hi3 H4.o)▸hown'
          go_roundw
          case rel=>exact⟨k+1,ts++[(⟨i,⟨#[]⟩,0⟩:Tk)],by omega,by go_num,LL,by simp;omega,L6,HN.o⟩
          case measure=>simp[intOf];omega
       ·have HX:=aa (Ci s k hlt hlet hdig (fp (by simpa using h34)))
        cases hn:cj (s.data.toList.drop (k+1)) [] 1 with
        |none=>
         have HN0:=aa hn;clear hn;go_wp2_with fail;refine(dD s[k] eZ _ (by decide)).mono ?_;rintro e w' ⟨rfl,rfl⟩;go_wp2_with fail;refine(dD s[k] dm _ (by decide)).mono ?_;rintro e w' ⟨rfl,rfl⟩;go_wp2_with fail;refine(dD s[k] fK _ (by decide)).mono ?_;rintro e w' ⟨rfl,rfl⟩;go_wp2_with fail;refine(Es s k _ hlt (by omega) HN0.o).mono ?_;rintro e w1 ⟨rfl,hb1⟩;have hcx:∀j,w1.cell? ⟨wr.heap.size,j,none⟩=(wr.alloc dq).cell? ⟨wr.heap.size,j,none⟩:=fun j=>hb1.cell (by simp);have hf0:∀j,w1.frozen? ⟨wr.heap.size,j,none⟩=false:=fun j=>by rw[hb1.frozen (by simp)];exact jg wr _ j
         have hc0:w1.cell? ⟨wr.heap.size,0,none⟩=some (.int .i64 0):=by rw[hcx];simp[dq]
         have hc1:w1.cell? ⟨wr.heap.size,1,none⟩=some (.string ⟨#[]⟩):=by rw[hcx];simp[dq]
         have hc2:w1.cell? ⟨wr.heap.size,2,none⟩=some (.int .i64 0):=by rw[hcx];simp[dq]
         clear hcx;have hs1:wr.heap.size+1<=w1.heap.size:=by have:=hb1.size;simpa using this
         have LP:Lt wr w1:=((KL _ _).alloc (KK _) _).trans (hb1.mono (by simp));clear hb1;have Mh:∀x y z,Lt w (((w1.setCell ⟨wr.heap.size,0,none⟩ x).setCell ⟨wr.heap.size,1,none⟩ y).setCell ⟨wr.heap.size,2,none⟩ z):=fun x y z=>(((LN.trans (LP.mono MG)).setCell MG x).setCell MG y).setCell MG z;go_wp2_with fail;go_ret2;exact⟨_,_,[],rfl,Mh _ _ _,K7 _ _ _ _,by rw[rC s (by rw[HR.o,rT s k hlt hbl N35.o (by rw[HX.o,HN0.o];rfl)];rfl)];simp⟩
        |some x=>
         obtain⟨l,m⟩:=x;have hsz:=AW _ _ _ _ _ (KK _) hn;rw[List.length_drop,Array.length_toList,show s.data.size=s.size from rfl]at hsz;have hm0:0<m:=by have:=hsz.1;simp only at this;omega
         have hm1:k+m<=s.size:=by have:=hsz.2;simp only at this;omega
         have HN0:=aa (show cj (s.data.toList.drop (k+1)) [] 1=some ((aE l).data.toList,m)from by rw[hn];simp[aE]);have HX2:=aa (show cG (s.data.toList.drop k)=some (⟨3,aE l,0⟩,m)from by rw[HX.o,hn];rfl);clear hn hsz;generalize aE l=lb at*;have hm2:((m:Int)==0)=false:=by simp;omega
         go_wp2_with fail;refine(dD s[k] eZ _ (by decide)).mono ?_;rintro e w' ⟨rfl,rfl⟩;go_wp2_with fail;refine(dD s[k] dm _ (by decide)).mono ?_;rintro e w' ⟨rfl,rfl⟩;go_wp2_with fail;refine(dD s[k] fK _ (by decide)).mono ?_;rintro e w' ⟨rfl,rfl⟩;go_wp2_with fail;refine(Ed s k _ lb m hlt (by omega) HN0.o).mono ?_;rintro e w1 ⟨rfl,hb1⟩;have hcx:∀j,w1.cell? ⟨wr.heap.size,j,none⟩=(wr.alloc dq).cell? ⟨wr.heap.size,j,none⟩:=fun j=>hb1.cell (by simp);have hf0:∀j,w1.frozen? ⟨wr.heap.size,j,none⟩=false:=fun j=>by rw[hb1.frozen (by simp)];exact jg wr _ j
         have hc0:w1.cell? ⟨wr.heap.size,0,none⟩=some (.int .i64 0):=by rw[hcx];simp[dq]
         have hc1:w1.cell? ⟨wr.heap.size,1,none⟩=some (.string ⟨#[]⟩):=by rw[hcx];simp[dq]
         have hc2:w1.cell? ⟨wr.heap.size,2,none⟩=some (.int .i64 0):=by rw[hcx];simp[dq]
         clear hcx;have hs1:wr.heap.size+1<=w1.heap.size:=by have:=hb1.size;simpa using this
         have LP:Lt wr w1:=((KL _ _).alloc (KK _) _).trans (hb1.mono (by simp));clear hb1;have Mh:∀x y z,Lt w (((w1.setCell ⟨wr.heap.size,0,none⟩ x).setCell ⟨wr.heap.size,1,none⟩ y).setCell ⟨wr.heap.size,2,none⟩ z):=fun x y z=>(((LN.trans (LP.mono MG)).setCell MG x).setCell MG y).setCell MG z;have MJ:∀x y z,Lt wr (((w1.setCell ⟨wr.heap.size,0,none⟩ x).setCell ⟨wr.heap.size,1,none⟩ y).setCell ⟨wr.heap.size,2,none⟩ z):=fun x y z=>((LP.setCell (KK _) x).setCell (KK _) y).setCell (KK _) z;have Mg:∀x y z,(((w1.setCell ⟨wr.heap.size,0,none⟩ x).setCell ⟨wr.heap.size,1,none⟩ y).setCell ⟨wr.heap.size,2,none⟩ z).ownsRow w.heap.size 137 3 _ ts.length (eF ts):=fun x y z=>bZ LJ (MJ x y z);clear MJ;have HN:=aa (qb s k m ts (⟨3,lb,0⟩:Tk) HR.o (pt s k ((⟨3,lb,0⟩:Tk),m) hlt hbl N35.o HX2.o));go_wp2_with (at_builtin;refine wpList_append_own _ rfl _ _ 84 rfl w.heap.size 137 i0 _ 3 32 underlying84 hi hz0 hz1 hz2 rfl (by decide) _ _ _ rfl ((Mg _ _ _).alloc _) ⟨w1.heap.size,0,none⟩ 1 1 [.int .i64 3,.string lb,.int .i64 0] rfl rfl (de _ _ _ _ (by simp)) (pi rfl rfl rfl) (by unfold maxLen;omega) (by omega) (by simp;omega) ?_;intro v' w1 hown' hgrow _);have L6:Lt w w1:=Below.grown ((Mh _ _ _).alloc (by simp;omega) _) hgrow (by simp;omega) (fun k hk=>(LJ.lt k hk).1);have LL:w1.ownsRow w.heap.size 137 3 v' (ts++[(⟨3,lb,0⟩:Tk)]).length (eF (ts++[(⟨3,lb,0⟩:Tk)])):=by
          rw[qd,Lb];exact hown'
         go_roundw
         case rel=>exact⟨k+m,ts++[(⟨3,lb,0⟩:Tk)],by omega,by go_num,LL,by simp;omega,L6,HN.o⟩
         case measure=>simp[intOf];omega
      ·have HX:=aa (wQ s k hlt hlet hdig)
       cases hn:ch (s.data.toList.drop k)with
       |none=>
        have HN0:=aa hn;clear hn;go_wp2_with fail;refine(dD s[k] eZ _ (by decide)).mono ?_;rintro e w' ⟨rfl,rfl⟩;go_wp2_with fail;refine(dD s[k] dm _ (by decide)).mono ?_;rintro e w' ⟨rfl,rfl⟩;go_wp2_with fail;refine(dD s[k] fK _ (by decide)).mono ?_;rintro e w' ⟨rfl,rfl⟩;go_wp2_with fail;refine(DX s k _ hlt (by omega) HN0.o).mono ?_;rintro e w1 ⟨rfl,hb1⟩;have hcx:∀j,w1.cell? ⟨wr.heap.size,j,none⟩=(wr.alloc dq).cell? ⟨wr.heap.size,j,none⟩:=fun j=>hb1.cell (by simp);have hf0:∀j,w1.frozen? ⟨wr.heap.size,j,none⟩=false:=fun j=>by rw[hb1.frozen (by simp)];exact jg wr _ j
        have hc0:w1.cell? ⟨wr.heap.size,0,none⟩=some (.int .i64 0):=by rw[hcx];simp[dq]
        have hc1:w1.cell? ⟨wr.heap.size,1,none⟩=some (.string ⟨#[]⟩):=by rw[hcx];simp[dq]
        have hc2:w1.cell? ⟨wr.heap.size,2,none⟩=some (.int .i64 0):=by rw[hcx];simp[dq]
        clear hcx;have hs1:wr.heap.size+1<=w1.heap.size:=by have:=hb1.size;simpa using this
        have LP:Lt wr w1:=((KL _ _).alloc (KK _) _).trans (hb1.mono (by simp));clear hb1;have Mh:∀x y z,Lt w (((w1.setCell ⟨wr.heap.size,0,none⟩ x).setCell ⟨wr.heap.size,1,none⟩ y).setCell ⟨wr.heap.size,2,none⟩ z):=fun x y z=>(((LN.trans (LP.mono MG)).setCell MG x).setCell MG y).setCell MG z;go_wp2_with fail;go_ret2;exact⟨_,_,[],rfl,Mh _ _ _,K7 _ _ _ _,by rw[rC s (by rw[HR.o,rT s k hlt hbl N35.o (by rw[HX.o,HN0.o];rfl)];rfl)];simp⟩
       |some x=>
        obtain⟨nv,m⟩:=x;have hsz:=ze _ _ hn;rw[List.length_drop,Array.length_toList,show s.data.size=s.size from rfl]at hsz;have hm0:0<m:=hsz.1;have hm1:k+m<=s.size:=by have:=hsz.2;simp only at this;omega
        have HN0:=aa hn;clear hn hsz;have hm2:((m:Int)==0)=false:=by simp;omega
        go_wp2_with fail;refine(dD s[k] eZ _ (by decide)).mono ?_;rintro e w' ⟨rfl,rfl⟩;go_wp2_with fail;refine(dD s[k] dm _ (by decide)).mono ?_;rintro e w' ⟨rfl,rfl⟩;go_wp2_with fail;refine(dD s[k] fK _ (by decide)).mono ?_;rintro e w' ⟨rfl,rfl⟩;go_wp2_with fail;refine(Ey s k _ nv m hlt (by omega) HN0.o).mono ?_;rintro e w1 ⟨rfl,hb1⟩;have hcx:∀j,w1.cell? ⟨wr.heap.size,j,none⟩=(wr.alloc dq).cell? ⟨wr.heap.size,j,none⟩:=fun j=>hb1.cell (by simp);have hf0:∀j,w1.frozen? ⟨wr.heap.size,j,none⟩=false:=fun j=>by rw[hb1.frozen (by simp)];exact jg wr _ j
        have hc0:w1.cell? ⟨wr.heap.size,0,none⟩=some (.int .i64 0):=by rw[hcx];simp[dq]
        have hc1:w1.cell? ⟨wr.heap.size,1,none⟩=some (.string ⟨#[]⟩):=by rw[hcx];simp[dq]
        have hc2:w1.cell? ⟨wr.heap.size,2,none⟩=some (.int .i64 0):=by rw[hcx];simp[dq]
        clear hcx;have hs1:wr.heap.size+1<=w1.heap.size:=by have:=hb1.size;simpa using this
        have LP:Lt wr w1:=((KL _ _).alloc (KK _) _).trans (hb1.mono (by simp));clear hb1;have Mh:∀x y z,Lt w (((w1.setCell ⟨wr.heap.size,0,none⟩ x).setCell ⟨wr.heap.size,1,none⟩ y).setCell ⟨wr.heap.size,2,none⟩ z):=fun x y z=>(((LN.trans (LP.mono MG)).setCell MG x).setCell MG y).setCell MG z;have MJ:∀x y z,Lt wr (((w1.setCell ⟨wr.heap.size,0,none⟩ x).setCell ⟨wr.heap.size,1,none⟩ y).setCell ⟨wr.heap.size,2,none⟩ z):=fun x y z=>((LP.setCell (KK _) x).setCell (KK _) y).setCell (KK _) z;have Mg:∀x y z,(((w1.setCell ⟨wr.heap.size,0,none⟩ x).setCell ⟨wr.heap.size,1,none⟩ y).setCell ⟨wr.heap.size,2,none⟩ z).ownsRow w.heap.size 137 3 _ ts.length (eF ts):=fun x y z=>bZ LJ (MJ x y z);clear MJ;have HN:=aa (qb s k m ts (⟨2,⟨#[]⟩,nv⟩:Tk) HR.o (pt s k ((⟨2,⟨#[]⟩,nv⟩:Tk),m) hlt hbl N35.o (by rw[HX.o,HN0.o];rfl)));go_wp2_with (at_builtin;refine wpList_append_own _ rfl _ _ 84 rfl w.heap.size 137 i0 _ 3 32 underlying84 hi hz0 hz1 hz2 rfl (by decide) _ _ _ rfl ((Mg _ _ _).alloc _) ⟨w1.heap.size,0,none⟩ 1 1 [.int .i64 2,.string ⟨#[]⟩,.int .i64 nv] rfl rfl (de _ _ _ _ (by simp)) (pi rfl rfl rfl) (by unfold maxLen;omega) (by omega) (by simp;omega) ?_;intro v' w1 hown' hgrow _);have L6:Lt w w1:=Below.grown ((Mh _ _ _).alloc (by simp;omega) _) hgrow (by simp;omega) (fun k hk=>(LJ.lt k hk).1);have LL:w1.ownsRow w.heap.size 137 3 v' (ts++[(⟨2,⟨#[]⟩,nv⟩:Tk)]).length (eF (ts++[(⟨2,⟨#[]⟩,nv⟩:Tk)])):=by
         rw[qd,Lb];exact hown'
        go_roundw
        case rel=>exact⟨k+m,ts++[(⟨2,⟨#[]⟩,nv⟩:Tk)],by omega,by go_num,LL,by simp;omega,L6,HN.o⟩
        case measure=>simp[intOf];omega
     ·have hwl:=lK (s.data.toList.drop k) bm
      have hx:=BX s k hlt hlet;have hx2:=(rK _ _ hx);rw[List.length_drop,Array.length_toList,show s.data.size=s.size from rfl]at hwl;generalize hm:ay (s.data.toList.drop k) bm=m at*;have HM:=aa hm;have HX:=aa hx;have hm0:0<m:=hx2.1;clear hm hx hx2;have hm1:((m:Int)==0)=false:=by simp;omega
      go_wp2_with fail;refine(dD s[k] eZ _ (by decide)).mono ?_;rintro e w' ⟨rfl,rfl⟩;go_wp2_with fail;refine(dD s[k] dm _ (by decide)).mono ?_;rintro e w' ⟨rfl,rfl⟩;go_wp2_with fail;refine(pu s bm k _ _ rfl (by omega) (by omega) (by decide)).mono ?_;rintro e w' ⟨rfl,rfl⟩;rw[HM.o];have HN:=aa (qb s k m ts (⟨1,s.extract k (k+m),0⟩:Tk) HR.o (pt s k ((⟨1,s.extract k (k+m),0⟩:Tk),m) hlt hbl N35.o HX.o));go_wp2_with (at_builtin;refine wpList_append_own _ rfl _ _ 84 rfl w.heap.size 137 i0 _ 3 32 underlying84 hi hz0 hz1 hz2 rfl (by decide) _ _ _ rfl ((LJ.alloc _).alloc _) ⟨wr.heap.size+1,0,none⟩ 1 1 [.int .i64 1,.string (s.extract k (k+m)),.int .i64 0] rfl rfl (de _ _ _ _ (by simp)) (pi rfl rfl rfl) (by unfold maxLen;omega) (by omega) (by simp;omega) ?_;intro v' w1 hown' hgrow _);have L6:Lt w w1:=Below.grown ((LN.alloc (by omega) _).alloc (by simp;omega) _) hgrow (by simp;omega) (fun k hk=>(LJ.lt k hk).1);have LL:w1.ownsRow w.heap.size 137 3 v' (ts++[(⟨1,s.extract k (k+m),0⟩:Tk)]).length (eF (ts++[(⟨1,s.extract k (k+m),0⟩:Tk)])):=by
       rw[qd,Lb];exact hown'
      go_roundw
      case rel=>exact⟨k+m,ts++[(⟨1,s.extract k (k+m),0⟩:Tk)],by omega,by go_num,LL,by simp;omega,L6,HN.o⟩
      case measure=>simp[intOf];omega
    ·have E35:=aa (show s[k]=35 from fp (by simpa using h35))
     go_wp2_with fail;refine(dD s[k] eZ _ (by decide)).mono ?_;rintro e w' ⟨rfl,rfl⟩;go_wp2_with fail;go_loop [5] (fun i=>∃j:Nat,k<=j/\j<=s.size/\i=.int .i64 j/\∀i,k<=i->(h:i<s.size)->i<j->s[i]≠10) (fun i=>s.size-(intOf i).toNat)
     case atStart=>exact⟨k,KK _,by omega,rfl,fun i h1 _ h2=>absurd h1 (by omega)⟩
     case round=>
      obtain⟨j,hj1,hj2,rfl,hjj⟩:=hrel;have HJ:=aa hjj;clear hjj;by_cases hlj:j<s.size
      ·cases h10:((s[j].toNat:Int)!=10)
       ·have HH:=aa (zC s k j hlt E35.o hj1 hj2 HJ.o (fun _=>fp (by simpa using h10)))
        have hkj:k<j:=HH.o.1;go_wp2_with fail
        go_roundw
        case rel=>exact⟨j,ts,by omega,rfl,LJ.alloc _,by omega,LN.alloc (by omega) _,by rw[HR.o,HH.o.2]⟩
        case measure=>simp[intOf];omega
       ·have N10:=aa (show s[j]≠10 from by intro e;rw[e]at h10;simp at h10)
        go_wp2_with fail
        go_round
        case rel=>exact⟨j+1,by omega,by omega,by go_num,fun i h1 h2 h3=>by by_cases e:i=j;(subst e;exact N10.o);exact HJ.o i h1 h2 (by omega)⟩
        case measure=>simp[intOf];omega
      ·have HH:=aa (zC s k j hlt E35.o hj1 hj2 HJ.o (fun h=>absurd h hlj))
       have hkj:k<j:=HH.o.1;go_wp2_with fail
       go_roundw
       case rel=>exact⟨j,ts,by omega,rfl,LJ.alloc _,by omega,LN.alloc (by omega) _,by rw[HR.o,HH.o.2]⟩
       case measure=>simp[intOf];omega
   ·have HB:=aa (E5 s k hlt hbl)
    go_wp2_with fail;refine(dD s[k] eZ _ (by decide)).mono ?_;rintro e w' ⟨rfl,rfl⟩;go_wp2_with fail
    go_roundw
    case rel=>exact⟨k+1,ts,by omega,by go_num,LJ.alloc _,by omega,LN.alloc (by omega) _,by rw[HR.o,HB.o]⟩
    case measure=>simp[intOf];omega
  ·obtain⟨a0,cap,hv⟩:=bc LJ
   subst hv;have HE:=aa (show bG s.data.toList=some ts from by rw[HR.o,I1 s k (by omega)];simp);go_wp2_with fail;go_ret2;exact⟨_,_,ts,rfl,LN,LJ,J6 s ts hbig HE.o⟩
abbrev St:=Option (List Tk)
def ib:Tk:=⟨0,⟨#[]⟩,0⟩
def hd:St->Tk
 |some (t::_)=>t
 |_=>ib
def tl:St->St
 |some (_::l)=>some l
 |s=>s
def ln:St->Nat
 |none=>0
 |some l=>l.length+1
def af(s:St)(k:Nat):Bool:=(hd s).k==k
def aq(s:St)(x:Ls):Bool:=(hd s).k==1&&decide ((hd s).s=x)
def nm(s:St):Ls:=if af s 1=true then(hd s).s else⟨#[]⟩
def ab(s:St):St:=if af s 1=true then tl s else none
def ec(s:St)(b:Bool):St:=if b=true then tl s else s
def ak(s:St)(b:Bool):St:=if b=true then tl s else none
def io(t:Tk):Prop:=1<=t.k/\t.k<=17/\t.s.size<=4000/\(t.k=1->0<t.s.size)
theorem eP(k:Nat)(h:k≠0):af none k=false:=by simp[af,hd,ib];omega
theorem nN(k:Nat)(h:k≠0):af (some []) k=false:=by simp[af,hd,ib];omega
theorem ue(x:Ls):aq none x=false:=by simp[aq,hd,ib]
theorem Gd(s:St)(h:af s 0=false)(h2:s≠none):ln (tl s)+1=ln s:=by
 match s with
 |none=>exact absurd rfl h2
 |some []=>simp[af,hd,ib]at h
 |some (t::l)=>rfl
theorem cK(s:St):ln (tl s)<=ln s:=by
 match s with
 |none=>exact KK _
 |some []=>exact KK _
 |some (t::l)=>simp[tl,ln]
theorem eY(s:St)(k:Nat)(hk:k≠0)(h:af s k=true):ln (tl s)<ln s:=by
 match s with
 |none=>rw[eP k hk]at h;cases h
 |some []=>rw[nN k hk]at h;cases h
 |some (t::l)=>simp[tl,ln]
structure ai(b:Nat)(w w':World):Prop where
 os:w'.os=w.os
 tape:w'.tape=w.tape
 output:w'.output=w.output
 size:w.heap.size<=w'.heap.size
 block:∀k,k<w.heap.size->k≠b->w'.heap[k]?=w.heap[k]?
theorem ai.refl(b:Nat)(w:World):ai b w w:=⟨rfl,rfl,rfl,KK _,fun _ _ _=>rfl⟩
theorem ai.trans{b:Nat}{x y z:World}(h:ai b x y)(k:ai b y z):ai b x z:=
 ⟨k.os.trans h.os,k.tape.trans h.tape,k.output.trans h.output,KP h.size k.size,fun i hi hb=>(k.block i (KV hi h.size) hb).trans (h.block i hi hb)⟩
theorem ai.of_below{b:Nat}{w w':World}(h:Lt w w'):ai b w w':=⟨h.os,h.tape,h.output,h.size,fun k hk _=>h.block k hk⟩
theorem ai.alloc{b:Nat}{x y:World}(h:ai b x y)(o:Obj):ai b x (y.alloc o):=h.trans (ai.of_below ((KL _ _).alloc (KK _) _))
theorem ai.setCell{b:Nat}{x y:World}(h:ai b x y)(i:Nat)(v:Value):ai b x (y.setCell ⟨b,i,none⟩ v):=
 h.trans ⟨rfl,rfl,rfl,by simp[World.setCell],fun k _ hb=>KX _ _ _ _ hb⟩
theorem ai.setNew{b:Nat}{x y:World}(h:ai b x y)(a:Addr)(ha:x.heap.size<=a.block)(v:Value):ai b x (y.setCell a v):=
 ⟨h.os,h.tape,h.output,KP h.size (by simp[World.setCell]),fun k hk hb=>by rw[KX _ _ _ _ (by omega)];exact h.block k hk hb⟩
theorem ai.drew{b:Nat}{x y:World}(h:ai b x y):ai b x y.drew:=⟨h.os,h.tape,h.output,h.size,h.block⟩
theorem ai.grown{b:Nat}{x y z:World}{row:Option Nat}(h:ai b x y)(hg:y.grownBy z row)(hr:∀k,row=some k->x.heap.size<=k):ai b x z:=
 ⟨hg.os.trans h.os,hg.tape.trans h.tape,hg.output.trans h.output,KP h.size hg.size,fun k hk hb=>(hg.block k (KV hk h.size) (fun e=>by have:=hr k e.symm;omega)).trans (h.block k hk hb)⟩
theorem ai.below{b B:Nat}{x y:World}(h:ai b x y)(hb:B<=b)(hB:B<=x.heap.size):Below B x y:=⟨h.os,h.tape,h.output,h.size,fun k hk=>h.block k (by omega) (by omega)⟩
theorem ag{w:World}{b:Nat}{o:Obj}(h:w.heap[b]?=some o):b<w.heap.size:=by
 rcases Nat.lt_or_ge b w.heap.size with a|a
 ·exact a
 ·rw[Array.getElem?_eq_none a]at h;cases h
theorem aJ{w:World}{b:Nat}{cs:Array Value}{T:TypeId}{fr:Nat×Nat}(h:w.heap[b]?=some (.cells cs T fr))(i:Nat)(v:Value):(w.setCell ⟨b,i,none⟩ v).heap[b]?=some (.cells (cs.setIfInBounds i v) T fr):=by
 simp only[World.setCell,Array.getElem?_modify,if_true,h];rfl
theorem ae{w:World}{b:Nat}{cs:Array Value}{T:TypeId}{fr:Nat×Nat}(h:w.heap[b]?=some (.cells cs T fr))(i:Nat):w.cell? ⟨b,i,none⟩=cs[i]?:=by
 unfold World.cell?;rw[h];simp
theorem ar{w:World}{b:Nat}{cs:Array Value}{T:TypeId}(h:w.heap[b]?=some (.cells cs T (0,0)))(i:Nat):w.frozen? ⟨b,i,none⟩=false:=by
 unfold World.frozen?;rw[h];simp
theorem gW{w w':World}{b base:Nat}{e:TypeId}{size:Nat}{v:Value}{n:Nat}{xs:List Value}{cs:Array Value}{T:TypeId}{fr:Nat×Nat}(h:w.ownsRow base e size v n xs)(hk:ai b w w')(hb:w.heap[b]?=some (.cells cs T fr))(hT:T≠e):w'.ownsRow base e size v n xs:=by
 refine⟨h.1,?_⟩;rcases h.2 with x|⟨g,cap,cur,hv,hg,hh,r⟩
 ·exact Or.inl x
 ·refine Or.inr ⟨g,cap,cur,hv,hg,?_,r⟩
  rw[hk.block g (ag hh) (fun e=>by subst e;rw[hb]at hh;cases hh;exact hT rfl)];exact hh
structure RS(w:World)(b:Nat)(L:Value)(ts:List Tk)(s:St):Prop where
 st:∃at_ bad,w.heap[b]?=some (.cells #[L,.int .i64 (at_:Nat),.bool bad,.int .i64 0] 89 (0,0))/\at_<=ts.length/\s=(if bad=true then none else some (ts.drop at_))
 row:w.ownsRow 0 137 3 L ts.length (eF ts)
 len:ts.length<=800
 wf:∀t∈ts,io t
theorem RS.lt{w:World}{b:Nat}{L:Value}{ts:List Tk}{s:St}(h:RS w b L ts s):b<w.heap.size:=by
 obtain⟨a,bad,h1,_⟩:=h.st;exact ag h1
theorem RS.below{w w':World}{b:Nat}{L:Value}{ts:List Tk}{s:St}(h:RS w b L ts s)(hb:Lt w w'):RS w' b L ts s:=by
 obtain⟨a,bad,h1,h2,h3⟩:=h.st;exact⟨⟨a,bad,by rw[hb.block b (ag h1)];exact h1,h2,h3⟩,bZ h.row hb,h.len,h.wf⟩
theorem RS.move{w X Y:World}{b:Nat}{L:Value}{ts:List Tk}{s s0:St}(hX:RS X b L ts s)(h0:RS w b L ts s0)(hk:ai b w Y)(hb:Y.heap[b]?=X.heap[b]?):RS Y b L ts s:=by
 obtain⟨a,bad,h1,h2,h3⟩:=hX.st;obtain⟨a',bad',h1',_⟩:=h0.st;exact⟨⟨a,bad,by rw[hb];exact h1,h2,h3⟩,gW h0.row hk h1' (by decide),h0.len,h0.wf⟩
theorem RS.hdok{w:World}{b:Nat}{L:Value}{ts:List Tk}{s:St}(h:RS w b L ts s):(hd s=ib)\/io (hd s):=by
 obtain⟨a,bad,h1,h2,h3⟩:=h.st;cases bad with
 |true=>rw[h3];exact Or.inl rfl
 |false=>
  rw[h3];simp only[Lj,if_false];cases hx:ts.drop a with
  |nil=>exact Or.inl rfl
  |cons t l=>exact Or.inr (h.wf t (List.mem_of_mem_drop (i:=a) (by rw[hx];simp)))
theorem RS.lnle{w:World}{b:Nat}{L:Value}{ts:List Tk}{s:St}(h:RS w b L ts s):ln s<=801:=by
 obtain⟨a,bad,h1,h2,h3⟩:=h.st;have:=h.len;rw[h3];cases bad<;>simp[ln]<;>omega
theorem RS.badc{w:World}{b:Nat}{L:Value}{ts:List Tk}{s:St}(h:RS w b L ts s):w.cell? ⟨b,2,none⟩=some (.bool s.isNone):=by
 obtain⟨a,bad,h1,h2,h3⟩:=h.st;rw[ae h1 2,h3];cases bad<;>rfl
theorem lV(X:World)(N b:Nat)(h:b≠N)(x y z:Value):(((X.setCell ⟨N,0,none⟩ x).setCell ⟨N,1,none⟩ y).setCell ⟨N,2,none⟩ z).heap[b]?=X.heap[b]?:=by
 rw[KX _ _ _ _ h,KX _ _ _ _ h,KX _ _ _ _ h]
theorem bp(X:World)(o:Obj)(b:Nat)(h:b<X.heap.size):(X.alloc o).heap[b]?=X.heap[b]?:=Below.heap_alloc _ _ _ h
theorem IB:∀(n:Nat) (l acc:List UInt8) (m:Nat) (x:List UInt8×Nat),l.length<=n->cj l acc m=some x->x.1.length<=acc.length+l.length:=by
 intro n
 induction n with
 |zero=>intro l acc m x hl h;have:l=[]:=KZ (by omega);subst this;cases h
 |succ n ih=>
  intro l acc m x hl h
  match l with
  |[]=>cases h
  |c::r=>
   rw[pw]at h;simp only[Lm]at hl⊢;by_cases h1:c=34
   ·rw[K9 h1]at h;cases h;simp only;omega
   rw[K8 h1]at h;by_cases h2:c<32\/126<c
   ·rw[K9 h2]at h;cases h
   rw[K8 h2]at h;by_cases h3:c=92
   ·rw[K9 h3]at h
    match r with
    |[]=>cases h
    |d::r'=>
     cases he:iA d with
     |none=>simp[he]at h
     |some e=>
      simp only[he]at h;simp only[Lm]at hl⊢;have:=ih r' _ _ x (by omega) h;simp only[Lb,Lm,List.length_nil]at this;omega
   ·rw[K8 h3]at h
    have:=ih r _ _ x (by omega) h;simp only[Lb,Lm,List.length_nil]at this;omega
theorem G8(l:List UInt8)(x:Tk×Nat)(hl:l.length<=4000)(h:cG l=some x):io x.1:=by
 have hs:=rK l x h;unfold cG at h;split at h
 ·cases h
 ·rename_i c r
  by_cases h1:aw dm c=true
  ·rw[K9 h1]at h;cases h
   have hz:(aE ((c::r).take (ay (c::r) bm))).size=ay (c::r) bm:=by
    show((c::r).take (ay (c::r) bm)).toArray.size=_;rw[List.size_toArray,List.length_take];have:=lK (c::r) bm;omega
   have:=hs.1;have:=hs.2;simp only at*;exact⟨KK 1,show 1<=17 by decide,by rw[hz];omega,fun _=>by rw[hz];omega⟩
  rw[K8 h1]at h;by_cases h2:aw fK c=true
  ·rw[K9 h2]at h
   cases hn:ch (c::r)with
   |none=>simp[hn]at h
   |some y=>simp only[hn,Option.map_some,Option.some.injEq]at h;subst h;exact⟨show 1<=2 by decide,show 2<=17 by decide,show(⟨#[]⟩:Ls).size<=4000 by decide,fun e=>by cases e⟩
  rw[K8 h2]at h;by_cases h3:c=34
  ·rw[K9 h3]at h
   cases hn:cj r [] 1 with
   |none=>simp[hn]at h
   |some y=>
    simp only[hn,Option.map_some,Option.some.injEq]at h;subst h;have:=IB _ _ _ _ _ (KK _) hn;simp only[Lm,List.length_nil]at this hl;refine⟨by simp,by simp,?_,fun e=>by cases e⟩;show y.1.toArray.size<=4000;rw[List.size_toArray];omega
  rw[K8 h3]at h;by_cases h4:(c::r).take 3=[46,46,46]
  ·rw[K9 h4]at h;cases h;exact⟨by decide,by decide,by decide,fun e=>by cases e⟩
  rw[K8 h4]at h;cases hn:kH dB.data.toList c 5 with
  |none=>simp[hn]at h
  |some i=>
   simp only[hn,Option.map_some,Option.some.injEq]at h;subst h;cases hsg:aw dB c with
   |false=>rw[xw c hsg]at hn;cases hn
   |true=>
    obtain⟨j,e1,e2,e3,_⟩:=wh c hsg;rw[e1]at hn;cases hn;exact⟨by simp only;omega,e3,show(⟨#[]⟩:Ls).size<=4000 by decide,fun e=>by simp only at e;omega⟩
theorem Hw:∀(f:Nat) (l:List UInt8) (ts:List Tk),l.length<=4000->js f l=some ts->∀t∈ts,io t:=by
 intro f
 induction f with
 |zero=>intro l ts _ h;cases h
 |succ f ih=>
  intro l ts hl h
  match l with
  |[]=>cases h;intro t ht;cases ht
  |c::r=>
   simp only[js]at h;simp only[Lm]at hl;by_cases h1:aw eZ c=true
   ·rw[K9 h1]at h;exact ih r ts (by omega) h
   rw[K8 h1]at h;by_cases h2:c=35
   ·rw[K9 h2]at h
    have:=sG (· !=10) r;exact ih _ ts (by omega) h
   rw[K8 h2]at h;cases hx:cG (c::r)with
   |none=>rw[hx]at h;cases h
   |some x=>
    rw[hx]at h;simp only at h;cases hy:js f ((c::r).drop x.2)with
    |none=>rw[hy]at h;cases h
    |some ts'=>
     rw[hy]at h;simp only[Option.map_some,Option.some.injEq]at h;subst h;intro t ht;rcases List.mem_cons.1 ht with e|e
     ·rw[e];exact G8 _ _ (by simpa using hl) hx
     ·exact ih _ ts' (by simp;omega) hy t e
theorem oc(s:Ls)(ts:List Tk)(h:av s=some ts):(∀t∈ts,io t)/\ts.length<=800:=by
 unfold av at h;by_cases h0:4000<s.size
 ·rw[K9 h0]at h;cases h
 rw[K8 h0]at h;cases hx:bG s.data.toList with
 |none=>rw[hx]at h;cases h
 |some l=>
  rw[hx]at h;simp only at h;by_cases h1:l.length<=800
  ·rw[K9 h1]at h;cases h
   exact⟨Hw _ _ _ (by show s.size<=4000;omega) hx,h1⟩
  ·rw[K8 h1]at h;cases h
theorem kQ{w x:World}{base n size:Nat}{e:TypeId}{v:Value}{xs:List Value}(h:w.ownsRow base e size v n xs)(hf:∀k,v.ownBlock=some k->x.heap[k]?=w.heap[k]?):x.ownsRow base e size v n xs:=by
 refine⟨h.1,?_⟩;rcases h.2 with q|⟨g,cap,cur,hv,hg,hh,r⟩
 ·exact Or.inl q
 ·exact Or.inr ⟨g,cap,cur,hv,hg,(hf g (by rw[hv];rfl)).trans hh,r⟩
theorem nh{w:World}{B C size n:Nat}{e:TypeId}{v:Value}{xs:List Value}(h:w.ownsRow B e size v n xs)(hc:C<=B):w.ownsRow C e size v n xs:=by
 refine⟨h.1,?_⟩;rcases h.2 with h|⟨g,cap,cur,h1,h2,h3⟩
 ·exact Or.inl h
 ·exact Or.inr ⟨g,cap,cur,h1,KP hc h2,h3⟩
theorem qH{X:World}{B0 size n N:Nat}{e:TypeId}{v:Value}{xs:List Value}(h:X.ownsRow B0 e size v n xs)(hN:v.ownBlock≠some N)(i:Nat)(u:Value):(X.setCell ⟨N,i,none⟩ u).ownsRow B0 e size v n xs:=by
 refine⟨h.1,?_⟩;rcases h.2 with h|⟨g,cap,cur,h1,h2,h3,h4⟩
 ·exact Or.inl h
 ·exact Or.inr ⟨g,cap,cur,h1,h2,(KX _ _ _ _ (fun e=>hN (by have e':g=N:=e;rw[h1,<-e'];rfl))).trans h3,h4⟩
end Go.Proofs.YtgbloieahmkcjaaGreat
