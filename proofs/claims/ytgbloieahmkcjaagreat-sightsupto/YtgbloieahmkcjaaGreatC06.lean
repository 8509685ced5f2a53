import Derived.Test.YtgbloieahmkcjaaGreatC05
import Derived.Deep.LoopGhost
namespace Go.Proofs.YtgbloieahmkcjaaGreat
set_option maxHeartbeats 20000000
set_option maxRecDepth 100000
open Go.RowKit Tryz
theorem ai.at{b F:Nat}{w w':World}{o:Obj}(h:ai b w w')(hF:w.heap[F]?=some o)(hne:F≠b):w'.heap[F]?=some o:=by
 rw[h.block F (ag hF) hne];exact hF
theorem RS.set{w:World}{b:Nat}{L:Value}{ts:List Tk}{s:St}{F:Nat}{cs:Array Value}{T:TypeId}{fr:Nat×Nat}(h:RS w b L ts s)(hF:w.heap[F]?=some (.cells cs T fr))(h1:T≠89)(h2:T≠137)(i:Nat)(v:Value):RS (w.setCell ⟨F,i,none⟩ v) b L ts s:=by
 obtain⟨a,bad,q1,q2,q3⟩:=h.st;have hne:b≠F:=fun e=>by subst e;rw[q1]at hF;cases hF;exact h1 rfl
 refine⟨⟨a,bad,by rw[KX _ _ _ _ hne];exact q1,q2,q3⟩,?_,h.len,h.wf⟩;exact gW h.row ((ai.refl F w).setCell i v) hF h2
theorem dG{w:World}{F N:Nat}{o:Obj}(h:w.heap[F]?=some o)(hne:F≠N)(i:Nat)(v:Value):(w.setCell ⟨N,i,none⟩ v).heap[F]?=some o:=by
 rw[KX _ _ _ _ hne];exact h
theorem ig(w:World)(o o':Obj):((w.alloc o).alloc o').heap[w.heap.size]?=some o:=by
 rw[bp _ _ _ (by simp),KS]
theorem eo(w:World)(o o':Obj):((w.alloc o).alloc o').heap[w.heap.size+1]?=some o':=by
 have:=KS (w.alloc o) o'
 rwa [show(w.alloc o).heap.size=w.heap.size+1 by simp]at this
theorem di(w:World)(o o':Obj):Lt w ((w.alloc o).alloc o'):=((KL _ _).alloc (KK _) _).alloc (by simp) _
theorem bV(y:Ls)(l:List UInt8):(y.toList==l)=decide (y=aE l):=by
 rw[Lib.toList_data,Bool.eq_iff_iff];simp only[beq_iff_eq,Lc];constructor
 ·intro h;apply ByteArray.ext;apply Array.toList_inj.1;rw[h];simp[aE]
 ·intro h;rw[h];simp[aE]
structure bj where
 name:Ls
 arg:Ls
 ty:Ls
 LG:Ls
 LH:Ls
def bE:Ls:=⟨#[]⟩
def ik:Ls:=aE [105,100]
def lB:Ls:=aE [73,68]
def mp:Ls:=aE [102,105,114,115,116]
def j9:Ls:=aE [73,110,116]
def mh:Ls:=aE [97,117,116,104]
def nz:Ls:=aE [104,105,100,101]
def jR(a t:Ls):Bool:=(!decide (a=ik)||!decide (t=lB))&&(!decide (a=mp)||!decide (t=j9))
def dJ:Nat->St->Ls->Ls->(Ls×Ls)×St
 |0,s,a,h=>((a,h),s)
 |f+1,s,a,h=>
  if af s 11=true then
   let s1:=tl s
   let s2:=ab s1
   let s3:=ak s2 (af s2 7)
   let s4:=ab s3
   let s5:=ak s4 (af s4 8)
   if nm s1=mh/\a=bE then dJ f s5 (nm s3) h
   else if nm s1=nz/\h=bE then dJ f s5 a (nm s3)
   else((a,h),none)
  else((a,h),s)
def jt(s1:St):Ls×St:=
 if af s1 7=true then
  let s2:=tl s1
  let s3:=ab s2
  let s4:=ak s3 (af s3 9)
  let s5:=ab s4
  let s6:=if jR (nm s2) (nm s4)=true then none else s5
  (nm s2,ak s6 (af s6 8))
 else(bE,s1)
def eh(s:St):bj×St:=
 let p:=jt (ab s)
 let s8:=ak p.2 (af p.2 9)
 let ty:=fP 801 s8
 let mk:=dJ 801 ty.2 bE bE
 (⟨nm s,p.1,ty.1,mk.1.1,mk.1.2⟩,mk.2)
def sk(f:bj):Array Value:=#[.string f.name,.string f.arg,.string f.ty,.string f.LG,.string f.LH]
theorem bH(s:St):ln (ab s)<=ln s:=by
 unfold ab;split
 ·exact cK s
 ·simp[ln]
theorem cg(s:St)(b:Bool):ln (ak s b)<=ln s:=by
 unfold ak;split
 ·exact cK s
 ·simp[ln]
theorem Jd(s:St)(h:s.isNone=true)(k:Nat)(hk:k≠0):af s k=false:=by
 match s,h with
 |none,_=>exact eP k hk
inductive dh where
 |one (n:Ls) (st:Bool)
 |list (t:dh) (st:Bool)
def d9(w:World)(B:Nat):Value->dh->Prop
 |v,.one n st=>∃k,v=.pointer (some ⟨k,0,none⟩)/\B<=k/\w.heap[k]?=some (.cells #[.string n,.int .i64 0,.pointer none,.bool st] 257 (0,0))
 |v,.list t st=>∃k u,v=.pointer (some ⟨k,0,none⟩)/\B<=k/\w.heap[k]?=some (.cells #[.string ⟨#[]⟩,.int .i64 1,u,.bool st] 257 (0,0))/\d9 w B u t
def bU:Nat->St->dh×St
 |0,s=>(.one ⟨#[]⟩ false,s)
 |f+1,s=>
  if af s 12=true then
   (.list (bU f (tl s)).1 (af (ak (bU f (tl s)).2 (af (bU f (tl s)).2 13)) 5),ec (ak (bU f (tl s)).2 (af (bU f (tl s)).2 13)) (af (ak (bU f (tl s)).2 (af (bU f (tl s)).2 13)) 5))
  else(.one (nm s) (af (ab s) 5),ec (ab s) (af (ab s) 5))
def au(T:TypeId)(B:Nat)(w w':World):Prop:=∀k cs fr,B<=k->w.heap[k]?=some (.cells cs T fr)->w'.heap[k]?=some (.cells cs T fr)
theorem au.refl(T:TypeId)(B:Nat)(w:World):au T B w w:=fun _ _ _ _ h=>h
theorem au.mono{T:TypeId}{B C:Nat}{w w':World}(h:au T B w w')(hc:B<=C):au T C w w':=fun k cs fr hk=>h k cs fr (KP hc hk)
theorem au.trans{T:TypeId}{B:Nat}{x y z:World}(h:au T B x y)(k:au T B y z):au T B x z:=fun i cs fr c a=>k i cs fr c (h i cs fr c a)
theorem au.of_below{T:TypeId}{B:Nat}{w w':World}(h:Lt w w'):au T B w w':=fun k cs fr _ a=>by rw[h.block k (ag a)];exact a
theorem au.of_keep{T:TypeId}{B:Nat}{w w':World}{b:Nat}{cs:Array Value}{T':TypeId}{fr:Nat×Nat}(h:ai b w w')(hb:w.heap[b]?=some (.cells cs T' fr))(hT:T'≠T):au T B w w':=fun k c fr' _ a=>by
 rw[h.block k (ag a) (fun e=>by subst e;rw[hb]at a;cases a;exact hT rfl)];exact a
theorem au.keepF{T:TypeId}{B F:Nat}{w w':World}(h:ai F w w')(hF:F<B):au T B w w':=fun k c fr' hk a=>by
 rw[h.block k (ag a) (by omega)];exact a
theorem au.set{T:TypeId}{B F:Nat}{w:World}(hF:F<B)(i:Nat)(v:Value):au T B w (w.setCell ⟨F,i,none⟩ v):=au.keepF ((ai.refl F w).setCell i v) hF
theorem au.setT{T:TypeId}{B F:Nat}{w:World}{cs:Array Value}{T':TypeId}{fr:Nat×Nat}(hF:w.heap[F]?=some (.cells cs T' fr))(hT:T'≠T)(i:Nat)(v:Value):au T B w (w.setCell ⟨F,i,none⟩ v):=au.of_keep ((ai.refl F w).setCell i v) hF hT
theorem au.alloc{T:TypeId}{B:Nat}{w:World}(o:Obj):au T B w (w.alloc o):=au.of_below ((KL _ _).alloc (KK _) _)
theorem d9.stays{B:Nat}{w w':World}(h:au 257 B w w'):∀{v:Value} {t:dh},d9 w B v t->d9 w' B v t
 |_,.one _ _,⟨k,h1,hb,h2⟩=>⟨k,h1,hb,h k _ _ hb h2⟩
 |_,.list _ _,⟨k,u,h1,hb,h2,h3⟩=>⟨k,u,h1,hb,h k _ _ hb h2,d9.stays h h3⟩
theorem d9.mono{B C:Nat}{w:World}(hc:C<=B):∀{v:Value} {t:dh},d9 w B v t->d9 w C v t
 |_,.one _ _,⟨k,h1,hb,h2⟩=>⟨k,h1,KP hc hb,h2⟩
 |_,.list _ _,⟨k,u,h1,hb,h2,h3⟩=>⟨k,u,h1,KP hc hb,h2,d9.mono hc h3⟩
theorem Aw(s:St)(b:Bool):ln (ec s b)<=ln s:=by
 unfold ec;split
 ·exact cK s
 ·exact KK _
def jr:Ls:=aE [116,114,117,101]
def jw:Ls:=aE [102,97,108,115,101]
def mf:Ls:=aE [110,117,108,108]
def dN(s:St):Bool:=af s 2||af s 3||aq s jr||aq s jw||aq s mf
theorem xR(s:St):dN s=(decide (rk (hd s).k=2)||decide (rk (hd s).k=3)||(decide (rk (hd s).k=1)&&((rs (hd s)).toList==[116,114,117,101]))||(decide (rk (hd s).k=1)&&((rs (hd s)).toList==[102,97,108,115,101]))||(decide (rk (hd s).k=1)&&((rs (hd s)).toList==[110,117,108,108]))):=by
 have h2:af s 2=decide (rk (hd s).k=2):=by
  unfold af rk;rw[Bool.eq_iff_iff];simp only[beq_iff_eq,Lc];split<;>omega
 have h3:af s 3=decide (rk (hd s).k=3):=by
  unfold af rk;rw[Bool.eq_iff_iff];simp only[beq_iff_eq,Lc];split<;>omega
 have hw:∀l:List UInt8,aq s (aE l)=(decide (rk (hd s).k=1)&&((rs (hd s)).toList==l)):=by
  intro l;rw[<-rR,bV];rfl
 unfold dN;rw[h2,h3,show jr=aE [116,114,117,101]from rfl,show jw=aE [102,97,108,115,101]from rfl,show mf=aE [110,117,108,108]from rfl,hw,hw,hw]
theorem CJ(s:St)(h:dN s=true):af s 0=false:=by
 unfold dN af aq at h;unfold af;rw[beq_eq_false_iff_ne];intro e;rw[e]at h;simp at h
theorem fD(X:World)(N b:Nat)(h:b≠N)(x y z u:Value):((((X.setCell ⟨N,0,none⟩ x).setCell ⟨N,1,none⟩ y).setCell ⟨N,2,none⟩ z).setCell ⟨N,3,none⟩ u).heap[b]?=X.heap[b]?:=by
 rw[KX _ _ _ _ h,KX _ _ _ _ h,KX _ _ _ _ h,KX _ _ _ _ h]
structure FV where
 sh:Nat
 n:Int
 s:Ls
 la:Option Addr
 ln:Nat
 lc:Nat
def bw(x:FV):Value:=.agg #[.int .i64 x.sh,.int .i64 x.n,.string x.s,.slice x.la x.ln x.lc]
def jE:FV:=⟨0,0,⟨#[]⟩,none,0,0⟩
def br(s:St):FV:=
 if rk (hd s).k=2 then⟨1,(hd s).n,⟨#[]⟩,none,0,0⟩else if rk (hd s).k=3 then⟨2,0,rs (hd s),none,0,0⟩
 else if rk (hd s).k=1/\((rs (hd s)).toList==[116,114,117,101])=true then⟨3,1,⟨#[]⟩,none,0,0⟩
 else if rk (hd s).k=1/\((rs (hd s)).toList==[102,97,108,115,101])=true then⟨3,0,⟨#[]⟩,none,0,0⟩else jE
section
variable {w w':World} {b:Nat} {L:Value} {ts:List Tk} {R:List Value} {T:TypeId} {s s0:St}
theorem Be(h:RG w b L ts R T s):
 Calls prog 155 #[.pointer (some ⟨b,0,none⟩)] w fun e w'=>e=.returned (.tuple #[bw (br s),.bool (dN s)])/\RG w' b L ts R T (ec s (dN s))/\ai b w w':=by
 have hlt:=h.lt;have hp:=tG (h.below ((KL _ _).alloc (KK _) (.cells #[.int .i64 0,.int .i64 0,.string ⟨#[]⟩,.slice none 0 0] 119)));have H0:=aa h;have HQ:=aa (xR s);have HP:=aa (CJ s);have HV:=aa (br.eq_1 s);clear h;generalize rk (hd s).k=k1 at*;generalize rs (hd s)=y at*;generalize (hd s).n=n at*;generalize br s=v at*;generalize dN s=q at*;have hc:k1=2\/k1=3\/(k1=1/\(y.toList==[116,114,117,101])=true)\/(k1=1/\(y.toList==[116,114,117,101])=false/\(y.toList==[102,97,108,115,101])=true)\/(k1=1/\(y.toList==[116,114,117,101])=false/\(y.toList==[102,97,108,115,101])=false/\(y.toList==[110,117,108,108])=true)\/(k1=1/\(y.toList==[116,114,117,101])=false/\(y.toList==[102,97,108,115,101])=false/\(y.toList==[110,117,108,108])=false)\/(k1≠1/\k1≠2/\k1≠3):=by
  cases (y.toList==[116,114,117,101])<;>cases (y.toList==[102,97,108,115,101])<;>cases (y.toList==[110,117,108,108])<;>simp<;>omega
 rcases hc with rfl|rfl|⟨rfl,t1⟩|⟨rfl,t1,t2⟩|⟨rfl,t1,t2,t3⟩|⟨rfl,t1,t2,t3⟩|⟨t1,t2,t3⟩;all_goals
  have HQ':=HQ.o;have HV':=HV.o;clear HQ HV;simp[*]at HQ' HV';have HV:=aa HV';have HQ:=aa HQ';clear HV' HQ';go_enter func155,ntmps155;go_wp2_with fail;refine hp.mono ?_;clear hp;rintro e w1 ⟨rfl,hb1⟩;have hR:=(hb1.block _ (by simp)).trans (KS w (.cells #[.int .i64 0,.int .i64 0,.string ⟨#[]⟩,.slice none 0 0] 119));have c:=ae hR;have f:=ar hR;have hs1:=ag hR;have hB:=((KL w.heap.size w).alloc (KK _) (.cells #[.int .i64 0,.int .i64 0,.string ⟨#[]⟩,.slice none 0 0] 119)).trans (hb1.mono (by simp));have hbl:b<w1.heap.size:=by omega
  have hs2:w.heap.size<w1.heap.size+1:=by omega
  have H1:=aa (H0.o.below hB);have hK0:=aa (ai.of_below (b:=b) hB);clear hb1 hB hR
 all_goals first
 |(obtain⟨a,c1,f1,ha,hn⟩:=H1.o.next (HP.o HQ.o)
   have HN:=aa hn;clear hn HP;go_wp2_with fail;refine bodyPost_ret (v:=.tuple #[bw v,.bool q]) (by rw[HV.o,HQ.o];simp[results,results155,go_sem,c,hs1,hs2,bw,jE]) rfl ⟨rfl,?_⟩;refine HN.o.fin H0.o (by rw[HQ.o];rfl) ?_ ?_
   ·repeat' with_reducible first|exact hK0.o|refine ai.alloc ?_ _|refine ai.setNew ?_ _ (KK _) _|refine ai.setCell ?_ _ _
   ·exact((bp _ _ _ (by simp;omega)).trans (bp _ _ _ (by simpa using hbl))).trans (fD _ _ _ (by omega) _ _ _ _))
 |(clear HP
   go_wp2_with fail;refine bodyPost_ret (v:=.tuple #[bw v,.bool q]) (by rw[HV.o,HQ.o];simp[results,results155,go_sem,c,hs1,hs2,bw,jE]) rfl ⟨rfl,?_⟩;refine H1.o.fin H0.o (by rw[HQ.o];rfl) ?_ ?_
   ·repeat' with_reducible first|exact hK0.o|refine ai.alloc ?_ _|refine ai.setNew ?_ _ (KK _) _|refine ai.setCell ?_ _ _
   ·exact((bp _ _ _ (by simp;omega)).trans (bp _ _ _ (by simpa using hbl))).trans (fD _ _ _ (by omega) _ _ _ _))
end
theorem qi(w:World)(b:Nat)(L:Value)(ts:List Tk)(s:St)(h:RS w b L ts s):
 Calls prog 155 #[.pointer (some ⟨b,0,none⟩)] w fun e w'=>e=.returned (.tuple #[bw (br s),.bool (dN s)])/\RS w' b L ts (ec s (dN s))/\ai b w w':=(Be h.G).mono fun _ _ ⟨e,g,k⟩=>⟨e,g.S h k,k⟩
theorem KE(s:St):∃x y z,bw (br s)=.agg #[.int .i64 x,.int .i64 y,.string z,.slice none 0 0]:=by
 unfold br;split
 ·exact⟨_,_,_,rfl⟩
 ·split
  ·exact⟨_,_,_,rfl⟩
  ·split
   ·exact⟨_,_,_,rfl⟩
   ·split<;>exact⟨_,_,_,rfl⟩
theorem J4(w:World)(b:Nat)(L:Value)(ts:List Tk)(s:St)(h:RS w b L ts s):
 Calls prog 155 #[.pointer (some ⟨b,0,none⟩)] w fun e w'=>(∃x y z,e=.returned (.tuple #[.agg #[.int .i64 x,.int .i64 y,.string z,.slice none 0 0],.bool (dN s)]))/\RS w' b L ts (ec s (dN s))/\ai b w w':=(qi w b L ts s h).mono fun _ _ ⟨e,g,k⟩=>by
 obtain⟨x,y,z,q⟩:=KE s;rw[q]at e;exact⟨⟨x,y,z,e⟩,g,k⟩
end Go.Proofs.YtgbloieahmkcjaaGreat
