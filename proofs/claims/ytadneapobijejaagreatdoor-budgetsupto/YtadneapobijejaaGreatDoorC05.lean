import Derived.Test.YtadneapobijejaaGreatDoorC04
import Derived.Deep.QuietTactic
import Derived.BigQuiet
import Derived.Deep.LoopGhost
import Derived.Deep.DeepCutAuto
import Derived.Deep.CutBlock
import Derived.Deep.RegionWith
import Derived.Laws.StructEq
import Derived.ChangeKeysEq
import Derived.Laws.Runes
namespace Go.Proofs.YtadneapobijejaaGreatDoor
set_option maxHeartbeats 20000000
set_option maxRecDepth 100000
open Go.RowKit Tryz
theorem Cr(y x:vD):(y.toList==x.toList)=decide (y=x):=by
 rw[Lib.toList_data,Lib.toList_data,Bool.eq_iff_iff];simp only[beq_iff_eq,uF];constructor
 ·intro h;exact ByteArray.ext (Array.toList_inj.1 h)
 ·intro h;rw[h]
section
variable {w w':World} {b:Nat} {L:Value} {ts:List Tk} {R:List Value} {T:TypeId} {s s0:St}
end
theorem Ag.at{b F:Nat}{w w':World}{o:Obj}(h:Ag b w w')(hF:w.heap[F]?=some o)(hne:F≠b):w'.heap[F]?=some o:=by
 rw[h.block F (Ab hF) hne];exact hF
theorem Se{w:World}{F N:Nat}{o:Obj}(h:w.heap[F]?=some o)(hne:F≠N)(i:Nat)(v:Value):(w.setCell ⟨N,i,none⟩ v).heap[F]?=some o:=by
 rw[tX _ _ _ _ hne];exact h
theorem Lg(w:World)(o o':Obj):((w.alloc o).alloc o').heap[w.heap.size]?=some o:=by
 rw[AK _ _ _ (by simp),tS]
theorem Mh(w:World)(o o':Obj):((w.alloc o).alloc o').heap[w.heap.size+1]?=some o':=by
 have:=tS (w.alloc o) o'
 rwa [show(w.alloc o).heap.size=w.heap.size+1 by simp]at this
theorem IY(w:World)(o o':Obj):vE w ((w.alloc o).alloc o'):=((tM _ _).alloc (tL _) _).alloc (by simp) _
theorem BN(y:vD)(l:List UInt8):(y.toList==l)=decide (y=Az l):=by
 rw[Lib.toList_data,Bool.eq_iff_iff];simp only[beq_iff_eq,uF];constructor
 ·intro h;apply ByteArray.ext;apply Array.toList_inj.1;rw[h];simp[Az]
 ·intro h;rw[h];simp[Az]
def bE:vD:=⟨#[]⟩
def CI:vD:=Az [105,100]
def Zq:vD:=Az [73,68]
def MB:vD:=Az [102,105,114,115,116]
def Zr:vD:=Az [73,110,116]
def Tj:vD:=Az [97,117,116,104]
def Tl:vD:=Az [104,105,100,101]
theorem AZ(s:St):ln (nmT s)<=ln s:=by
 unfold nmT;split
 ·exact BG s
 ·simp[ln]
theorem Do(s:St)(b:Bool):ln (mustT s b)<=ln s:=by
 unfold mustT;split
 ·exact BG s
 ·simp[ln]
inductive Bo where
 |one (n:vD) (st:Bool)
 |list (t:Bo) (st:Bool)
def Bu(w:World)(B:Nat):Value->Bo->Prop
 |v,.one n st=>∃k,v=.pointer (some ⟨k,0,none⟩)/\B<=k/\w.heap[k]?=some (.cells #[.string n,.int .i64 0,.pointer none,.bool st] 269 (0,0))
 |v,.list t st=>∃k u,v=.pointer (some ⟨k,0,none⟩)/\B<=k/\w.heap[k]?=some (.cells #[.string ⟨#[]⟩,.int .i64 1,u,.bool st] 269 (0,0))/\Bu w B u t
def BL:Nat->St->Bo×St
 |0,s=>(.one ⟨#[]⟩ false,s)
 |f+1,s=>
  if Ad s 12=true then
   (.list (BL f (tl s)).1 (Ad (mustT (BL f (tl s)).2 (Ad (BL f (tl s)).2 13)) 5),mayT (mustT (BL f (tl s)).2 (Ad (BL f (tl s)).2 13)) (Ad (mustT (BL f (tl s)).2 (Ad (BL f (tl s)).2 13)) 5))
  else(.one (nm s) (Ad (nmT s) 5),mayT (nmT s) (Ad (nmT s) 5))
def Ao(T:TypeId)(B:Nat)(w w':World):Prop:=∀k cs fr,B<=k->w.heap[k]?=some (.cells cs T fr)->w'.heap[k]?=some (.cells cs T fr)
theorem Ao.refl(T:TypeId)(B:Nat)(w:World):Ao T B w w:=fun _ _ _ _ h=>h
theorem Ao.trans{T:TypeId}{B:Nat}{x y z:World}(h:Ao T B x y)(k:Ao T B y z):Ao T B x z:=fun i cs fr c a=>k i cs fr c (h i cs fr c a)
theorem Ao.of_below{T:TypeId}{B:Nat}{w w':World}(h:vE w w'):Ao T B w w':=fun k cs fr _ a=>by rw[h.block k (Ab a)];exact a
theorem Ao.of_keep{T:TypeId}{B:Nat}{w w':World}{b:Nat}{cs:Array Value}{T':TypeId}{fr:Nat×Nat}(h:Ag b w w')(hb:w.heap[b]?=some (.cells cs T' fr))(hT:T'≠T):Ao T B w w':=fun k c fr' _ a=>by
 rw[h.block k (Ab a) (fun e=>by subst e;rw[hb]at a;cases a;exact hT rfl)];exact a
theorem Ao.keepF{T:TypeId}{B F:Nat}{w w':World}(h:Ag F w w')(hF:F<B):Ao T B w w':=fun k c fr' hk a=>by
 rw[h.block k (Ab a) (by omega)];exact a
theorem Ao.set{T:TypeId}{B F:Nat}{w:World}(hF:F<B)(i:Nat)(v:Value):Ao T B w (w.setCell ⟨F,i,none⟩ v):=Ao.keepF ((Ag.refl F w).setCell i v) hF
theorem Ao.setT{T:TypeId}{B F:Nat}{w:World}{cs:Array Value}{T':TypeId}{fr:Nat×Nat}(hF:w.heap[F]?=some (.cells cs T' fr))(hT:T'≠T)(i:Nat)(v:Value):Ao T B w (w.setCell ⟨F,i,none⟩ v):=Ao.of_keep ((Ag.refl F w).setCell i v) hF hT
theorem Ao.alloc{T:TypeId}{B:Nat}{w:World}(o:Obj):Ao T B w (w.alloc o):=Ao.of_below ((tM _ _).alloc (tL _) _)
theorem Bu.stays{B:Nat}{w w':World}(h:Ao 269 B w w'):∀{v:Value} {t:Bo},Bu w B v t->Bu w' B v t
 |_,.one _ _,⟨k,h1,hb,h2⟩=>⟨k,h1,hb,h k _ _ hb h2⟩
 |_,.list _ _,⟨k,u,h1,hb,h2,h3⟩=>⟨k,u,h1,hb,h k _ _ hb h2,Bu.stays h h3⟩
theorem Bu.mono{B C:Nat}{w:World}(hc:C<=B):∀{v:Value} {t:Bo},Bu w B v t->Bu w C v t
 |_,.one _ _,⟨k,h1,hb,h2⟩=>⟨k,h1,tQ hc hb,h2⟩
 |_,.list _ _,⟨k,u,h1,hb,h2,h3⟩=>⟨k,u,h1,tQ hc hb,h2,Bu.mono hc h3⟩
theorem LN(s:St)(b:Bool):ln (mayT s b)<=ln s:=by
 unfold mayT;split
 ·exact BG s
 ·exact tL _
def Ih:vD:=Az [116,114,117,101]
def If:vD:=Az [102,97,108,115,101]
def Lt:vD:=Az [110,117,108,108]
def Ip(s:St):Bool:=Ad s 2||Ad s 3||Bn s Ih||Bn s If||Bn s Lt
theorem fQ(s:St)(h:Ip s=true):Ad s 0=false:=by
 unfold Ip Ad Bn at h;unfold Ad;rw[beq_eq_false_iff_ne];intro e;rw[e]at h;simp at h
theorem Sd(X:World)(N b:Nat)(h:b≠N)(x y z u:Value):((((X.setCell ⟨N,0,none⟩ x).setCell ⟨N,1,none⟩ y).setCell ⟨N,2,none⟩ z).setCell ⟨N,3,none⟩ u).heap[b]?=X.heap[b]?:=by
 rw[tX _ _ _ _ h,tX _ _ _ _ h,tX _ _ _ _ h,tX _ _ _ _ h]
structure FV where
 sh:Nat
 n:Int
 s:vD
 la:Option Addr
 ln:Nat
 lc:Nat
def Ck(x:FV):Value:=.agg #[.int .i64 x.sh,.int .i64 x.n,.string x.s,.slice x.la x.ln x.lc]
def Lx:FV:=⟨0,0,⟨#[]⟩,none,0,0⟩
def Gq(s:St):FV:=
 if rk (hd s).k=2 then⟨1,(hd s).n,⟨#[]⟩,none,0,0⟩else if rk (hd s).k=3 then⟨2,0,rs (hd s),none,0,0⟩
 else if rk (hd s).k=1/\((rs (hd s)).toList==[116,114,117,101])=true then⟨3,1,⟨#[]⟩,none,0,0⟩
 else if rk (hd s).k=1/\((rs (hd s)).toList==[102,97,108,115,101])=true then⟨3,0,⟨#[]⟩,none,0,0⟩else Lx
section
variable {w w':World} {b:Nat} {L:Value} {ts:List Tk} {R:List Value} {T:TypeId} {s s0:St}
end
def MD:vD:=Az [110,111,116]
def MA:vD:=Az [97,108,108]
def Ls:vD:=Az [105,115]
def MI:vD:=Az [118,105,101,119,101,114]
theorem jI(s:St)(h:s.isNone=false):ln (nmT s)<ln s:=by
 unfold nmT;split
 ·rename_i hk;exact EG s 1 (by decide) hk
 ·match s,h with
  |some l,_=>simp[ln]
def ME:vD:=Az [114,111,108,101]
def MH:vD:=Az [116,121,112,101]
def Zs:vD:=Az [105,110,116,101,114,102,97,99,101]
def Zu:vD:=Az [117,110,105,111,110]
def Ra(x:vD):Bool:=decide (x=ME)||decide (x=MH)||decide (x=Zs)||decide (x=Zu)
theorem gH(x:vD):Ra x=((x.toList==[114,111,108,101])||(x.toList==[116,121,112,101])||(x.toList==[105,110,116,101,114,102,97,99,101])||(x.toList==[117,110,105,111,110])):=by
 rw[BN,BN,BN,BN];rfl
def MS:St->Bool
 |some []=>true
 |_=>false
def Np(s:St):Bool:=Ad s 1&&!Ra (hd s).s
structure At where
 name:vD
 inc:List vD
def Bi(l:List vD):List Value:=l.map Value.string
theorem NA(l:List vD)(x:vD):Bi (l++[x])=Bi l++[.string x]:=by simp[Bi]
def NU:vD:=Az [105,109,112,108,101,109,101,110,116,115]
def MF:vD:=Az [114,111,119,115]
def Zt:vD:=Az [83,116,114,105,110,103]
def Zp:vD:=Az [66,111,111,108,101,97,110]
def Ef(x:vD):Bool:=decide (x=Zr)||decide (x=Zt)||decide (x=Zp)||decide (x=Zq)
theorem rD(x:vD):Ef x=((x.toList==[73,110,116])||(x.toList==[83,116,114,105,110,103])||(x.toList==[66,111,111,108,101,97,110])||(x.toList==[73,68])):=by
 rw[BN,BN,BN,BN];rfl
def DK(w:World)(v:Value)(l:List vD):Prop:=∃a cap,v=.slice a l.length cap/\l.length<=cap/\(l=[]\/∃g off,a=some ⟨g,off,none⟩/\∀j x,l[j]?=some x->w.cell? ⟨g,off+j,none⟩=some (.string x))
def AS(x:vD)(l:List vD):Bool:=l.any fun y=>decide (y=x)
theorem Fv(x:vD)(l:List vD):AS x l=true↔x∈l:=by
 unfold AS;rw[List.any_eq_true];constructor
 ·rintro⟨y,h1,h2⟩;simp only[uF]at h2;rw[<-h2];exact h1
 ·intro h;exact⟨x,h,by simp⟩
theorem Nl(x:vD)(l:List vD)(h:¬x∈l):AS x l=false:=by
 cases hb:AS x l
 ·rfl
 ·exact absurd ((Fv x l).1 hb) h
theorem DK.of_own{w:World}{base:Nat}{v:Value}{l:List vD}(h:w.ownsRow base 9 1 v l.length (Bi l)):DK w v l:=by
 rcases h.2 with⟨rfl,h0⟩|⟨g,cap,cur,rfl,hg,hh,h1,h2,h3,h4⟩
 ·have:l=[]:=tZ h0
  subst this;exact⟨none,0,rfl,tL _,Or.inl rfl⟩
 ·refine⟨_,cap,rfl,h1,Or.inr ⟨g,0,rfl,?_⟩⟩
  intro j x hj;have hjl:j<l.length:=(tP.1 hj).1;rw[Nat.zero_add,h.cellAt j (by omega)];simp[Bi,hj]
theorem DK.below{w w':World}{v:Value}{l:List vD}(h:DK w v l)(hb:vE w w'):DK w' v l:=by
 obtain⟨a,cap,h1,h2,h3⟩:=h;refine⟨a,cap,h1,h2,?_⟩;rcases h3 with h3|⟨g,off,h3,h4⟩
 ·exact Or.inl h3
 ·refine Or.inr ⟨g,off,h3,fun j x hj=>?_⟩
  have hc:=h4 j x hj;rw[hb.cell (p:=⟨g,off+j,none⟩) (tR w _ hc)];exact hc
def EX:List vD->vD->Nat->Int
 |[],_,_=> -1
 |y::l,x,n=>if y=x then(n:Int)else EX l x (n+1)
def Ae(l:List vD)(x:vD):Int:=EX l x 0
theorem JW:∀(l:List vD) (x:vD) (n:Nat),(∀y∈l,y≠x)->EX l x n= -1
 |[],_,_,_=>rfl
 |y::l,x,n,h=>by
  rw[EX,uB (h y (by simp)),JW l x (n+1) (fun z hz=>h z (by simp[hz]))]
theorem Jt:∀(l:List vD) (x:vD) (n k:Nat),(∀y∈l.take k,y≠x)->l[k]?=some x->EX l x n=((n+k:Nat):Int)
 |[],_,_,_,_,h=>by simp at h
 |y::l,x,n,0,_,h=>by simp at h;rw[EX,uC h];rfl
 |y::l,x,n,k+1,h1,h=>by
  rw[EX,uB (h1 y (by simp)),Jt l x (n+1) k (fun z hz=>h1 z (by simp[hz])) (by simpa using h)];congr 1;omega
theorem Ah{w w':World}{p:Addr}{u:Value}(hb:vE w w')(h:w.cell? p=some u):w'.cell? p=some u:=by
 rw[hb.cell (tR w _ h)];exact h
theorem KF(x:vD):x.toList.isEmpty=decide (x=bE):=by
 rw[Bool.eq_iff_iff];simp only[List.isEmpty_iff,uF];constructor
 ·intro h;apply ByteArray.ext;apply Array.toList_inj.1;rw[<-Lib.toList_data,h];rfl
 ·intro h;rw[h,Lib.toList_data];rfl
theorem Vy(u x:vD)(l:List vD):AS u (l++[x])=(AS u l||decide (x=u)):=by
 unfold AS;rw[List.any_append];simp
def rl:List Tk->List (Bool×vD)
 |[]=>[]
 |[_]=>[]
 |t::u::r=>
  if t.k=1 then
   if u.k=10 then(false,t.s)::rl (r.drop 1)
   else if t.s=Ls then(true,u.s)::rl r
   else rl (u::r)
  else rl (u::r)
 termination_by l=>l.length
 decreasing_by all_goals(simp;try omega)
theorem Cl{α:Type}(g:α->vD)(l:List α)(x:vD)(h:¬Ae (l.map g) x<0):∃(k:Nat) (a:α),Ae (l.map g) x=k/\l[k]?=some a/\g a=x/\k<l.length:=by
 have key:∀(l:List α) (n:Nat),¬EX (l.map g) x n<0->∃(k:Nat) (a:α),EX (l.map g) x n=((n+k:Nat):Int)/\l[k]?=some a/\g a=x:=by
  intro l
  induction l with
  |nil=>intro n hn;exact absurd (show(-1:Int)<0 by decide) hn
  |cons y l ih=>
   intro n hn;rw[List.map_cons,EX]at hn⊢;by_cases e:g y=x
   ·rw[uC e];exact⟨0,y,by simp,by simp,e⟩
   ·rw[uB e]at hn⊢
    obtain⟨k,a,h1,h2,h3⟩:=ih (n+1) hn;exact⟨k+1,a,by rw[h1];congr 1;omega,by simpa using h2,h3⟩
 obtain⟨k,a,h1,h2,h3⟩:=key l 0 h;rw[Nat.zero_add]at h1;exact⟨k,a,h1,h2,h3,(tP.1 h2).1⟩
theorem eu9:prog.underlying 9=some .string:=by kernel_rfl
theorem pk9:prog.plainKey 9=true:=by kernel_rfl
theorem Qu(w:World)(d:Nat)(xs ys:Array Value)(f:Field)(fs:List Field)(a b:vD)(hn:f.name≠ "_")(ht:f.type=9)(hx:xs[f.offset]?=some (.string a))(hy:ys[f.offset]?=some (.string b)):
 (Op.eqFields (d+1) xs ys (f::fs)).run prog w=if (a.toList==b.toList)=true then(Op.eqFields (d+1) xs ys fs).run prog w else .ok false w:=by
 rw[Op.eqFields,uC hn,ht];simp only[Sem.run_bind];rw[run_part_plain w pk9 hx,Result.andThen_ok,run_part_plain w pk9 hy,Result.andThen_ok,run_equalIn_string w d 9 a b eu9,Result.andThen_ok];cases (a.toList==b.toList)<;>simp
theorem TS(w:World)(d:Nat)(xs ys:Array Value):(Op.eqFields d xs ys []).run prog w=.ok true w:=by
 rw[Op.eqFields];rfl
theorem Wk(w:World)(o:Obj):(w.alloc o).heap[w.heap.size]?=some o:=tS w o
theorem qV(k n:Int)(y:vD)(w:World):(Instr.field 103 (.agg #[.int .i64 k,.string y,.int .i64 n]) 0).run prog w=.ok (.int .i64 k) w:=by kernel_rfl
theorem Pm(k n:Int)(y:vD)(w:World):(Instr.field 103 (.agg #[.int .i64 k,.string y,.int .i64 n]) 1).run prog w=.ok (.string y) w:=by kernel_rfl
theorem GS(w:World)(b G:Nat)(s:St)(K:Nat)(h:PS w b G s):
 Calls prog 37 #[.pointer (some ⟨b,0,none⟩),.int .i64 K] w fun e w'=>e=.returned (.bool (Ad s K))/\vE w w':=by
 have hfld:=qV;have hp:=Pb w b G s h;have HQ:=Aa (show Ad s K=decide ((hd s).k=K)from by unfold Ad;rw[Bool.eq_iff_iff];simp);generalize (hd s).k=k1 at*;generalize (hd s).s=y at*;generalize (hd s).n=n at*;by_cases e1:k1=K
 ·have t:((k1:Int)==K)=true:=by simp;omega
  go_enter func37,ntmps37;go_wp2_with fail;refine hp.mono ?_;clear hp;rintro e w1 ⟨rfl,hb1⟩;go_wp2_with fail;go_ret;exact⟨Ak (by rw[HQ.o,uH e1]),hb1⟩
 ·have t:((k1:Int)==K)=false:=by simp;omega
  go_enter func37,ntmps37;go_wp2_with fail;refine hp.mono ?_;clear hp;rintro e w1 ⟨rfl,hb1⟩;go_wp2_with fail;go_ret;exact⟨Ak (by rw[HQ.o,tT e1]),hb1⟩
theorem Sc(w:World)(b G:Nat)(s:St)(x:vD)(h:PS w b G s):
 Calls prog 116 #[.pointer (some ⟨b,0,none⟩),.string x] w fun e w'=>e=.returned (.bool (Bn s x))/\vE w w':=by
 have hp:=Pb w b G s h;have HQ:=Aa (show Bn s x=(decide ((hd s).k=1)&&((hd s).s.toList==x.toList))from by unfold Bn;rw[Cr];congr 1);generalize (hd s).k=k1 at*;generalize (hd s).s=y at*;generalize (hd s).n=n at*;by_cases e1:k1=1
 ·subst e1
  go_enter func116,ntmps116;go_wp2_with fail;refine hp.mono ?_;clear hp;rintro e w1 ⟨rfl,hb1⟩;go_wp2_with fail;go_ret;exact⟨Ak (by rw[HQ.o];simp),hb1.alloc hb1.size _⟩
 ·have t:((k1:Int)==1)=false:=by simp;omega
  go_enter func116,ntmps116;go_wp2_with fail;refine hp.mono ?_;clear hp;rintro e w1 ⟨rfl,hb1⟩;go_wp2_with fail;go_ret;exact⟨Ak (by rw[HQ.o,tT e1];rfl),hb1.alloc hb1.size _⟩
theorem OK(w:World)(b G:Nat)(s:St)(h:PS w b G s):
 Calls prog 69 #[.pointer (some ⟨b,0,none⟩)] w fun e w'=>e=.returned (.agg #[.int .i64 (hd s).k,.string (hd s).s,.int .i64 (hd s).n])/\PS w' b G (tl s)/\Ag b w w':=by
 have hlt:=h.lt;have h':PS (w.alloc (.cells #[.int .i64 0,.string ⟨#[]⟩,.int .i64 0] 103)) b G s:=h.below ((tM _ _).alloc (tL _) _);have hp:=Pb _ b G s h'
 match s,h,h',hp with
 |some (t::l),h,h',hp=>
  have hp:Calls prog 70 #[.pointer (some ⟨b,0,none⟩)] (w.alloc (.cells #[.int .i64 0,.string ⟨#[]⟩,.int .i64 0] 103)) fun e w'=>e=.returned (.agg #[.int .i64 t.k,.string t.s,.int .i64 t.n])/\Below (w.alloc (.cells #[.int .i64 0,.string ⟨#[]⟩,.int .i64 0] 103)).heap.size (w.alloc (.cells #[.int .i64 0,.string ⟨#[]⟩,.int .i64 0] 103)) w':=hp;show Calls _ _ _ _ fun e w'=>e=.returned (.agg #[.int .i64 t.k,.string t.s,.int .i64 t.n])/\PS w' b G (some l)/\Ag b w w';obtain⟨v0,p1,p2,_⟩:=h.st;obtain⟨off,cap,cur,rfl,hcap,hg0,_,_,_,htoks⟩:=WJ p2;have hgw:=Ab hg0;have HT:=Aa htoks;have HG0:=Aa hg0;have HP1:=Aa p1;clear htoks hg0 p1 p2;go_enter func69,ntmps69;go_wp2_with fail;refine hp.mono ?_;clear hp;rintro e w1 ⟨rfl,hb1⟩;have hX:=(h'.below hb1).below ((tM _ _).alloc (tL _) (.cells #[.int .i64 t.k,.string t.s,.int .i64 t.n] 103));have hc:=Jq _ b G _ hX;have hlow:vE w w1:=((tM _ _).alloc (tL _) _).trans (hb1.mono (by simp));have hlowX:vE w (w1.alloc (.cells #[.int .i64 t.k,.string t.s,.int .i64 t.n] 103)):=hlow.alloc hlow.size _;have q1:=(hlowX.block b hlt).trans HP1.o;have hg:=(hlowX.block G hgw).trans HG0.o;have c0:(w1.alloc (.cells #[.int .i64 t.k,.string t.s,.int .i64 t.n] 103)).cell? ⟨b,0,none⟩=some (.slice (some ⟨G,off,none⟩) (l.length+1) cap):=Ac q1 0;have f0:=Am q1 0;have hbw:b<w1.heap.size:=by have:=hb1.size;simp at this;omega
  have hgw1:G<w1.heap.size:=by have:=hb1.size;simp at this;omega
  have hs1:w.heap.size<w1.heap.size:=by have:=hb1.size;simp at this;omega
  have hcx:∀j,w1.cell? ⟨w.heap.size,j,none⟩=(w.alloc Bk).cell? ⟨w.heap.size,j,none⟩:=fun j=>hb1.cell (by simp);have hf0:∀j,w1.frozen? ⟨w.heap.size,j,none⟩=false:=fun j=>by rw[hb1.frozen (by simp)];exact Im w _ j
  have hc0:w1.cell? ⟨w.heap.size,0,none⟩=some (.int .i64 0):=by rw[hcx];simp[Bk]
  have hc1:w1.cell? ⟨w.heap.size,1,none⟩=some (.string ⟨#[]⟩):=by rw[hcx];simp[Bk]
  have hc2:w1.cell? ⟨w.heap.size,2,none⟩=some (.int .i64 0):=by rw[hcx];simp[Bk]
  have HK:=Aa (Ag.of_below (b:=b) hlow);have HG:=Aa ((hlow.block G hgw).trans HG0.o);have HQ1:=Aa ((hlow.block b hlt).trans HP1.o);have xS:=Aa hX.len;have HWF:=Aa hX.wf;clear hcx hb1 hX q1 hg h h' HG0 HP1;go_wp2_with fail;refine hc.mono ?_;clear hc;rw[show Cf (some (t::l))=false from rfl];rintro e w2 ⟨rfl,hw2⟩;have hw2:=hw2.symm;subst hw2;by_cases hc1':cap=1
  ·subst hc1'
   go_wp2_with fail;refine bodyPost_ret (v:=.agg #[.int .i64 t.k,.string t.s,.int .i64 t.n]) (by simp[results,results69,go_sem,hc0,hc1,hc2,hs1]) rfl ⟨rfl,⟨⟨.slice (some ⟨G,off,none⟩) 0 0,?_,?_,fun e=>by cases e⟩,?_,?_,?_⟩,?_⟩
   ·rw[AK _ _ _ (by simp[World.setCell];omega),La _ _ _ (by omega),AI HQ1.o 0 _];rfl
   ·left;exact⟨tZ (by simp only[Option.getD_some];omega),_,_,rfl⟩
   ·have:=xS.o;simp[ln]at this⊢;omega
   ·intro x hx;exact HWF.o x (uW _ hx)
   ·simp[World.setCell];omega
   ·exact((((HK.o.setCell 0 _).setNew _ (tL _) _).setNew _ (tL _) _).setNew _ (tL _) _).alloc _
  ·go_wp2_with fail
   refine bodyPost_ret (v:=.agg #[.int .i64 t.k,.string t.s,.int .i64 t.n]) (by simp[results,results69,go_sem,hc0,hc1,hc2,hs1]) rfl ⟨rfl,⟨⟨.slice (some ⟨G,off+3,none⟩) l.length (cap-1),?_,?_,fun e=>by cases e⟩,?_,?_,?_⟩,?_⟩
   ·rw[AK _ _ _ (by simp[World.setCell];omega),La _ _ _ (by omega),AI HQ1.o 0 _];rfl
   ·right;exact⟨off+3,cap-1,cur,rfl,by simp only[Option.getD_some];omega,by rw[AK _ _ _ (by simp[World.setCell];omega),La _ _ _ (by omega),tX _ _ _ _ (fun e=>by subst e;have:=HQ1.o;rw[HG.o]at this;cases this)];exact HG.o,HT.o⟩
   ·have:=xS.o;simp[ln]at this⊢;omega
   ·intro x hx;exact HWF.o x (uW _ hx)
   ·simp[World.setCell];omega
   ·exact((((HK.o.setCell 0 _).setNew _ (tL _) _).setNew _ (tL _) _).setNew _ (tL _) _).alloc _
 |some [],h,h',hp=>
  have hp:Calls prog 70 #[.pointer (some ⟨b,0,none⟩)] (w.alloc (.cells #[.int .i64 0,.string ⟨#[]⟩,.int .i64 0] 103)) fun e w'=>e=.returned (.agg #[.int .i64 0,.string ⟨#[]⟩,.int .i64 0])/\Below (w.alloc (.cells #[.int .i64 0,.string ⟨#[]⟩,.int .i64 0] 103)).heap.size (w.alloc (.cells #[.int .i64 0,.string ⟨#[]⟩,.int .i64 0] 103)) w':=hp;show Calls _ _ _ _ fun e w'=>e=.returned (.agg #[.int .i64 0,.string ⟨#[]⟩,.int .i64 0])/\PS w' b G (some [])/\Ag b w w';go_enter func69,ntmps69;go_wp2_with fail;refine hp.mono ?_;clear hp;rintro e w1 ⟨rfl,hb1⟩;have hX0:=h'.below hb1;have hc:=Jq _ b G _ (hX0.below ((tM _ _).alloc (tL _) (.cells #[.int .i64 0,.string ⟨#[]⟩,.int .i64 0] 103)));have hbw:b<w1.heap.size:=hX0.lt;have hgw1:G<w1.heap.size:=hX0.glt;have hgw:G<w.heap.size:=h.glt;have hs1:w.heap.size<w1.heap.size:=by have:=hb1.size;simp at this;omega
  have hcx:∀j,w1.cell? ⟨w.heap.size,j,none⟩=(w.alloc Bk).cell? ⟨w.heap.size,j,none⟩:=fun j=>hb1.cell (by simp);have hf0:∀j,w1.frozen? ⟨w.heap.size,j,none⟩=false:=fun j=>by rw[hb1.frozen (by simp)];exact Im w _ j
  have hc0:w1.cell? ⟨w.heap.size,0,none⟩=some (.int .i64 0):=by rw[hcx];simp[Bk]
  have hc1:w1.cell? ⟨w.heap.size,1,none⟩=some (.string ⟨#[]⟩):=by rw[hcx];simp[Bk]
  have hc2:w1.cell? ⟨w.heap.size,2,none⟩=some (.int .i64 0):=by rw[hcx];simp[Bk]
  have hlow:vE w w1:=((tM _ _).alloc (tL _) _).trans (hb1.mono (by simp));have HK:=Aa (Ag.of_below (b:=b) hlow);have HX:=Aa hX0;clear hcx hb1 hX0 h h';go_wp2_with fail;refine hc.mono ?_;clear hc;rw[show Cf (some [])=true from rfl];rintro e w2 ⟨rfl,hw2⟩;have hw2:=hw2.symm;subst hw2;go_wp2_with fail;refine bodyPost_ret (v:=.agg #[.int .i64 0,.string ⟨#[]⟩,.int .i64 0]) (by simp[results,results69,go_sem,hc0,hc1,hc2,hs1]) rfl ⟨rfl,?_,?_⟩
  ·exact HX.o.move (by rw[AK _ _ _ (by simp[World.setCell];omega),La _ _ _ (by omega)]) (by rw[AK _ _ _ (by simp[World.setCell];omega),La _ _ _ (by omega)]) (by simp[World.setCell])
  ·exact(((HK.o.setNew _ (tL _) _).setNew _ (tL _) _).setNew _ (tL _) _).alloc _
 |none,h,h',hp=>
  have hp:Calls prog 70 #[.pointer (some ⟨b,0,none⟩)] (w.alloc (.cells #[.int .i64 0,.string ⟨#[]⟩,.int .i64 0] 103)) fun e w'=>e=.returned (.agg #[.int .i64 0,.string ⟨#[]⟩,.int .i64 0])/\Below (w.alloc (.cells #[.int .i64 0,.string ⟨#[]⟩,.int .i64 0] 103)).heap.size (w.alloc (.cells #[.int .i64 0,.string ⟨#[]⟩,.int .i64 0] 103)) w':=hp;show Calls _ _ _ _ fun e w'=>e=.returned (.agg #[.int .i64 0,.string ⟨#[]⟩,.int .i64 0])/\PS w' b G none/\Ag b w w';go_enter func69,ntmps69;go_wp2_with fail;refine hp.mono ?_;clear hp;rintro e w1 ⟨rfl,hb1⟩;have hX0:=h'.below hb1;have hc:=Jq _ b G _ (hX0.below ((tM _ _).alloc (tL _) (.cells #[.int .i64 0,.string ⟨#[]⟩,.int .i64 0] 103)));have hbw:b<w1.heap.size:=hX0.lt;have hgw1:G<w1.heap.size:=hX0.glt;have hgw:G<w.heap.size:=h.glt;have hs1:w.heap.size<w1.heap.size:=by have:=hb1.size;simp at this;omega
  have hcx:∀j,w1.cell? ⟨w.heap.size,j,none⟩=(w.alloc Bk).cell? ⟨w.heap.size,j,none⟩:=fun j=>hb1.cell (by simp);have hf0:∀j,w1.frozen? ⟨w.heap.size,j,none⟩=false:=fun j=>by rw[hb1.frozen (by simp)];exact Im w _ j
  have hc0:w1.cell? ⟨w.heap.size,0,none⟩=some (.int .i64 0):=by rw[hcx];simp[Bk]
  have hc1:w1.cell? ⟨w.heap.size,1,none⟩=some (.string ⟨#[]⟩):=by rw[hcx];simp[Bk]
  have hc2:w1.cell? ⟨w.heap.size,2,none⟩=some (.int .i64 0):=by rw[hcx];simp[Bk]
  have hlow:vE w w1:=((tM _ _).alloc (tL _) _).trans (hb1.mono (by simp));have HK:=Aa (Ag.of_below (b:=b) hlow);have HX:=Aa hX0;clear hcx hb1 hX0 h h';go_wp2_with fail;refine hc.mono ?_;clear hc;rw[show Cf none=true from rfl];rintro e w2 ⟨rfl,hw2⟩;have hw2:=hw2.symm;subst hw2;go_wp2_with fail;refine bodyPost_ret (v:=.agg #[.int .i64 0,.string ⟨#[]⟩,.int .i64 0]) (by simp[results,results69,go_sem,hc0,hc1,hc2,hs1]) rfl ⟨rfl,?_,?_⟩
  ·exact HX.o.move (by rw[AK _ _ _ (by simp[World.setCell];omega),La _ _ _ (by omega)]) (by rw[AK _ _ _ (by simp[World.setCell];omega),La _ _ _ (by omega)]) (by simp[World.setCell])
  ·exact(((HK.o.setNew _ (tL _) _).setNew _ (tL _) _).setNew _ (tL _) _).alloc _
theorem Ev(w:World)(b G:Nat)(s:St)(K:Nat)(h:PS w b G s):
 Calls prog 117 #[.pointer (some ⟨b,0,none⟩),.int .i64 K] w fun e w'=>e=.returned (.bool (Ad s K))/\PS w' b G (mayT s (Ad s K))/\Ag b w w':=by
 have hc:=GS w b G s K h;cases hx:Ad s K
 ·rw[hx]at hc
  go_enter func117,ntmps117;go_wp2_with fail;refine hc.mono ?_;clear hc;rintro e w1 ⟨rfl,hb1⟩;go_wp2_with fail;go_ret;exact⟨rfl,h.below hb1,Ag.of_below hb1⟩
 ·rw[hx]at hc
  go_enter func117,ntmps117;go_wp2_with fail;refine hc.mono ?_;clear hc;rintro e w1 ⟨rfl,hb1⟩;have hn:=OK w1 b G s (h.below hb1);go_wp2_with fail;refine hn.mono ?_;clear hn;rintro e w2 ⟨rfl,hp,hk⟩;go_wp2_with fail;go_ret;exact⟨rfl,hp,(Ag.of_below hb1).trans hk⟩
theorem Lf(w:World)(b G:Nat)(s:St)(x:vD)(h:PS w b G s):
 Calls prog 65 #[.pointer (some ⟨b,0,none⟩),.string x] w fun e w'=>e=.returned (.bool (Bn s x))/\PS w' b G (mayT s (Bn s x))/\Ag b w w':=by
 have hc:=Sc w b G s x h;cases hx:Bn s x
 ·rw[hx]at hc
  go_enter func65,ntmps65;go_wp2_with fail;refine hc.mono ?_;clear hc;rintro e w1 ⟨rfl,hb1⟩;go_wp2_with fail;go_ret;exact⟨rfl,h.below hb1,Ag.of_below hb1⟩
 ·rw[hx]at hc
  go_enter func65,ntmps65;go_wp2_with fail;refine hc.mono ?_;clear hc;rintro e w1 ⟨rfl,hb1⟩;have hn:=OK w1 b G s (h.below hb1);go_wp2_with fail;refine hn.mono ?_;clear hn;rintro e w2 ⟨rfl,hp,hk⟩;go_wp2_with fail;go_ret;exact⟨rfl,hp,(Ag.of_below hb1).trans hk⟩
theorem OJ(w:World)(b G:Nat)(s:St)(x:vD)(h:PS w b G s):
 Calls prog 119 #[.pointer (some ⟨b,0,none⟩),.string x] w fun e w'=>e=.returned (.tuple #[])/\PS w' b G (mustT s (Bn s x))/\Ag b w w':=by
 have hc:=Lf w b G s x h;cases hx:Bn s x
 ·rw[hx]at hc
  go_enter func119,ntmps119;go_wp2_with fail;refine hc.mono ?_;clear hc;rintro e w1 ⟨rfl,hp1,hk1⟩;have hn:=FO w1 b G s hp1;go_wp2_with fail;refine hn.mono ?_;clear hn;rintro e w2 ⟨rfl,hp,hk⟩;go_wp2_with fail;go_end0;exact⟨rfl,hp,hk1.trans hk⟩
 ·rw[hx]at hc
  go_enter func119,ntmps119;go_wp2_with fail;refine hc.mono ?_;clear hc;rintro e w1 ⟨rfl,hp1,hk1⟩;go_wp2_with fail;go_end0;exact⟨rfl,hp1,hk1⟩
def Ay(s:St)(K:Nat):Tk:=if Ad s K=true then hd s else Li
theorem lB(s:St):nm s=(Ay s 1).s:=by unfold nm Ay;split<;>rfl
theorem kY(s:St):nmT s=mustT s (Ad s 1):=rfl
theorem XJ{w:World}{b G N:Nat}{s:St}(h:PS w b G s)(h1:b≠N)(h2:G≠N)(x y z:Value):PS (((w.setCell ⟨N,0,none⟩ x).setCell ⟨N,1,none⟩ y).setCell ⟨N,2,none⟩ z) b G s:=
 ((h.set h1 h2 _ _).set h1 h2 _ _).set h1 h2 _ _
theorem Cc(w:World)(b G:Nat)(s:St)(K:Nat)(h:PS w b G s):
 Calls prog 36 #[.pointer (some ⟨b,0,none⟩),.int .i64 K] w fun e w'=>e=.returned (.agg #[.int .i64 (Ay s K).k,.string (Ay s K).s,.int .i64 (Ay s K).n])/\PS w' b G (mustT s (Ad s K))/\Ag b w w':=by
 have hlt:=h.lt;have hgl:=h.glt;have h':PS (w.alloc (.cells #[.int .i64 0,.string ⟨#[]⟩,.int .i64 0] 103)) b G s:=h.alloc _;have hc:=GS _ b G s K h';have hka:Ag b w (w.alloc (.cells #[.int .i64 0,.string ⟨#[]⟩,.int .i64 0] 103)):=(Ag.refl b w).alloc _;have hN:(w.alloc (.cells #[.int .i64 0,.string ⟨#[]⟩,.int .i64 0] 103)).heap[w.heap.size]?=some (.cells #[.int .i64 0,.string ⟨#[]⟩,.int .i64 0] 103 (0,0)):=tS w _;cases hx:Ad s K
 ·rw[hx]at hc
  have e0:Ay s K=Li:=by unfold Ay;rw[hx];rfl
  rw[e0];show Calls _ _ _ _ fun e w'=>e=.returned (.agg #[.int .i64 0,.string ⟨#[]⟩,.int .i64 0])/\PS w' b G none/\Ag b w w';go_enter func36,ntmps36;go_wp2_with fail;refine hc.mono ?_;clear hc;rintro e w1 ⟨rfl,hb1⟩;have hn:=FO w1 b G s (h'.below hb1);have hN1:=(hb1.block w.heap.size (by simp)).trans hN;have hk1:Ag b w w1:=hka.trans (Ag.of_below hb1);go_wp2_with fail;refine hn.mono ?_;clear hn;rintro e w2 ⟨rfl,hp,hk⟩;have hN2:=hk.at hN1 (by omega);have hs2:w.heap.size<w2.heap.size:=Ab hN2;have hc0:w2.cell? ⟨w.heap.size,0,none⟩=some (.int .i64 0):=Ac hN2 0;have hc1:w2.cell? ⟨w.heap.size,1,none⟩=some (.string ⟨#[]⟩):=Ac hN2 1;have hc2:w2.cell? ⟨w.heap.size,2,none⟩=some (.int .i64 0):=Ac hN2 2;have hf:∀j,w2.frozen? ⟨w.heap.size,j,none⟩=false:=fun j=>Am hN2 j;have HP:=Aa hp;have HK:=Aa (hk1.trans hk);clear hp hk hk1 hka hN hN1 h h' hb1 hN2;go_wp2_with fail;refine bodyPost_ret (v:=.agg #[.int .i64 0,.string ⟨#[]⟩,.int .i64 0]) (by simp[results,results36,go_sem,hc0,hc1,hc2]) rfl ⟨rfl,?_,?_⟩
  ·exact XJ HP.o (by omega) (by omega) _ _ _
  ·exact((HK.o.setNew _ (tL _) _).setNew _ (tL _) _).setNew _ (tL _) _
 ·rw[hx]at hc
  have e0:Ay s K=hd s:=by unfold Ay;rw[hx];rfl
  rw[e0];show Calls _ _ _ _ fun e w'=>e=.returned (.agg #[.int .i64 (hd s).k,.string (hd s).s,.int .i64 (hd s).n])/\PS w' b G (tl s)/\Ag b w w';have hn0:=fun w1 h=>OK w1 b G s h;generalize (hd s).k=k1 at*;generalize (hd s).s=y1 at*;generalize (hd s).n=n1 at*;go_enter func36,ntmps36;go_wp2_with fail;refine hc.mono ?_;clear hc;rintro e w1 ⟨rfl,hb1⟩;have hn:=hn0 w1 (h'.below hb1);have hN1:=(hb1.block w.heap.size (by simp)).trans hN;have hk1:Ag b w w1:=hka.trans (Ag.of_below hb1);clear hn0;go_wp2_with fail;refine hn.mono ?_;clear hn;rintro e w2 ⟨rfl,hp,hk⟩;have hN2:=hk.at hN1 (by omega);have hs2:w.heap.size<w2.heap.size:=Ab hN2;have hc0:w2.cell? ⟨w.heap.size,0,none⟩=some (.int .i64 0):=Ac hN2 0;have hc1:w2.cell? ⟨w.heap.size,1,none⟩=some (.string ⟨#[]⟩):=Ac hN2 1;have hc2:w2.cell? ⟨w.heap.size,2,none⟩=some (.int .i64 0):=Ac hN2 2;have hf:∀j,w2.frozen? ⟨w.heap.size,j,none⟩=false:=fun j=>Am hN2 j;have HP:=Aa hp;have HK:=Aa (hk1.trans hk);clear hp hk hk1 hka hN hN1 h h' hb1 hN2;go_wp2_with fail;refine bodyPost_ret (v:=.agg #[.int .i64 k1,.string y1,.int .i64 n1]) (by simp[results,results36,go_sem,hc0,hc1,hc2]) rfl ⟨rfl,?_,?_⟩
  ·exact XJ HP.o (by omega) (by omega) _ _ _
  ·exact((HK.o.setNew _ (tL _) _).setNew _ (tL _) _).setNew _ (tL _) _
theorem DX(w:World)(b G:Nat)(s:St)(h:PS w b G s):
 Calls prog 97 #[.pointer (some ⟨b,0,none⟩)] w fun e w'=>e=.returned (.string (nm s))/\PS w' b G (nmT s)/\Ag b w w':=by
 have hfld:=Pm;have hc:=Cc w b G s 1 h;rw[lB,kY];generalize (Ay s 1).k=k1 at*;generalize (Ay s 1).s=y1 at*;generalize (Ay s 1).n=n1 at*;go_enter func97,ntmps97;go_wp2_with fail;refine hc.mono ?_;clear hc;rintro e w1 ⟨rfl,hp,hk⟩;go_wp2_with fail;go_ret;exact⟨rfl,hp,hk⟩
theorem Pg(x:vD)(w:World)(hs:x.size<=maxLen):
 Calls prog 32 #[.string x] w fun e w'=>∃b G,e=.returned (.pointer (some ⟨b,0,none⟩))/\w.heap.size<=b/\PS w' b G (Af x)/\vE w w':=by
 have hc:=oA x w hs;go_enter func32,ntmps32;go_wp2_with fail;refine hc.mono ?_;clear hc;rintro e w1 ⟨v,q,ts,rfl,hb1,hrow,hcut,hz⟩;obtain⟨aV,capV,rfl⟩:∃a c,v=.slice a ts.length c:=by
  rcases hrow.2 with⟨hv,hn⟩|⟨g,cap,cur,hv,_⟩
  ·exact⟨none,0,by rw[hv,hn]⟩
  ·exact⟨_,_,hv⟩
 have yO:=Aa hrow;have HZ:=Aa hz;have HCUT:=Aa hcut;clear hrow hz hcut;go_wp2_with fail;go_ret;have hrow:=yO.o;have hz:=HZ.o;have hcut:=HCUT.o;have hnew:=tS w1 (.cells #[.slice aV ts.length capV,.bool (!q)] 155 (0,0));have hwf:(∀t∈(Af x).getD [],KU t)/\ln (Af x)<=801:=by
  cases hq:Af x with
  |none=>exact⟨fun t ht=>by simp at ht,by simp[ln]⟩
  |some l=>obtain⟨a,b⟩:=MO x l hq;exact⟨by simpa using a,by simp[ln];omega⟩
 have e1:(Af x).isNone=!q:=by rw[hcut];cases q<;>rfl
 have e2:(Af x).getD []=ts:=by
  rw[hcut];cases q
  ·exact((hz rfl).1).symm
  ·rfl
 have e3:Af x=none->Value.slice aV ts.length capV=.slice none 0 0:=by
  intro h;rw[h]at hcut;cases q
  ·exact(hz rfl).2
  ·cases hcut
 rcases hrow.2 with⟨hv,hn⟩|⟨g,cap,cur,hv,hg,hh,hcap,_,_,htk⟩
 ·exact⟨w1.heap.size,w1.heap.size,rfl,hb1.size,⟨⟨_,by rw[e1];exact hnew,by rw[e2];exact Or.inl ⟨tZ hn,_,_,hv⟩,e3⟩,hwf.2,hwf.1,by simp⟩,hb1.alloc hb1.size _⟩
 ·exact⟨w1.heap.size,g,rfl,hb1.size,⟨⟨_,by rw[e1];exact hnew,by rw[e2];exact Or.inr ⟨0,cap,cur,hv,hcap,by rw[AK _ _ _ (Ab hh)];exact hh,by simpa using htk⟩,e3⟩,hwf.2,hwf.1,by have:=Ab hh;simp;omega⟩,hb1.alloc hb1.size _⟩
def PP(w:World)(p b S:Nat):Prop:=w.heap[p]?=some (.cells #[.pointer (some ⟨b,0,none⟩),.pointer (some ⟨S,0,none⟩)] 148 (0,0))
theorem PP.lt{w:World}{p b S:Nat}(h:PP w p b S):p<w.heap.size:=Ab h
theorem PP.c0{w:World}{p b S:Nat}(h:PP w p b S):w.cell? ⟨p,0,none⟩=some (.pointer (some ⟨b,0,none⟩)):=Ac h 0
theorem PP.c1{w:World}{p b S:Nat}(h:PP w p b S):w.cell? ⟨p,1,none⟩=some (.pointer (some ⟨S,0,none⟩)):=Ac h 1
theorem PP.below{w w':World}{p b S:Nat}(h:PP w p b S)(hb:vE w w'):PP w' p b S:=by
 unfold PP at*;rw[hb.block p (Ab h)];exact h
theorem PP.alloc{w:World}{p b S:Nat}(h:PP w p b S)(o:Obj):PP (w.alloc o) p b S:=h.below ((tM _ _).alloc (tL _) _)
theorem PP.keepF{w w':World}{p b S F:Nat}(h:PP w p b S)(hk:Ag F w w')(hF:p≠F):PP w' p b S:=by
 unfold PP at*;rw[hk.block p (Ab h) hF];exact h
theorem PP.ne{w:World}{p b S F:Nat}{cs:Array Value}{T:TypeId}{fr:Nat×Nat}(h:PP w p b S)(hF:w.heap[F]?=some (.cells cs T fr))(hT:T≠148):p≠F:=fun e=>by
 subst e;unfold PP at h;rw[h]at hF;cases hF;exact hT rfl
theorem PP.keep{w w':World}{p b S G:Nat}{s:St}(h:PP w p b S)(hs:PS w b G s)(hk:Ag b w w'):PP w' p b S:=by
 obtain⟨c,hc⟩:=hs.ty;exact h.keepF hk (h.ne hc (by decide))
theorem PP.set{w:World}{p b S F:Nat}{cs:Array Value}{T:TypeId}{fr:Nat×Nat}(h:PP w p b S)(hF:w.heap[F]?=some (.cells cs T fr))(hT:T≠148)(i:Nat)(v:Value):PP (w.setCell ⟨F,i,none⟩ v) p b S:=
 h.keepF ((Ag.refl F w).setCell i v) (h.ne hF hT)
theorem PS.stay{T:TypeId}{B:Nat}{w w':World}{b G:Nat}{s:St}(h:PS w b G s)(hk:Ag b w w')(hT:T≠155:=by decide):Ao T B w w':=by
 obtain⟨c,hc⟩:=h.ty;exact Ao.of_keep hk hc (fun e=>hT e.symm)
theorem pT:∀(f:Nat) (w:World) (p b S G:Nat) (s:St),ln s<=f->PP w p b S->PS w b G s->
 Calls prog 222 #[.pointer (some ⟨p,0,none⟩)] w fun e w'=>∃k,e=.returned (.pointer (some ⟨k,0,none⟩))/\Bu w' w.heap.size (.pointer (some ⟨k,0,none⟩)) (BL (f+1) s).1/\PS w' b G (BL (f+1) s).2/\Ag b w w':=by
 intro f
 induction f using Nat.strongRecOn with
 |_ f ih=>
 intro w p b S G s hl hP h;have hlt:=h.lt;have hgl:=h.glt;have hpl:=hP.lt;have h0:PS (w.alloc (.cells #[.string ⟨#[]⟩,.int .i64 0,.pointer none,.bool false] 269)) b G s:=h.alloc _;have P0:PP (w.alloc (.cells #[.string ⟨#[]⟩,.int .i64 0,.pointer none,.bool false] 269)) p b S:=hP.alloc _;have N0:(w.alloc (.cells #[.string ⟨#[]⟩,.int .i64 0,.pointer none,.bool false] 269)).heap[w.heap.size]?=some (.cells #[.string ⟨#[]⟩,.int .i64 0,.pointer none,.bool false] 269 (0,0)):=tS w _;have K0:Ag b w (w.alloc (.cells #[.string ⟨#[]⟩,.int .i64 0,.pointer none,.bool false] 269)):=(Ag.refl b w).alloc _;have hc:=Ev _ b G s 12 h0;have c0:=P0.c0;have cp:=hP.c0;cases hx:Ad s 12
 ·rw[hx]at hc
  rw[show BL (f+1) s=(.one (nm s) (Ad (nmT s) 5),mayT (nmT s) (Ad (nmT s) 5))from by simp[BL,hx]];have H0:=Aa h0;have HP0:=Aa P0;have HN0:=Aa N0;clear h0 P0 N0 hP h ih;go_enter func222,ntmps222;go_wp2_with fail;refine hc.mono ?_;clear hc;rintro e w1 ⟨rfl,h1,k1⟩;have P1:=HP0.o.keep H0.o k1;have N1:=k1.at HN0.o (by omega);have c1:=P1.c0;have hn:=DX w1 b G s h1;have K1:=Aa (K0.trans k1);have H1:=Aa h1;have HP1:=Aa P1;have HN1:=Aa N1;clear H0 HP0 HN0 c0 k1 h1 P1 N1 K0;go_wp2_with fail;refine hn.mono ?_;clear hn;rintro e w2 ⟨rfl,h2,k2⟩;have P2:=HP1.o.keep H1.o k2;have N2:=k2.at HN1.o (by omega);have c2:=P2.c0;have f2:=Am N2 0;have c20:w2.cell? ⟨w.heap.size,0,none⟩=some (.string ⟨#[]⟩):=Ac N2 0;have h3:=h2.set (F:=w.heap.size) (by omega) (by omega) 0 (.string (nm s));have P3:=P2.set N2 (by decide) 0 (.string (nm s));have N3:=AI N2 0 (.string (nm s));have ht:=Ev _ b G (nmT s) 5 h3;have K2:=Aa ((K1.o.trans k2).setNew ⟨w.heap.size,0,none⟩ (tL _) (.string (nm s)));have HN3:=Aa N3;have hsz:=Ab N2;have hpn:p≠w.heap.size:=by omega
  clear H1 HP1 HN1 c1 k2 h2 P2 N2 P3 h3 K1 N3;go_wp2_with fail;refine ht.mono ?_;clear ht;rintro e w3 ⟨rfl,h4,k3⟩;have N4:=k3.at HN3.o (by omega);have f4:=Am N4 3;have c43:w3.cell? ⟨w.heap.size,3,none⟩=some (.bool false):=Ac N4 3;have HN4:=Aa N4;have H4:=Aa h4;have K4:=Aa (K2.o.trans k3);clear N4 HN3 h4 k3 K2 f2 c20 c2;go_wp2_with fail;go_ret;exact⟨_,rfl,⟨_,rfl,tL _,AI HN4.o 3 _⟩,H4.o.set (by omega) (by omega) _ _,K4.o.setNew _ (tL _) _⟩
 ·rw[hx]at hc
  obtain⟨f',rfl⟩:∃f',f=f'+1:=⟨f-1,by have:=EG s 12 (by decide) hx;omega⟩;have hl':ln (tl s)<=f':=by have:=EG s 12 (by decide) hx;omega
  rw[show BL (f'+1+1) s=(.list (BL (f'+1) (tl s)).1 (Ad (mustT (BL (f'+1) (tl s)).2 (Ad (BL (f'+1) (tl s)).2 13)) 5),mayT (mustT (BL (f'+1) (tl s)).2 (Ad (BL (f'+1) (tl s)).2 13)) (Ad (mustT (BL (f'+1) (tl s)).2 (Ad (BL (f'+1) (tl s)).2 13)) 5))from by rw[BL,uC hx]];have ih:=fun W P h=>ih f' (by omega) W p b S G (tl s) hl' P h;generalize (BL (f'+1) (tl s)).1=ty at*;generalize (BL (f'+1) (tl s)).2=s1 at*;have H0:=Aa h0;have HP0:=Aa P0;have HN0:=Aa N0;clear h0 P0 N0 hP h;go_enter func222,ntmps222;go_wp2_with fail;refine hc.mono ?_;clear hc;rintro e w1 ⟨rfl,h1,k1⟩;have P1:=HP0.o.keep H0.o k1;have N1:=k1.at HN0.o (by omega);have c1:=P1.c0;have f1:=Am N1 1;have c11:w1.cell? ⟨w.heap.size,1,none⟩=some (.int .i64 0):=Ac N1 1;have h2:PS (w1.setCell ⟨w.heap.size,1,none⟩ (.int .i64 1)) b G (tl s):=h1.set (by omega) (by omega) 1 (.int .i64 1);have P2:=P1.set N1 (by decide) 1 (.int .i64 1);have N2:=AI N1 1 (.int .i64 1);have K2:=Aa ((K0.trans k1).setNew ⟨w.heap.size,1,none⟩ (tL _) (.int .i64 1));have hn:=ih _ P2 h2;have hpn:p≠w.heap.size:=by omega
  have hsz:=Ab N1;have H2:=Aa h2;have HP2:=Aa P2;have HN2:=Aa N2;clear H0 HP0 HN0 c0 k1 h1 P1 N1 h2 P2 N2 ih K0;go_wp2_with fail;refine hn.mono ?_;clear hn;rintro e w3 ⟨k,rfl,t3,h3,k3⟩;have P3:=HP2.o.keep H2.o k3;have N3:=k3.at HN2.o (by omega);have c3:=P3.c0;have f3:=Am N3 2;have c32:w3.cell? ⟨w.heap.size,2,none⟩=some (.pointer none):=Ac N3 2;have hsz3:=Ab N3;have t4:=(t3.mono (C:=w.heap.size+1) (by simp[World.setCell];omega)).stays (Ao.set (F:=w.heap.size) (by omega) 2 (.pointer (some ⟨k,0,none⟩)));have h4:=h3.set (F:=w.heap.size) (by omega) (by omega) 2 (.pointer (some ⟨k,0,none⟩));have P4:=P3.set N3 (by decide) 2 (.pointer (some ⟨k,0,none⟩));have N4:=AI N3 2 (.pointer (some ⟨k,0,none⟩));have K4:=Aa ((K2.o.trans k3).setNew ⟨w.heap.size,2,none⟩ (tL _) (.pointer (some ⟨k,0,none⟩)));have hm:=Cc _ b G _ 13 h4;have HT4:=Aa t4;have H4:=Aa h4;have HP4:=Aa P4;have HN4:=Aa N4;clear K2 HP2 HN2 k3 h3 P3 N3 t3 t4 h4 P4 N4 c1 f1 c11 hsz H2;go_wp2_with fail;refine hm.mono ?_;clear hm;rintro e w5 ⟨rfl,h5,k5⟩;have P5:=HP4.o.keep H4.o k5;have N5:=k5.at HN4.o (by omega);have c5:=P5.c0;have ht:=Ev _ b G _ 5 h5;have t5:=HT4.o.stays (H4.o.stay k5);have K5:=Aa (K4.o.trans k5);have H5:=Aa h5;have HN5:=Aa N5;have HT5:=Aa t5;clear K4 H4 HP4 HN4 k5 h5 P5 N5 t5 HT4 f3 c32 c3;go_wp2_with fail;refine ht.mono ?_;clear ht;rintro e w6 ⟨rfl,h6,k6⟩;have N6:=k6.at HN5.o (by omega);have f6:=Am N6 3;have c63:w6.cell? ⟨w.heap.size,3,none⟩=some (.bool false):=Ac N6 3;have HT6:=Aa (HT5.o.stays (H5.o.stay k6));have HN6:=Aa N6;have H6:=Aa h6;have K6:=Aa (K5.o.trans k6);clear N6 HN5 h6 k6 K5 c5 H5 HT5;go_wp2_with fail;go_ret;exact⟨_,rfl,⟨_,_,rfl,tL _,AI HN6.o 3 _,(HT6.o.stays (Ao.set (F:=w.heap.size) (Nat.lt_succ_self _) _ _)).mono (Nat.le_succ _)⟩,H6.o.set (F:=w.heap.size) (by omega) (by omega) _ _,K6.o.setNew _ (tL _) _⟩
structure CC(b F:Nat)(w w':World):Prop where
 os:w'.os=w.os
 tape:w'.tape=w.tape
 output:w'.output=w.output
 size:w.heap.size<=w'.heap.size
 block:∀k,k<w.heap.size->k≠b->k≠F->w'.heap[k]?=w.heap[k]?
theorem CC.of{b F:Nat}{w w':World}(h:Ag b w w'):CC b F w w':=⟨h.os,h.tape,h.output,h.size,fun k hk hb _=>h.block k hk hb⟩
theorem CC.trans{b F:Nat}{x y z:World}(h:CC b F x y)(k:CC b F y z):CC b F x z:=
 ⟨k.os.trans h.os,k.tape.trans h.tape,k.output.trans h.output,tQ h.size k.size,fun i hi hb hf=>(k.block i (tV hi h.size) hb hf).trans (h.block i hi hb hf)⟩
theorem CC.setF{b F:Nat}{x y:World}(h:CC b F x y)(i:Nat)(v:Value):CC b F x (y.setCell ⟨F,i,none⟩ v):=
 h.trans ⟨rfl,rfl,rfl,by simp[World.setCell],fun k _ _ hf=>tX _ _ _ _ hf⟩
theorem Ag.two{b F:Nat}{x y z:World}(h:Ag b x y)(k:CC b F y z)(hF:x.heap.size<=F):Ag b x z:=
 ⟨k.os.trans h.os,k.tape.trans h.tape,k.output.trans h.output,tQ h.size k.size,fun i hi hb=>(k.block i (tV hi h.size) hb (by omega)).trans (h.block i hi hb)⟩
theorem Nu(w:World)(p b S G:Nat)(s:St)(hP:PP w p b S)(h:PS w b G s):
 Calls prog 140 #[.pointer (some ⟨p,0,none⟩)] w fun e w'=>e=.returned (.agg #[.string (nm s)])/\PS w' b G (nmT s)/\Ag b w w':=by
 have hlt:=h.lt;have hgl:=h.glt;have hpl:=hP.lt;have H0:=Aa h;have HP0:=Aa hP;have HK0:=Aa (Ag.refl b w);have c0:=hP.c0;clear h hP;have H1:=Aa (H0.o.alloc (.cells #[.string ⟨#[]⟩] 164));have HP1:=Aa (HP0.o.alloc (.cells #[.string ⟨#[]⟩] 164));have HK1:=Aa (HK0.o.alloc (.cells #[.string ⟨#[]⟩] 164));have HN1R:=Aa (show(w.alloc (.cells #[.string ⟨#[]⟩] 164)).heap[w.heap.size]?=some (.cells #[.string ⟨#[]⟩] 164 (0,0))from tS _ _);clear H0 HP0 HK0;have c1:=HP1.o.c0;have hc:=DX (w.alloc (.cells #[.string ⟨#[]⟩] 164)) b G s H1.o;go_enter func140,ntmps140;go_wp2_with fail;refine hc.mono ?_;clear hc;rintro e w2 ⟨rfl,h2,k2⟩;have HP2:=Aa (HP1.o.keep H1.o k2);have HK2:=Aa (HK1.o.trans k2);have xR:=Aa (k2.at HN1R.o (by omega));have z2R:=Ab xR.o;have H2:=Aa h2;have c2:=HP2.o.c0;have zw2:=HK2.o.size;clear H1 HP1 HK1 HN1R h2 k2;have d3:w2.cell? ⟨w.heap.size,0,none⟩=some (.string ⟨#[]⟩):=Ac xR.o 0;have f4:=Am xR.o 0;have H5:=Aa (H2.o.set (F:=w.heap.size) (by omega) (by omega) 0 (.string (nm s)));have HP5:=Aa (HP2.o.set xR.o (by decide) 0 (.string (nm s)));have HK5:=Aa (HK2.o.setNew ⟨w.heap.size,0,none⟩ (by(try simp only[]);omega) (.string (nm s)));have HN5R:=Aa (show(w2.setCell ⟨w.heap.size,0,none⟩ (.string (nm s))).heap[w.heap.size]?=some (.cells #[.string (nm s)] 164 (0,0))from AI xR.o 0 (.string (nm s)));clear H2 HP2 HK2 xR;go_wp2_with fail;exact bodyPost_ret (v:=.agg #[.string (nm s)]) (by simp[results,results140,go_sem, *]) rfl ⟨rfl,H5.o,HK5.o⟩
def EH(r:vD)(s:St):vD×St:=
 (nm (mustT (if r=bE then s else none) (Ad (if r=bE then s else none) 7)),mustT (nmT (mustT (if r=bE then s else none) (Ad (if r=bE then s else none) 7))) (Ad (nmT (mustT (if r=bE then s else none) (Ad (if r=bE then s else none) 7))) 8))
theorem Xl(w:World)(p b S G F j:Nat)(s:St)(r:vD)(cs:Array Value)(hP:PP w p b S)(h:PS w b G s)(hF:w.heap[F]?=some (.cells cs 248 (0,0)))(hGF:G≠F)(hj:cs[j]?=some (.string r)):
 Calls prog 240 #[.pointer (some ⟨p,0,none⟩),.pointer (some ⟨F,j,none⟩)] w fun e w'=>e=.returned (.tuple #[])/\PS w' b G (EH r s).2/\w'.heap[F]?=some (.cells (cs.setIfInBounds j (.string (EH r s).1)) 248 (0,0))/\CC b F w w':=by
 have hbF:b≠F:=fun e=>by subst e;obtain⟨c,hc⟩:=h.ty;rw[hc]at hF;cases hF
 have hcell:w.cell? ⟨F,j,none⟩=some (.string r):=(Ac hF j).trans hj;have c0:=hP.c0;have HF:=Aa hF;have HJ:=Aa hj;have H0:=Aa h;have HP0:=Aa hP;cases he:r.toList.isEmpty
 ·have e0:r≠bE:=by have:=KF r;rw[he]at this;simpa using this
  rw[show EH r s=(nm (mustT none (Ad none 7)),mustT (nmT (mustT none (Ad none 7))) (Ad (nmT (mustT none (Ad none 7))) 8))from by unfold EH;rw[uB e0]];have hc:=FO w b G s h;clear hF hj h hP e0;go_enter func240,ntmps240;go_wp2_with fail;refine hc.mono ?_;clear hc;rintro e w1 ⟨rfl,h1,k1⟩;have HF1:=Aa (k1.at HF.o hbF.symm);have HP1:=Aa (HP0.o.keep H0.o k1);have H1:=Aa h1;have K1:=Aa (CC.of (F:=F) k1);have c1:=HP1.o.c0;have hn:=Cc w1 b G none 7 h1;clear h1 k1;go_wp2_with fail;refine hn.mono ?_;clear hn;rintro e w2 ⟨rfl,h2,k2⟩;have HF2:=Aa (k2.at HF1.o hbF.symm);have HP2:=Aa (HP1.o.keep H1.o k2);have H2:=Aa h2;have K2:=Aa (K1.o.trans (CC.of (F:=F) k2));have c2:=HP2.o.c0;have hm:=DX w2 b G _ h2;clear h2 k2;go_wp2_with fail;refine hm.mono ?_;clear hm;rintro e w3 ⟨rfl,h3,k3⟩;have HF3:=Aa (k3.at HF2.o hbF.symm);have HP3:=Aa (HP2.o.keep H2.o k3);have c3:=HP3.o.c0;have fz:=Am HF3.o j;have d3:w3.cell? ⟨F,j,none⟩=some (.string r):=(Ac HF3.o j).trans HJ.o;have h4:=h3.set hbF hGF j (.string (nm (mustT none (Ad none 7))));have HF4:=Aa (AI HF3.o j (.string (nm (mustT none (Ad none 7)))));have HP4:=Aa (HP3.o.set HF3.o (by decide) j (.string (nm (mustT none (Ad none 7)))));have c4:=HP4.o.c0;have K4:=Aa ((K2.o.trans (CC.of (F:=F) k3)).setF j (.string (nm (mustT none (Ad none 7)))));have hq:=Cc _ b G _ 8 h4;have hpF:p≠F:=HP3.o.ne HF3.o (by decide);clear h3 k3 h4;go_wp2_with fail;refine hq.mono ?_;clear hq;rintro e w5 ⟨rfl,h5,k5⟩;have HF5:=Aa (k5.at HF4.o hbF.symm);have K5:=Aa (K4.o.trans (CC.of (F:=F) k5));have H5:=Aa h5;clear h5 k5;go_wp2_with fail;go_end0;exact⟨rfl,H5.o,HF5.o,K5.o⟩
 ·have e0:r=bE:=by have:=KF r;rw[he]at this;simpa using this.symm
  rw[show EH r s=(nm (mustT s (Ad s 7)),mustT (nmT (mustT s (Ad s 7))) (Ad (nmT (mustT s (Ad s 7))) 8))from by unfold EH;rw[uC e0]];have HF1:=HF;have HP1:=HP0;have H1:=H0;have K1:=Aa (CC.of (F:=F) (Ag.refl b w));have hn:=Cc w b G s 7 h;clear hF hj h hP e0;go_enter func240,ntmps240;go_wp2_with fail;refine hn.mono ?_;clear hn;rintro e w2 ⟨rfl,h2,k2⟩;have HF2:=Aa (k2.at HF1.o hbF.symm);have HP2:=Aa (HP1.o.keep H1.o k2);have H2:=Aa h2;have K2:=Aa (K1.o.trans (CC.of (F:=F) k2));have c2:=HP2.o.c0;have hm:=DX w2 b G _ h2;clear h2 k2;go_wp2_with fail;refine hm.mono ?_;clear hm;rintro e w3 ⟨rfl,h3,k3⟩;have HF3:=Aa (k3.at HF2.o hbF.symm);have HP3:=Aa (HP2.o.keep H2.o k3);have c3:=HP3.o.c0;have fz:=Am HF3.o j;have d3:w3.cell? ⟨F,j,none⟩=some (.string r):=(Ac HF3.o j).trans HJ.o;have h4:=h3.set hbF hGF j (.string (nm (mustT s (Ad s 7))));have HF4:=Aa (AI HF3.o j (.string (nm (mustT s (Ad s 7)))));have HP4:=Aa (HP3.o.set HF3.o (by decide) j (.string (nm (mustT s (Ad s 7)))));have c4:=HP4.o.c0;have K4:=Aa ((K2.o.trans (CC.of (F:=F) k3)).setF j (.string (nm (mustT s (Ad s 7)))));have hq:=Cc _ b G _ 8 h4;have hpF:p≠F:=HP3.o.ne HF3.o (by decide);clear h3 k3 h4;go_wp2_with fail;refine hq.mono ?_;clear hq;rintro e w5 ⟨rfl,h5,k5⟩;have HF5:=Aa (k5.at HF4.o hbF.symm);have K5:=Aa (K4.o.trans (CC.of (F:=F) k5));have H5:=Aa h5;clear h5 k5;go_wp2_with fail;go_end0;exact⟨rfl,H5.o,HF5.o,K5.o⟩
def Ee(a h:vD)(s:St):(vD×vD)×St:=
 if nm s=Tj then(((EH a (nmT s)).1,h),(EH a (nmT s)).2)
 else if nm s=Tl then((a,(EH h (nmT s)).1),(EH h (nmT s)).2)
 else((a,h),none)
theorem pO(w:World)(p b S G F:Nat)(s:St)(n a hh x y:vD)(u:Value)(hP:PP w p b S)(h:PS w b G s)(hF:w.heap[F]?=some (.cells #[.string n,.string a,.string hh,.string x,.string y,u] 248 (0,0)))(hGF:G≠F):
 Calls prog 223 #[.pointer (some ⟨p,0,none⟩),.pointer (some ⟨F,0,none⟩)] w fun e w'=>e=.returned (.tuple #[])/\PS w' b G (Ee a hh s).2/\w'.heap[F]?=some (.cells #[.string n,.string (Ee a hh s).1.1,.string (Ee a hh s).1.2,.string x,.string y,u] 248 (0,0))/\CC b F w w':=by
 have hbF:b≠F:=fun e=>by subst e;obtain⟨c,hc⟩:=h.ty;rw[hc]at hF;cases hF
 have c0:=hP.c0;have HF:=Aa hF;have H0:=Aa h;have HP0:=Aa hP;have hc:=DX w b G s h;have L1:=BN (nm s) [97,117,116,104];have L2:=BN (nm s) [104,105,100,101];clear hF h hP;by_cases e1:nm s=Tj
 ·rw[show Ee a hh s=(((EH a (nmT s)).1,hh),(EH a (nmT s)).2)from by unfold Ee;rw[uC e1]]
  rw[uH (show nm s=Az [97,117,116,104]from e1)]at L1;clear L2 e1;go_enter func223,ntmps223;go_wp2_with fail;refine hc.mono ?_;clear hc;rintro e w1 ⟨rfl,h1,k1⟩;have HF1:=Aa (k1.at HF.o hbF.symm);have HP1:=Aa (HP0.o.keep H0.o k1);have K1:=Aa (CC.of (F:=F) k1);have hq:=Xl w1 p b S G F 1 (nmT s) a _ HP1.o h1 HF1.o hGF rfl;clear h1 k1;go_wp2_with fail;refine hq.mono ?_;clear hq;rintro e w2 ⟨rfl,h2,hF2,k2⟩;have H2:=Aa h2;have HF2:=Aa hF2;have K2:=Aa k2;clear h2 hF2 k2;go_wp2_with fail;go_end0;exact⟨rfl,H2.o,HF2.o,K1.o.trans K2.o⟩
 rw[tT (show¬nm s=Az [97,117,116,104]from e1)]at L1;by_cases e2:nm s=Tl
 ·rw[show Ee a hh s=((a,(EH hh (nmT s)).1),(EH hh (nmT s)).2)from by unfold Ee;rw[uB e1,uC e2]]
  rw[uH (show nm s=Az [104,105,100,101]from e2)]at L2;clear e1 e2;go_enter func223,ntmps223;go_wp2_with fail;refine hc.mono ?_;clear hc;rintro e w1 ⟨rfl,h1,k1⟩;have HF1:=Aa (k1.at HF.o hbF.symm);have HP1:=Aa (HP0.o.keep H0.o k1);have K1:=Aa (CC.of (F:=F) k1);have hq:=Xl w1 p b S G F 2 (nmT s) hh _ HP1.o h1 HF1.o hGF rfl;clear h1 k1;go_wp2_with fail;refine hq.mono ?_;clear hq;rintro e w2 ⟨rfl,h2,hF2,k2⟩;have H2:=Aa h2;have HF2:=Aa hF2;have K2:=Aa k2;clear h2 hF2 k2;go_wp2_with fail;go_end0;exact⟨rfl,H2.o,HF2.o,K1.o.trans K2.o⟩
 rw[tT (show¬nm s=Az [104,105,100,101]from e2)]at L2;rw[show Ee a hh s=((a,hh),none)from by unfold Ee;rw[uB e1,uB e2]];clear e1 e2;go_enter func223,ntmps223;go_wp2_with fail;refine hc.mono ?_;clear hc;rintro e w1 ⟨rfl,h1,k1⟩;have HF1:=Aa (k1.at HF.o hbF.symm);have HP1:=Aa (HP0.o.keep H0.o k1);have K1:=Aa (CC.of (F:=F) k1);have c1:=HP1.o.c0;have hq:=FO w1 b G _ h1;clear h1 k1;go_wp2_with fail;refine hq.mono ?_;clear hq;rintro e w2 ⟨rfl,h2,k2⟩;have H2:=Aa h2;have HF2:=Aa (k2.at HF1.o hbF.symm);have K2:=Aa (CC.of (F:=F) k2);clear h2 k2;go_wp2_with fail;go_end0;exact⟨rfl,H2.o,HF2.o,K1.o.trans K2.o⟩
end Go.Proofs.YtadneapobijejaaGreatDoor
