import Derived.Test.YtogdodlibkckkaaGreatDoorZ04
import Derived.Deep.QuietTactic
import Derived.BigQuiet
import Derived.Deep.LoopGhost
import Derived.Deep.DeepCutAuto
import Derived.Deep.CutBlock
import Derived.Deep.RegionWith
import Derived.Laws.StructEq
import Derived.ChangeKeysEq
import Derived.Laws.Runes
namespace Go.Proofs.YtogdodlibkckkaaGreatDoor
set_option maxHeartbeats 20000000
set_option maxRecDepth 100000
open Go.RowKit Tryz
theorem Cy(y x:yF):(y.toList==x.toList)=decide (y=x):=by
 rw[Lib.toList_data,Lib.toList_data,Bool.eq_iff_iff];simp only[beq_iff_eq,xK];constructor
 ·intro a;exact ByteArray.ext (Array.toList_inj.1 a)
 ·intro a;rw[a]
section
variable {w w':World} {b:Nat} {L:Value} {ts:List Tk} {R:List Value} {T:TypeId} {s s0:St}
end
theorem Ag.at{b F:Nat}{w w':World}{o:Obj}(a:Ag b w w')(hF:w.heap[F]?=some o)(c:F≠b):w'.heap[F]?=some o:=by
 rw[a.block F (Ab hF) c];exact hF
theorem SR{w:World}{F N:Nat}{o:Obj}(a:w.heap[F]?=some o)(b:F≠N)(i:Nat)(v:Value):(w.setCell ⟨N,i,none⟩ v).heap[F]?=some o:=by
 rw[xC _ _ _ _ b];exact a
theorem LA(w:World)(o a:Obj):((w.alloc o).alloc a).heap[w.heap.size]?=some o:=by
 rw[AJ _ _ _ (by simp),wX]
theorem MC(w:World)(o a:Obj):((w.alloc o).alloc a).heap[w.heap.size+1]?=some a:=by
 have:=wX (w.alloc o) a
 rwa [show(w.alloc o).heap.size=w.heap.size+1 by simp]at this
theorem Jk(w:World)(o a:Obj):yG w ((w.alloc o).alloc a):=((wR _ _).alloc (wQ _) _).alloc (by simp) _
theorem BX(y:yF)(l:List UInt8):(y.toList==l)=decide (y=Az l):=by
 rw[Lib.toList_data,Bool.eq_iff_iff];simp only[beq_iff_eq,xK];constructor
 ·intro a;apply ByteArray.ext;apply Array.toList_inj.1;rw[a];simp[Az]
 ·intro a;rw[a];simp[Az]
def bE:yF:=⟨#[]⟩
def De:yF:=Az [105,100]
def bI:yF:=Az [73,68]
def MZ:yF:=Az [102,105,114,115,116]
def bJ:yF:=Az [73,110,116]
def Uh:yF:=Az [97,117,116,104]
def Ui:yF:=Az [104,105,100,101]
theorem Bg(s:St):ln (nmT s)<=ln s:=by
 unfold nmT;split
 ·exact BI s
 ·simp[ln]
theorem DA(s:St)(b:Bool):ln (mustT s b)<=ln s:=by
 unfold mustT;split
 ·exact BI s
 ·simp[ln]
inductive Bv where
 |one (n:yF) (st:Bool)
 |list (t:Bv) (st:Bool)
def Bx(w:World)(B:Nat):Value->Bv->Prop
 |v,.one n st=>∃k,v=.pointer (some ⟨k,0,none⟩)/\B<=k/\w.heap[k]?=some (.cells #[.string n,.int .i64 0,.pointer none,.bool st] 302 (0,0))
 |v,.list t st=>∃k u,v=.pointer (some ⟨k,0,none⟩)/\B<=k/\w.heap[k]?=some (.cells #[.string ⟨#[]⟩,.int .i64 1,u,.bool st] 302 (0,0))/\Bx w B u t
def BO:Nat->St->Bv×St
 |0,s=>(.one ⟨#[]⟩ false,s)
 |f+1,s=>
  if Ae s 12=true then
   (.list (BO f (tl s)).1 (Ae (mustT (BO f (tl s)).2 (Ae (BO f (tl s)).2 13)) 5),mayT (mustT (BO f (tl s)).2 (Ae (BO f (tl s)).2 13)) (Ae (mustT (BO f (tl s)).2 (Ae (BO f (tl s)).2 13)) 5))
  else(.one (nm s) (Ae (nmT s) 5),mayT (nmT s) (Ae (nmT s) 5))
def Ap(T:TypeId)(B:Nat)(w w':World):Prop:=∀k cs a,B<=k->w.heap[k]?=some (.cells cs T a)->w'.heap[k]?=some (.cells cs T a)
theorem Ap.refl(T:TypeId)(B:Nat)(w:World):Ap T B w w:=fun _ _ _ _ a=>a
theorem Ap.trans{T:TypeId}{B:Nat}{x y z:World}(d:Ap T B x y)(k:Ap T B y z):Ap T B x z:=fun i cs b c a=>k i cs b c (d i cs b c a)
theorem Ap.of_below{T:TypeId}{B:Nat}{w w':World}(b:yG w w'):Ap T B w w':=fun k cs c _ a=>by rw[b.block k (Ab a)];exact a
theorem Ap.of_keep{T:TypeId}{B:Nat}{w w':World}{b:Nat}{cs:Array Value}{d:TypeId}{f:Nat×Nat}(g:Ag b w w')(hb:w.heap[b]?=some (.cells cs d f))(h:d≠T):Ap T B w w':=fun k c i _ a=>by
 rw[g.block k (Ab a) (fun e=>by subst e;rw[hb]at a;cases a;exact h rfl)];exact a
theorem Ap.keepF{T:TypeId}{B F:Nat}{w w':World}(b:Ag F w w')(hF:F<B):Ap T B w w':=fun k c d e a=>by
 rw[b.block k (Ab a) (by omega)];exact a
theorem Ap.set{T:TypeId}{B F:Nat}{w:World}(hF:F<B)(i:Nat)(v:Value):Ap T B w (w.setCell ⟨F,i,none⟩ v):=Ap.keepF ((Ag.refl F w).setCell i v) hF
theorem Ap.setT{T:TypeId}{B F:Nat}{w:World}{cs:Array Value}{a:TypeId}{b:Nat×Nat}(hF:w.heap[F]?=some (.cells cs a b))(c:a≠T)(i:Nat)(v:Value):Ap T B w (w.setCell ⟨F,i,none⟩ v):=Ap.of_keep ((Ag.refl F w).setCell i v) hF c
theorem Ap.alloc{T:TypeId}{B:Nat}{w:World}(o:Obj):Ap T B w (w.alloc o):=Ap.of_below ((wR _ _).alloc (wQ _) _)
theorem Bx.stays{B:Nat}{w w':World}(a:Ap 302 B w w'):∀{v:Value} {t:Bv},Bx w B v t->Bx w' B v t
 |_,.one _ _,⟨k,b,hb,c⟩=>⟨k,b,hb,a k _ _ hb c⟩
 |_,.list _ _,⟨k,u,b,hb,c,d⟩=>⟨k,u,b,hb,a k _ _ hb c,Bx.stays a d⟩
theorem Bx.mono{B C:Nat}{w:World}(c:C<=B):∀{v:Value} {t:Bv},Bx w B v t->Bx w C v t
 |_,.one _ _,⟨k,a,hb,b⟩=>⟨k,a,wV c hb,b⟩
 |_,.list _ _,⟨k,u,a,hb,b,d⟩=>⟨k,u,a,wV c hb,b,Bx.mono c d⟩
theorem Mo(s:St)(b:Bool):ln (mayT s b)<=ln s:=by
 unfold mayT;split
 ·exact BI s
 ·exact wQ _
def Iv:yF:=Az [116,114,117,101]
def It:yF:=Az [102,97,108,115,101]
def LS:yF:=Az [110,117,108,108]
def IB(s:St):Bool:=Ae s 2||Ae s 3||Bu s Iv||Bu s It||Bu s LS
theorem jS(s:St)(a:IB s=true):Ae s 0=false:=by
 unfold IB Ae Bu at a;unfold Ae;rw[beq_eq_false_iff_ne];intro e;rw[e]at a;simp at a
theorem SQ(c:World)(N b:Nat)(a:b≠N)(x y z u:Value):((((c.setCell ⟨N,0,none⟩ x).setCell ⟨N,1,none⟩ y).setCell ⟨N,2,none⟩ z).setCell ⟨N,3,none⟩ u).heap[b]?=c.heap[b]?:=by
 rw[xC _ _ _ _ a,xC _ _ _ _ a,xC _ _ _ _ a,xC _ _ _ _ a]
structure FV where
 sh:Nat
 n:Int
 s:yF
 la:Option Addr
 ln:Nat
 lc:Nat
def Ct(x:FV):Value:=.agg #[.int .i64 x.sh,.int .i64 x.n,.string x.s,.slice x.la x.ln x.lc]
def LY:FV:=⟨0,0,⟨#[]⟩,none,0,0⟩
def FA(s:St):FV:=
 if rk (hd s).k=2 then⟨1,(hd s).n,⟨#[]⟩,none,0,0⟩else if rk (hd s).k=3 then⟨2,0,rs (hd s),none,0,0⟩
 else if rk (hd s).k=1/\((rs (hd s)).toList==[116,114,117,101])=true then⟨3,1,⟨#[]⟩,none,0,0⟩
 else if rk (hd s).k=1/\((rs (hd s)).toList==[102,97,108,115,101])=true then⟨3,0,⟨#[]⟩,none,0,0⟩else LY
section
variable {w w':World} {b:Nat} {L:Value} {ts:List Tk} {R:List Value} {T:TypeId} {s s0:St}
end
def Nb:yF:=Az [110,111,116]
def MV:yF:=Az [97,108,108]
def LN:yF:=Az [105,115]
def Nh:yF:=Az [118,105,101,119,101,114]
theorem mP(s:St)(a:s.isNone=false):ln (nmT s)<ln s:=by
 unfold nmT;split
 ·rename_i b;exact ET s 1 (by decide) b
 ·match s,a with
  |some l,_=>simp[ln]
def Nc:yF:=Az [114,111,108,101]
def Ng:yF:=Az [116,121,112,101]
def bL:yF:=Az [105,110,116,101,114,102,97,99,101]
def bN:yF:=Az [117,110,105,111,110]
def RN(x:yF):Bool:=decide (x=Nc)||decide (x=Ng)||decide (x=bL)||decide (x=bN)
theorem kH(x:yF):RN x=((x.toList==[114,111,108,101])||(x.toList==[116,121,112,101])||(x.toList==[105,110,116,101,114,102,97,99,101])||(x.toList==[117,110,105,111,110])):=by
 rw[BX,BX,BX,BX];rfl
def Nr:St->Bool
 |some []=>true
 |_=>false
def NP(s:St):Bool:=Ae s 1&&!RN (hd s).s
structure Au where
 name:yF
 inc:List yF
def Bn(l:List yF):List Value:=l.map Value.string
theorem Oa(l:List yF)(x:yF):Bn (l++[x])=Bn l++[.string x]:=by simp[Bn]
def Oz:yF:=Az [105,109,112,108,101,109,101,110,116,115]
def Nd:yF:=Az [114,111,119,115]
def bM:yF:=Az [83,116,114,105,110,103]
def bH:yF:=Az [66,111,111,108,101,97,110]
def Ep(x:yF):Bool:=decide (x=bJ)||decide (x=bM)||decide (x=bH)||decide (x=bI)
theorem tT(x:yF):Ep x=((x.toList==[73,110,116])||(x.toList==[83,116,114,105,110,103])||(x.toList==[66,111,111,108,101,97,110])||(x.toList==[73,68])):=by
 rw[BX,BX,BX,BX];rfl
def DU(w:World)(v:Value)(l:List yF):Prop:=∃a cap,v=.slice a l.length cap/\l.length<=cap/\(l=[]\/∃g b,a=some ⟨g,b,none⟩/\∀j x,l[j]?=some x->w.cell? ⟨g,b+j,none⟩=some (.string x))
def AS(x:yF)(l:List yF):Bool:=l.any fun y=>decide (y=x)
theorem FD(x:yF)(l:List yF):AS x l=true↔x∈l:=by
 unfold AS;rw[List.any_eq_true];constructor
 ·rintro⟨y,c,a⟩;simp only[xK]at a;rw[<-a];exact c
 ·intro b;exact⟨x,b,by simp⟩
theorem NM(x:yF)(l:List yF)(a:¬x∈l):AS x l=false:=by
 cases hb:AS x l
 ·rfl
 ·exact absurd ((FD x l).1 hb) a
theorem DU.of_own{w:World}{base:Nat}{v:Value}{l:List yF}(a:w.ownsRow base 9 1 v l.length (Bn l)):DU w v l:=by
 rcases a.2 with⟨rfl,c⟩|⟨g,cap,e,rfl,k,m,d,f,h,i⟩
 ·have:l=[]:=xE c
  subst this;exact⟨none,0,rfl,wQ _,Or.inl rfl⟩
 ·refine⟨_,cap,rfl,d,Or.inr ⟨g,0,rfl,?_⟩⟩
  intro j x b;have n:j<l.length:=(wU.1 b).1;rw[Nat.zero_add,a.cellAt j (by omega)];simp[Bn,b]
theorem DU.below{w w':World}{v:Value}{l:List yF}(e:DU w v l)(hb:yG w w'):DU w' v l:=by
 obtain⟨a,cap,f,h,b⟩:=e;refine⟨a,cap,f,h,?_⟩;rcases b with b|⟨g,d,b,i⟩
 ·exact Or.inl b
 ·refine Or.inr ⟨g,d,b,fun j x k=>?_⟩
  have c:=i j x k;rw[hb.cell (p:=⟨g,d+j,none⟩) (wW w _ c)];exact c
def Fm:List yF->yF->Nat->Int
 |[],_,_=> -1
 |y::l,x,n=>if y=x then(n:Int)else Fm l x (n+1)
def Af(l:List yF)(x:yF):Int:=Fm l x 0
theorem Kk:∀(l:List yF) (x:yF) (n:Nat),(∀y∈l,y≠x)->Fm l x n= -1
 |[],_,_,_=>rfl
 |y::l,x,n,a=>by
  rw[Fm,xG (a y (by simp)),Kk l x (n+1) (fun z b=>a z (by simp[b]))]
theorem JE:∀(l:List yF) (x:yF) (n k:Nat),(∀y∈l.take k,y≠x)->l[k]?=some x->Fm l x n=((n+k:Nat):Int)
 |[],_,_,_,_,a=>by simp at a
 |y::l,x,n,0,_,a=>by simp at a;rw[Fm,xH a];rfl
 |y::l,x,n,k+1,b,a=>by
  rw[Fm,xG (b y (by simp)),JE l x (n+1) k (fun z c=>b z (by simp[c])) (by simpa using a)];congr 1;omega
theorem Ah{w w':World}{p:Addr}{u:Value}(hb:yG w w')(a:w.cell? p=some u):w'.cell? p=some u:=by
 rw[hb.cell (wW w _ a)];exact a
theorem KZ(x:yF):x.toList.isEmpty=decide (x=bE):=by
 rw[Bool.eq_iff_iff];simp only[List.isEmpty_iff,xK];constructor
 ·intro a;apply ByteArray.ext;apply Array.toList_inj.1;rw[<-Lib.toList_data,a];rfl
 ·intro a;rw[a,Lib.toList_data];rfl
theorem WH(u x:yF)(l:List yF):AS u (l++[x])=(AS u l||decide (x=u)):=by
 unfold AS;rw[List.any_append];simp
def rl:List Tk->List (Bool×yF)
 |[]=>[]
 |[_]=>[]
 |t::u::r=>
  if t.k=1 then
   if u.k=10 then(false,t.s)::rl (r.drop 1)
   else if t.s=LN then(true,u.s)::rl r
   else rl (u::r)
  else rl (u::r)
 termination_by l=>l.length
 decreasing_by all_goals(simp;try omega)
theorem Cu{α:Type}(g:α->yF)(l:List α)(x:yF)(h:¬Af (l.map g) x<0):∃(k:Nat) (a:α),Af (l.map g) x=k/\l[k]?=some a/\g a=x/\k<l.length:=by
 have key:∀(l:List α) (n:Nat),¬Fm (l.map g) x n<0->∃(k:Nat) (a:α),Fm (l.map g) x n=((n+k:Nat):Int)/\l[k]?=some a/\g a=x:=by
  intro l
  induction l with
  |nil=>intro n b;exact absurd (show(-1:Int)<0 by decide) b
  |cons y l i=>
   intro n b;rw[List.map_cons,Fm]at b⊢;by_cases e:g y=x
   ·rw[xH e];exact⟨0,y,by simp,by simp,e⟩
   ·rw[xG e]at b⊢
    obtain⟨k,a,c,d,f⟩:=i (n+1) b;exact⟨k+1,a,by rw[c];congr 1;omega,by simpa using d,f⟩
 obtain⟨k,a,c,d,f⟩:=key l 0 h;rw[Nat.zero_add]at c;exact⟨k,a,c,d,f,(wU.1 d).1⟩
theorem eu9:prog.underlying 9=some .string:=by kernel_rfl
theorem pk9:prog.plainKey 9=true:=by kernel_rfl
theorem Rm(w:World)(d:Nat)(xs ys:Array Value)(f:Field)(fs:List Field)(a b:yF)(c:f.name≠ "_")(e:f.type=9)(g:xs[f.offset]?=some (.string a))(h:ys[f.offset]?=some (.string b)):
 (Op.eqFields (d+1) xs ys (f::fs)).run prog w=if (a.toList==b.toList)=true then(Op.eqFields (d+1) xs ys fs).run prog w else .ok false w:=by
 rw[Op.eqFields,xH c,e];simp only[Sem.run_bind];rw[run_part_plain w pk9 g,Result.andThen_ok,run_part_plain w pk9 h,Result.andThen_ok,run_equalIn_string w d 9 a b eu9,Result.andThen_ok];cases (a.toList==b.toList)<;>simp
theorem UP(w:World)(d:Nat)(xs ys:Array Value):(Op.eqFields d xs ys []).run prog w=.ok true w:=by
 rw[Op.eqFields];rfl
theorem Xq(w:World)(o:Obj):(w.alloc o).heap[w.heap.size]?=some o:=wX w o
theorem tL(k n:Int)(y:yF)(w:World):(Instr.field 174 (.agg #[.int .i64 k,.string y,.int .i64 n]) 0).run prog w=.ok (.int .i64 k) w:=by kernel_rfl
theorem Qg(k n:Int)(y:yF)(w:World):(Instr.field 174 (.agg #[.int .i64 k,.string y,.int .i64 n]) 1).run prog w=.ok (.string y) w:=by kernel_rfl
theorem Hg(w:World)(b G:Nat)(s:St)(K:Nat)(h:PS w b G s):
 Calls prog 66 #[.pointer (some ⟨b,0,none⟩),.int .i64 K] w fun e w'=>e=.returned (.bool (Ae s K))/\yG w w':=by
 have i:=tL;have a:=PW w b G s h;have f:=Aa (show Ae s K=decide ((hd s).k=K)from by unfold Ae;rw[Bool.eq_iff_iff];simp);generalize (hd s).k=d at*;generalize (hd s).s=y at*;generalize (hd s).n=n at*;by_cases g:d=K
 ·have t:((d:Int)==K)=true:=by simp;omega
  go_enter func66,ntmps66;go_wp2_with fail;refine a.mono ?_;clear a;rintro e w1 ⟨rfl,c⟩;go_wp2;go_ret;exact⟨Al (by rw[f.o,xM g]),c⟩
 ·have t:((d:Int)==K)=false:=by simp;omega
  go_enter func66,ntmps66;go_wp2_with fail;refine a.mono ?_;clear a;rintro e w1 ⟨rfl,c⟩;go_wp2;go_ret;exact⟨Al (by rw[f.o,wY g]),c⟩
theorem SP(w:World)(b G:Nat)(s:St)(x:yF)(h:PS w b G s):
 Calls prog 152 #[.pointer (some ⟨b,0,none⟩),.string x] w fun e w'=>e=.returned (.bool (Bu s x))/\yG w w':=by
 have c:=PW w b G s h;have d:=Aa (show Bu s x=(decide ((hd s).k=1)&&((hd s).s.toList==x.toList))from by unfold Bu;rw[Cy];congr 1);generalize (hd s).k=g at*;generalize (hd s).s=y at*;generalize (hd s).n=n at*;by_cases f:g=1
 ·subst f
  go_enter func152,ntmps152;go_wp2_with fail;refine c.mono ?_;clear c;rintro e w1 ⟨rfl,a⟩;go_wp2;go_ret;exact⟨Al (by rw[d.o];simp),a.alloc a.size _⟩
 ·have t:((g:Int)==1)=false:=by simp;omega
  go_enter func152,ntmps152;go_wp2_with fail;refine c.mono ?_;clear c;rintro e w1 ⟨rfl,a⟩;go_wp2;go_ret;exact⟨Al (by rw[d.o,wY f];rfl),a.alloc a.size _⟩
theorem Px(w:World)(b G:Nat)(s:St)(f:PS w b G s):
 Calls prog 105 #[.pointer (some ⟨b,0,none⟩)] w fun e w'=>e=.returned (.agg #[.int .i64 (hd s).k,.string (hd s).s,.int .i64 (hd s).n])/\PS w' b G (tl s)/\Ag b w w':=by
 have S:=f.lt;have g:PS (w.alloc (.cells #[.int .i64 0,.string ⟨#[]⟩,.int .i64 0] 174)) b G s:=f.below ((wR _ _).alloc (wQ _) _);have c:=PW _ b G s g
 match s,f,g,c with
 |some (t::l),f,g,c=>
  have c:Calls prog 106 #[.pointer (some ⟨b,0,none⟩)] (w.alloc (.cells #[.int .i64 0,.string ⟨#[]⟩,.int .i64 0] 174)) fun e w'=>e=.returned (.agg #[.int .i64 t.k,.string t.s,.int .i64 t.n])/\Below (w.alloc (.cells #[.int .i64 0,.string ⟨#[]⟩,.int .i64 0] 174)).heap.size (w.alloc (.cells #[.int .i64 0,.string ⟨#[]⟩,.int .i64 0] 174)) w':=c;show Calls _ _ _ _ fun e w'=>e=.returned (.agg #[.int .i64 t.k,.string t.s,.int .i64 t.n])/\PS w' b G (some l)/\Ag b w w';obtain⟨v0,U,p2,_⟩:=f.st;obtain⟨C,cap,W,rfl,aa,I,_,_,_,T⟩:=XO p2;have B:=Ab I;have V:=Aa T;have D:=Aa I;have E:=Aa U;clear T I U p2;go_enter func105,ntmps105;go_wp2_with fail;refine c.mono ?_;clear c;rintro e w1 ⟨rfl,a⟩;have A:=(g.below a).below ((wR _ _).alloc (wQ _) (.cells #[.int .i64 t.k,.string t.s,.int .i64 t.n] 174));have p:=JA _ b G _ A;have m:yG w w1:=((wR _ _).alloc (wQ _) _).trans (a.mono (by simp));have R:yG w (w1.alloc (.cells #[.int .i64 t.k,.string t.s,.int .i64 t.n] 174)):=m.alloc m.size _;have K:=(R.block b S).trans E.o;have Y:=(R.block G B).trans D.o;have c0:(w1.alloc (.cells #[.int .i64 t.k,.string t.s,.int .i64 t.n] 174)).cell? ⟨b,0,none⟩=some (.slice (some ⟨G,C,none⟩) (l.length+1) cap):=Ac K 0;have Z:=Ak K 0;have O:b<w1.heap.size:=by have:=a.size;simp at this;omega
  have Q:G<w1.heap.size:=by have:=a.size;simp at this;omega
  have z:w.heap.size<w1.heap.size:=by have:=a.size;simp at this;omega
  have d:∀j,w1.cell? ⟨w.heap.size,j,none⟩=(w.alloc Bp).cell? ⟨w.heap.size,j,none⟩:=fun j=>a.cell (by simp);have P:∀j,w1.frozen? ⟨w.heap.size,j,none⟩=false:=fun j=>by rw[a.frozen (by simp)];exact Iz w _ j
  have r:w1.cell? ⟨w.heap.size,0,none⟩=some (.int .i64 0):=by rw[d];simp[Bp]
  have u:w1.cell? ⟨w.heap.size,1,none⟩=some (.string ⟨#[]⟩):=by rw[d];simp[Bp]
  have y:w1.cell? ⟨w.heap.size,2,none⟩=some (.int .i64 0):=by rw[d];simp[Bp]
  have q:=Aa (Ag.of_below (b:=b) m);have L:=Aa ((m.block G B).trans D.o);have F:=Aa ((m.block b S).trans E.o);have M:=Aa A.len;have N:=Aa A.wf;clear d a A K Y f g D E;go_wp2_with fail;refine p.mono ?_;clear p;rw[show Co (some (t::l))=false from rfl];rintro e w2 ⟨rfl,i⟩;have i:=i.symm;subst i;by_cases X:cap=1
  ·subst X
   go_wp2;refine bodyPost_ret (v:=.agg #[.int .i64 t.k,.string t.s,.int .i64 t.n]) (by simp[results,results105,go_sem,r,u,y,z]) rfl ⟨rfl,⟨⟨.slice (some ⟨G,C,none⟩) 0 0,?_,?_,fun e=>by cases e⟩,?_,?_,?_⟩,?_⟩
   ·rw[AJ _ _ _ (by simp[World.setCell];omega),Ls _ _ _ (by omega),AI F.o 0 _];rfl
   ·left;exact⟨xE (by simp only[Option.getD_some];omega),_,_,rfl⟩
   ·have:=M.o;simp[ln]at this⊢;omega
   ·intro x J;exact N.o x (yA _ J)
   ·simp[World.setCell];omega
   ·exact((((q.o.setCell 0 _).setNew _ (wQ _) _).setNew _ (wQ _) _).setNew _ (wQ _) _).alloc _
  ·go_wp2
   refine bodyPost_ret (v:=.agg #[.int .i64 t.k,.string t.s,.int .i64 t.n]) (by simp[results,results105,go_sem,r,u,y,z]) rfl ⟨rfl,⟨⟨.slice (some ⟨G,C+3,none⟩) l.length (cap-1),?_,?_,fun e=>by cases e⟩,?_,?_,?_⟩,?_⟩
   ·rw[AJ _ _ _ (by simp[World.setCell];omega),Ls _ _ _ (by omega),AI F.o 0 _];rfl
   ·right;exact⟨C+3,cap-1,W,rfl,by simp only[Option.getD_some];omega,by rw[AJ _ _ _ (by simp[World.setCell];omega),Ls _ _ _ (by omega),xC _ _ _ _ (fun e=>by subst e;have:=F.o;rw[L.o]at this;cases this)];exact L.o,V.o⟩
   ·have:=M.o;simp[ln]at this⊢;omega
   ·intro x J;exact N.o x (yA _ J)
   ·simp[World.setCell];omega
   ·exact((((q.o.setCell 0 _).setNew _ (wQ _) _).setNew _ (wQ _) _).setNew _ (wQ _) _).alloc _
 |some [],f,g,c=>
  have c:Calls prog 106 #[.pointer (some ⟨b,0,none⟩)] (w.alloc (.cells #[.int .i64 0,.string ⟨#[]⟩,.int .i64 0] 174)) fun e w'=>e=.returned (.agg #[.int .i64 0,.string ⟨#[]⟩,.int .i64 0])/\Below (w.alloc (.cells #[.int .i64 0,.string ⟨#[]⟩,.int .i64 0] 174)).heap.size (w.alloc (.cells #[.int .i64 0,.string ⟨#[]⟩,.int .i64 0] 174)) w':=c;show Calls _ _ _ _ fun e w'=>e=.returned (.agg #[.int .i64 0,.string ⟨#[]⟩,.int .i64 0])/\PS w' b G (some [])/\Ag b w w';go_enter func105,ntmps105;go_wp2_with fail;refine c.mono ?_;clear c;rintro e w1 ⟨rfl,a⟩;have h:=g.below a;have p:=JA _ b G _ (h.below ((wR _ _).alloc (wQ _) (.cells #[.int .i64 0,.string ⟨#[]⟩,.int .i64 0] 174)));have O:b<w1.heap.size:=h.lt;have Q:G<w1.heap.size:=h.glt;have B:G<w.heap.size:=f.glt;have z:w.heap.size<w1.heap.size:=by have:=a.size;simp at this;omega
  have d:∀j,w1.cell? ⟨w.heap.size,j,none⟩=(w.alloc Bp).cell? ⟨w.heap.size,j,none⟩:=fun j=>a.cell (by simp);have P:∀j,w1.frozen? ⟨w.heap.size,j,none⟩=false:=fun j=>by rw[a.frozen (by simp)];exact Iz w _ j
  have r:w1.cell? ⟨w.heap.size,0,none⟩=some (.int .i64 0):=by rw[d];simp[Bp]
  have u:w1.cell? ⟨w.heap.size,1,none⟩=some (.string ⟨#[]⟩):=by rw[d];simp[Bp]
  have y:w1.cell? ⟨w.heap.size,2,none⟩=some (.int .i64 0):=by rw[d];simp[Bp]
  have m:yG w w1:=((wR _ _).alloc (wQ _) _).trans (a.mono (by simp));have q:=Aa (Ag.of_below (b:=b) m);have H:=Aa h;clear d a h f g;go_wp2_with fail;refine p.mono ?_;clear p;rw[show Co (some [])=true from rfl];rintro e w2 ⟨rfl,i⟩;have i:=i.symm;subst i;go_wp2;refine bodyPost_ret (v:=.agg #[.int .i64 0,.string ⟨#[]⟩,.int .i64 0]) (by simp[results,results105,go_sem,r,u,y,z]) rfl ⟨rfl,?_,?_⟩
  ·exact H.o.move (by rw[AJ _ _ _ (by simp[World.setCell];omega),Ls _ _ _ (by omega)]) (by rw[AJ _ _ _ (by simp[World.setCell];omega),Ls _ _ _ (by omega)]) (by simp[World.setCell])
  ·exact(((q.o.setNew _ (wQ _) _).setNew _ (wQ _) _).setNew _ (wQ _) _).alloc _
 |none,f,g,c=>
  have c:Calls prog 106 #[.pointer (some ⟨b,0,none⟩)] (w.alloc (.cells #[.int .i64 0,.string ⟨#[]⟩,.int .i64 0] 174)) fun e w'=>e=.returned (.agg #[.int .i64 0,.string ⟨#[]⟩,.int .i64 0])/\Below (w.alloc (.cells #[.int .i64 0,.string ⟨#[]⟩,.int .i64 0] 174)).heap.size (w.alloc (.cells #[.int .i64 0,.string ⟨#[]⟩,.int .i64 0] 174)) w':=c;show Calls _ _ _ _ fun e w'=>e=.returned (.agg #[.int .i64 0,.string ⟨#[]⟩,.int .i64 0])/\PS w' b G none/\Ag b w w';go_enter func105,ntmps105;go_wp2_with fail;refine c.mono ?_;clear c;rintro e w1 ⟨rfl,a⟩;have h:=g.below a;have p:=JA _ b G _ (h.below ((wR _ _).alloc (wQ _) (.cells #[.int .i64 0,.string ⟨#[]⟩,.int .i64 0] 174)));have O:b<w1.heap.size:=h.lt;have Q:G<w1.heap.size:=h.glt;have B:G<w.heap.size:=f.glt;have z:w.heap.size<w1.heap.size:=by have:=a.size;simp at this;omega
  have d:∀j,w1.cell? ⟨w.heap.size,j,none⟩=(w.alloc Bp).cell? ⟨w.heap.size,j,none⟩:=fun j=>a.cell (by simp);have P:∀j,w1.frozen? ⟨w.heap.size,j,none⟩=false:=fun j=>by rw[a.frozen (by simp)];exact Iz w _ j
  have r:w1.cell? ⟨w.heap.size,0,none⟩=some (.int .i64 0):=by rw[d];simp[Bp]
  have u:w1.cell? ⟨w.heap.size,1,none⟩=some (.string ⟨#[]⟩):=by rw[d];simp[Bp]
  have y:w1.cell? ⟨w.heap.size,2,none⟩=some (.int .i64 0):=by rw[d];simp[Bp]
  have m:yG w w1:=((wR _ _).alloc (wQ _) _).trans (a.mono (by simp));have q:=Aa (Ag.of_below (b:=b) m);have H:=Aa h;clear d a h f g;go_wp2_with fail;refine p.mono ?_;clear p;rw[show Co none=true from rfl];rintro e w2 ⟨rfl,i⟩;have i:=i.symm;subst i;go_wp2;refine bodyPost_ret (v:=.agg #[.int .i64 0,.string ⟨#[]⟩,.int .i64 0]) (by simp[results,results105,go_sem,r,u,y,z]) rfl ⟨rfl,?_,?_⟩
  ·exact H.o.move (by rw[AJ _ _ _ (by simp[World.setCell];omega),Ls _ _ _ (by omega)]) (by rw[AJ _ _ _ (by simp[World.setCell];omega),Ls _ _ _ (by omega)]) (by simp[World.setCell])
  ·exact(((q.o.setNew _ (wQ _) _).setNew _ (wQ _) _).setNew _ (wQ _) _).alloc _
theorem EG(w:World)(b G:Nat)(s:St)(K:Nat)(d:PS w b G s):
 Calls prog 153 #[.pointer (some ⟨b,0,none⟩),.int .i64 K] w fun e w'=>e=.returned (.bool (Ae s K))/\PS w' b G (mayT s (Ae s K))/\Ag b w w':=by
 have a:=Hg w b G s K d;cases g:Ae s K
 ·rw[g]at a
  go_enter func153,ntmps153;go_wp2_with fail;refine a.mono ?_;clear a;rintro e w1 ⟨rfl,c⟩;go_wp2;go_ret;exact⟨rfl,d.below c,Ag.of_below c⟩
 ·rw[g]at a
  go_enter func153,ntmps153;go_wp2_with fail;refine a.mono ?_;clear a;rintro e w1 ⟨rfl,c⟩;have f:=Px w1 b G s (d.below c);go_wp2_with fail;refine f.mono ?_;clear f;rintro e w2 ⟨rfl,i,h⟩;go_wp2;go_ret;exact⟨rfl,i,(Ag.of_below c).trans h⟩
theorem Lw(w:World)(b G:Nat)(s:St)(x:yF)(d:PS w b G s):
 Calls prog 101 #[.pointer (some ⟨b,0,none⟩),.string x] w fun e w'=>e=.returned (.bool (Bu s x))/\PS w' b G (mayT s (Bu s x))/\Ag b w w':=by
 have a:=SP w b G s x d;cases g:Bu s x
 ·rw[g]at a
  go_enter func101,ntmps101;go_wp2_with fail;refine a.mono ?_;clear a;rintro e w1 ⟨rfl,c⟩;go_wp2;go_ret;exact⟨rfl,d.below c,Ag.of_below c⟩
 ·rw[g]at a
  go_enter func101,ntmps101;go_wp2_with fail;refine a.mono ?_;clear a;rintro e w1 ⟨rfl,c⟩;have f:=Px w1 b G s (d.below c);go_wp2_with fail;refine f.mono ?_;clear f;rintro e w2 ⟨rfl,i,h⟩;go_wp2;go_ret;exact⟨rfl,i,(Ag.of_below c).trans h⟩
theorem Pw(w:World)(b G:Nat)(s:St)(x:yF)(h:PS w b G s):
 Calls prog 155 #[.pointer (some ⟨b,0,none⟩),.string x] w fun e w'=>e=.returned (.tuple #[])/\PS w' b G (mustT s (Bu s x))/\Ag b w w':=by
 have a:=Lw w b G s x h;cases g:Bu s x
 ·rw[g]at a
  go_enter func155,ntmps155;go_wp2_with fail;refine a.mono ?_;clear a;rintro e w1 ⟨rfl,d,c⟩;have f:=Gc w1 b G s d;go_wp2_with fail;refine f.mono ?_;clear f;rintro e w2 ⟨rfl,j,i⟩;go_wp2;go_end0;exact⟨rfl,j,c.trans i⟩
 ·rw[g]at a
  go_enter func155,ntmps155;go_wp2_with fail;refine a.mono ?_;clear a;rintro e w1 ⟨rfl,d,c⟩;go_wp2;go_end0;exact⟨rfl,d,c⟩
def Ay(s:St)(K:Nat):Tk:=if Ae s K=true then hd s else LE
theorem oP(s:St):nm s=(Ay s 1).s:=by unfold nm Ay;split<;>rfl
theorem oK(s:St):nmT s=mustT s (Ae s 1):=rfl
theorem YQ{w:World}{b G N:Nat}{s:St}(d:PS w b G s)(a:b≠N)(c:G≠N)(x y z:Value):PS (((w.setCell ⟨N,0,none⟩ x).setCell ⟨N,1,none⟩ y).setCell ⟨N,2,none⟩ z) b G s:=
 ((d.set a c _ _).set a c _ _).set a c _ _
theorem Cj(w:World)(b G:Nat)(s:St)(K:Nat)(d:PS w b G s):
 Calls prog 65 #[.pointer (some ⟨b,0,none⟩),.int .i64 K] w fun e w'=>e=.returned (.agg #[.int .i64 (Ay s K).k,.string (Ay s K).s,.int .i64 (Ay s K).n])/\PS w' b G (mustT s (Ae s K))/\Ag b w w':=by
 have L:=d.lt;have J:=d.glt;have h:PS (w.alloc (.cells #[.int .i64 0,.string ⟨#[]⟩,.int .i64 0] 174)) b G s:=d.alloc _;have g:=Hg _ b G s K h;have r:Ag b w (w.alloc (.cells #[.int .i64 0,.string ⟨#[]⟩,.int .i64 0] 174)):=(Ag.refl b w).alloc _;have q:(w.alloc (.cells #[.int .i64 0,.string ⟨#[]⟩,.int .i64 0] 174)).heap[w.heap.size]?=some (.cells #[.int .i64 0,.string ⟨#[]⟩,.int .i64 0] 174 (0,0)):=wX w _;cases t:Ae s K
 ·rw[t]at g
  have y:Ay s K=LE:=by unfold Ay;rw[t];rfl
  rw[y];show Calls _ _ _ _ fun e w'=>e=.returned (.agg #[.int .i64 0,.string ⟨#[]⟩,.int .i64 0])/\PS w' b G none/\Ag b w w';go_enter func65,ntmps65;go_wp2_with fail;refine g.mono ?_;clear g;rintro e w1 ⟨rfl,c⟩;have m:=Gc w1 b G s (h.below c);have i:=(c.block w.heap.size (by simp)).trans q;have l:Ag b w w1:=r.trans (Ag.of_below c);go_wp2_with fail;refine m.mono ?_;clear m;rintro e w2 ⟨rfl,p,f⟩;have a:=f.at i (by omega);have E:w.heap.size<w2.heap.size:=Ab a;have z:w2.cell? ⟨w.heap.size,0,none⟩=some (.int .i64 0):=Ac a 0;have A:w2.cell? ⟨w.heap.size,1,none⟩=some (.string ⟨#[]⟩):=Ac a 1;have B:w2.cell? ⟨w.heap.size,2,none⟩=some (.int .i64 0):=Ac a 2;have D:∀j,w2.frozen? ⟨w.heap.size,j,none⟩=false:=fun j=>Ak a j;have x:=Aa p;have u:=Aa (l.trans f);clear p f l r q i d h c a;go_wp2;refine bodyPost_ret (v:=.agg #[.int .i64 0,.string ⟨#[]⟩,.int .i64 0]) (by simp[results,results65,go_sem,z,A,B]) rfl ⟨rfl,?_,?_⟩
  ·exact YQ x.o (by omega) (by omega) _ _ _
  ·exact((u.o.setNew _ (wQ _) _).setNew _ (wQ _) _).setNew _ (wQ _) _
 ·rw[t]at g
  have y:Ay s K=hd s:=by unfold Ay;rw[t];rfl
  rw[y];show Calls _ _ _ _ fun e w'=>e=.returned (.agg #[.int .i64 (hd s).k,.string (hd s).s,.int .i64 (hd s).n])/\PS w' b G (tl s)/\Ag b w w';have C:=fun w1 d=>Px w1 b G s d;generalize (hd s).k=F at*;generalize (hd s).s=I at*;generalize (hd s).n=H at*;go_enter func65,ntmps65;go_wp2_with fail;refine g.mono ?_;clear g;rintro e w1 ⟨rfl,c⟩;have m:=C w1 (h.below c);have i:=(c.block w.heap.size (by simp)).trans q;have l:Ag b w w1:=r.trans (Ag.of_below c);clear C;go_wp2_with fail;refine m.mono ?_;clear m;rintro e w2 ⟨rfl,p,f⟩;have a:=f.at i (by omega);have E:w.heap.size<w2.heap.size:=Ab a;have z:w2.cell? ⟨w.heap.size,0,none⟩=some (.int .i64 0):=Ac a 0;have A:w2.cell? ⟨w.heap.size,1,none⟩=some (.string ⟨#[]⟩):=Ac a 1;have B:w2.cell? ⟨w.heap.size,2,none⟩=some (.int .i64 0):=Ac a 2;have D:∀j,w2.frozen? ⟨w.heap.size,j,none⟩=false:=fun j=>Ak a j;have x:=Aa p;have u:=Aa (l.trans f);clear p f l r q i d h c a;go_wp2;refine bodyPost_ret (v:=.agg #[.int .i64 F,.string I,.int .i64 H]) (by simp[results,results65,go_sem,z,A,B]) rfl ⟨rfl,?_,?_⟩
  ·exact YQ x.o (by omega) (by omega) _ _ _
  ·exact((u.o.setNew _ (wQ _) _).setNew _ (wQ _) _).setNew _ (wQ _) _
theorem Eh(w:World)(b G:Nat)(s:St)(c:PS w b G s):
 Calls prog 131 #[.pointer (some ⟨b,0,none⟩)] w fun e w'=>e=.returned (.string (nm s))/\PS w' b G (nmT s)/\Ag b w w':=by
 have g:=Qg;have a:=Cj w b G s 1 c;rw[oP,oK];generalize (Ay s 1).k=h at*;generalize (Ay s 1).s=j at*;generalize (Ay s 1).n=i at*;go_enter func131,ntmps131;go_wp2_with fail;refine a.mono ?_;clear a;rintro e w1 ⟨rfl,f,d⟩;go_wp2;go_ret;exact⟨rfl,f,d⟩
theorem Qd(x:yF)(w:World)(hs:x.size<=maxLen):
 Calls prog 61 #[.string x] w fun e w'=>∃b G,e=.returned (.pointer (some ⟨b,0,none⟩))/\w.heap.size<=b/\PS w' b G (Ad x)/\yG w w':=by
 have A:=qV x w hs;go_enter func61,ntmps61;go_wp2_with fail;refine A.mono ?_;clear A;rintro e w1 ⟨v,q,k,rfl,f,h,hcut,i⟩;obtain⟨p,r,rfl⟩:∃a c,v=.slice a k.length c:=by
  rcases h.2 with⟨d,n⟩|⟨g,cap,s,d,_⟩
  ·exact⟨none,0,by rw[d,n]⟩
  ·exact⟨_,_,d⟩
 have D:=Aa h;have E:=Aa i;have C:=Aa hcut;clear h i hcut;go_wp2;go_ret;have h:=D.o;have i:=E.o;have hcut:=C.o;have B:=wX w1 (.cells #[.slice p k.length r,.bool (!q)] 215 (0,0));have j:(∀t∈(Ad x).getD [],Lm t)/\ln (Ad x)<=801:=by
  cases I:Ad x with
  |none=>exact⟨fun t J=>by simp at J,by simp[ln]⟩
  |some l=>obtain⟨a,b⟩:=Nn x l I;exact⟨by simpa using a,by simp[ln];omega⟩
 have u:(Ad x).isNone=!q:=by rw[hcut];cases q<;>rfl
 have y:(Ad x).getD []=k:=by
  rw[hcut];cases q
  ·exact((i rfl).1).symm
  ·rfl
 have z:Ad x=none->Value.slice p k.length r=.slice none 0 0:=by
  intro F;rw[F]at hcut;cases q
  ·exact(i rfl).2
  ·cases hcut
 rcases h.2 with⟨d,n⟩|⟨g,cap,s,d,L,m,H,_,_,K⟩
 ·exact⟨w1.heap.size,w1.heap.size,rfl,f.size,⟨⟨_,by rw[u];exact B,by rw[y];exact Or.inl ⟨xE n,_,_,d⟩,z⟩,j.2,j.1,by simp⟩,f.alloc f.size _⟩
 ·exact⟨w1.heap.size,g,rfl,f.size,⟨⟨_,by rw[u];exact B,by rw[y];exact Or.inr ⟨0,cap,s,d,H,by rw[AJ _ _ _ (Ab m)];exact m,by simpa using K⟩,z⟩,j.2,j.1,by have:=Ab m;simp;omega⟩,f.alloc f.size _⟩
def PP(w:World)(p b S:Nat):Prop:=w.heap[p]?=some (.cells #[.pointer (some ⟨b,0,none⟩),.pointer (some ⟨S,0,none⟩)] 199 (0,0))
theorem PP.lt{w:World}{p b S:Nat}(a:PP w p b S):p<w.heap.size:=Ab a
theorem PP.c0{w:World}{p b S:Nat}(a:PP w p b S):w.cell? ⟨p,0,none⟩=some (.pointer (some ⟨b,0,none⟩)):=Ac a 0
theorem PP.c1{w:World}{p b S:Nat}(a:PP w p b S):w.cell? ⟨p,1,none⟩=some (.pointer (some ⟨S,0,none⟩)):=Ac a 1
theorem PP.below{w w':World}{p b S:Nat}(a:PP w p b S)(hb:yG w w'):PP w' p b S:=by
 unfold PP at*;rw[hb.block p (Ab a)];exact a
theorem PP.alloc{w:World}{p b S:Nat}(a:PP w p b S)(o:Obj):PP (w.alloc o) p b S:=a.below ((wR _ _).alloc (wQ _) _)
theorem PP.keepF{w w':World}{p b S F:Nat}(a:PP w p b S)(c:Ag F w w')(hF:p≠F):PP w' p b S:=by
 unfold PP at*;rw[c.block p (Ab a) hF];exact a
theorem PP.ne{w:World}{p b S F:Nat}{cs:Array Value}{T:TypeId}{c:Nat×Nat}(a:PP w p b S)(hF:w.heap[F]?=some (.cells cs T c))(d:T≠199):p≠F:=fun e=>by
 subst e;unfold PP at a;rw[a]at hF;cases hF;exact d rfl
theorem PP.keep{w w':World}{p b S G:Nat}{s:St}(a:PP w p b S)(hs:PS w b G s)(e:Ag b w w'):PP w' p b S:=by
 obtain⟨c,d⟩:=hs.ty;exact a.keepF e (a.ne d (by decide))
theorem PP.set{w:World}{p b S F:Nat}{cs:Array Value}{T:TypeId}{c:Nat×Nat}(a:PP w p b S)(hF:w.heap[F]?=some (.cells cs T c))(d:T≠199)(i:Nat)(v:Value):PP (w.setCell ⟨F,i,none⟩ v) p b S:=
 a.keepF ((Ag.refl F w).setCell i v) (a.ne hF d)
theorem PS.stay{T:TypeId}{B:Nat}{w w':World}{b G:Nat}{s:St}(a:PS w b G s)(g:Ag b w w')(d:T≠215:=by decide):Ap T B w w':=by
 obtain⟨c,f⟩:=a.ty;exact Ap.of_keep g f (fun e=>d e.symm)
theorem sM:∀(f:Nat) (w:World) (p b S G:Nat) (s:St),ln s<=f->PP w p b S->PS w b G s->
 Calls prog 254 #[.pointer (some ⟨p,0,none⟩)] w fun e w'=>∃k,e=.returned (.pointer (some ⟨k,0,none⟩))/\Bx w' w.heap.size (.pointer (some ⟨k,0,none⟩)) (BO (f+1) s).1/\PS w' b G (BO (f+1) s).2/\Ag b w w':=by
 intro f
 induction f using Nat.strongRecOn with
 |_ f M=>
 intro w p b S G s aR J n;have aS:=n.lt;have aQ:=n.glt;have aT:=J.lt;have H:PS (w.alloc (.cells #[.string ⟨#[]⟩,.int .i64 0,.pointer none,.bool false] 302)) b G s:=n.alloc _;have D:PP (w.alloc (.cells #[.string ⟨#[]⟩,.int .i64 0,.pointer none,.bool false] 302)) p b S:=J.alloc _;have T:(w.alloc (.cells #[.string ⟨#[]⟩,.int .i64 0,.pointer none,.bool false] 302)).heap[w.heap.size]?=some (.cells #[.string ⟨#[]⟩,.int .i64 0,.pointer none,.bool false] 302 (0,0)):=wX w _;have Q:Ag b w (w.alloc (.cells #[.string ⟨#[]⟩,.int .i64 0,.pointer none,.bool false] 302)):=(Ag.refl b w).alloc _;have u:=EG _ b G s 12 H;have c0:=D.c0;have aN:=J.c0;cases v:Ae s 12
 ·rw[v]at u
  rw[show BO (f+1) s=(.one (nm s) (Ae (nmT s) 5),mayT (nmT s) (Ae (nmT s) 5))from by simp[BO,v]];have x:=Aa H;have A:=Aa D;have z:=Aa T;clear H D T J n M;go_enter func254,ntmps254;go_wp2_with fail;refine u.mono ?_;clear u;rintro e w1 ⟨rfl,q,h⟩;have l:=A.o.keep x.o h;have c:=h.at z.o (by omega);have c1:=l.c0;have K:=Eh w1 b G s q;have al:=Aa (Q.trans h);have Y:=Aa q;have ag:=Aa l;have ab:=Aa c;clear x A z c0 h q l c Q;go_wp2_with fail;refine K.mono ?_;clear K;rintro e w2 ⟨rfl,r,k2⟩;have m:=ag.o.keep Y.o k2;have d:=k2.at ab.o (by omega);have c2:=m.c0;have aH:=Ak d 0;have aE:w2.cell? ⟨w.heap.size,0,none⟩=some (.string ⟨#[]⟩):=Ac d 0;have I:=r.set (F:=w.heap.size) (by omega) (by omega) 0 (.string (nm s));have E:=m.set d (by decide) 0 (.string (nm s));have g:=AI d 0 (.string (nm s));have L:=EG _ b G (nmT s) 5 I;have B:=Aa ((al.o.trans k2).setNew ⟨w.heap.size,0,none⟩ (wQ _) (.string (nm s)));have ae:=Aa g;have av:=Ab d;have aK:p≠w.heap.size:=by omega
  clear Y ag ab c1 k2 r m d E I al g;go_wp2_with fail;refine L.mono ?_;clear L;rintro e w3 ⟨rfl,t,i⟩;have j:=i.at ae.o (by omega);have aO:=Ak j 3;have aL:w3.cell? ⟨w.heap.size,3,none⟩=some (.bool false):=Ac j 3;have O:=Aa j;have y:=Aa t;have R:=Aa (B.o.trans i);clear j ae t i B aH aE c2;go_wp2;go_ret;exact⟨_,rfl,⟨_,rfl,wQ _,AI O.o 3 _⟩,y.o.set (by omega) (by omega) _ _,R.o.setNew _ (wQ _) _⟩
 ·rw[v]at u
  obtain⟨a,rfl⟩:∃a,f=a+1:=⟨f-1,by have:=ET s 12 (by decide) v;omega⟩;have aJ:ln (tl s)<=a:=by have:=ET s 12 (by decide) v;omega
  rw[show BO (a+1+1) s=(.list (BO (a+1) (tl s)).1 (Ae (mustT (BO (a+1) (tl s)).2 (Ae (BO (a+1) (tl s)).2 13)) 5),mayT (mustT (BO (a+1) (tl s)).2 (Ae (BO (a+1) (tl s)).2 13)) (Ae (mustT (BO (a+1) (tl s)).2 (Ae (BO (a+1) (tl s)).2 13)) 5))from by rw[BO,xH v]];have M:=fun W P n=>M a (by omega) W p b S G (tl s) aJ P n;generalize (BO (a+1) (tl s)).1=aV at*;generalize (BO (a+1) (tl s)).2=s1 at*;have x:=Aa H;have A:=Aa D;have z:=Aa T;clear H D T J n;go_enter func254,ntmps254;go_wp2_with fail;refine u.mono ?_;clear u;rintro e w1 ⟨rfl,q,h⟩;have l:=A.o.keep x.o h;have c:=h.at z.o (by omega);have c1:=l.c0;have f1:=Ak c 1;have aD:w1.cell? ⟨w.heap.size,1,none⟩=some (.int .i64 0):=Ac c 1;have r:PS (w1.setCell ⟨w.heap.size,1,none⟩ (.int .i64 1)) b G (tl s):=q.set (by omega) (by omega) 1 (.int .i64 1);have m:=l.set c (by decide) 1 (.int .i64 1);have d:=AI c 1 (.int .i64 1);have B:=Aa ((Q.trans h).setNew ⟨w.heap.size,1,none⟩ (wQ _) (.int .i64 1));have K:=M _ m r;have aK:p≠w.heap.size:=by omega
  have av:=Ab c;have Z:=Aa r;have ah:=Aa m;have ad:=Aa d;clear x A z c0 h q l c r m d M Q;go_wp2_with fail;refine K.mono ?_;clear K;rintro e w3 ⟨k,rfl,aw,I,i⟩;have E:=ah.o.keep Z.o i;have g:=i.at ad.o (by omega);have c3:=E.c0;have aI:=Ak g 2;have aF:w3.cell? ⟨w.heap.size,2,none⟩=some (.pointer none):=Ac g 2;have aU:=Ab g;have ax:=(aw.mono (C:=w.heap.size+1) (by simp[World.setCell];omega)).stays (Ap.set (F:=w.heap.size) (by omega) 2 (.pointer (some ⟨k,0,none⟩)));have t:=I.set (F:=w.heap.size) (by omega) (by omega) 2 (.pointer (some ⟨k,0,none⟩));have ap:=E.set g (by decide) 2 (.pointer (some ⟨k,0,none⟩));have j:=AI g 2 (.pointer (some ⟨k,0,none⟩));have R:=Aa ((B.o.trans i).setNew ⟨w.heap.size,2,none⟩ (wQ _) (.pointer (some ⟨k,0,none⟩)));have au:=Cj _ b G _ 13 t;have aj:=Aa ax;have y:=Aa t;have ai:=Aa ap;have O:=Aa j;clear B ah ad i I E g aw ax t ap j c1 f1 aD av Z;go_wp2_with fail;refine au.mono ?_;clear au;rintro e w5 ⟨rfl,X,N⟩;have aq:=ai.o.keep y.o N;have ao:=N.at O.o (by omega);have aG:=aq.c0;have L:=EG _ b G _ 5 X;have ay:=aj.o.stays (y.o.stay N);have am:=Aa (R.o.trans N);have aa:=Aa X;have af:=Aa ao;have ak:=Aa ay;clear R y ai O N X aq ao ay aj aI aF c3;go_wp2_with fail;refine L.mono ?_;clear L;rintro e w6 ⟨rfl,ar,V⟩;have U:=V.at af.o (by omega);have aP:=Ak U 3;have aM:w6.cell? ⟨w.heap.size,3,none⟩=some (.bool false):=Ac U 3;have aB:=Aa (ak.o.stays (aa.o.stay V));have aA:=Aa U;have az:=Aa ar;have aC:=Aa (am.o.trans V);clear U af ar V am aG aa ak;go_wp2;go_ret;exact⟨_,rfl,⟨_,_,rfl,wQ _,AI aA.o 3 _,(aB.o.stays (Ap.set (F:=w.heap.size) (Nat.lt_succ_self _) _ _)).mono (Nat.le_succ _)⟩,az.o.set (F:=w.heap.size) (by omega) (by omega) _ _,aC.o.setNew _ (wQ _) _⟩
structure CH(b F:Nat)(w w':World):Prop where
 os:w'.os=w.os
 tape:w'.tape=w.tape
 output:w'.output=w.output
 size:w.heap.size<=w'.heap.size
 block:∀k,k<w.heap.size->k≠b->k≠F->w'.heap[k]?=w.heap[k]?
theorem CH.of{b F:Nat}{w w':World}(a:Ag b w w'):CH b F w w':=⟨a.os,a.tape,a.output,a.size,fun k c hb _=>a.block k c hb⟩
theorem CH.trans{b F:Nat}{x y z:World}(a:CH b F x y)(k:CH b F y z):CH b F x z:=
 ⟨k.os.trans a.os,k.tape.trans a.tape,k.output.trans a.output,wV a.size k.size,fun i d hb c=>(k.block i (xA d a.size) hb c).trans (a.block i d hb c)⟩
theorem CH.setF{b F:Nat}{x y:World}(a:CH b F x y)(i:Nat)(v:Value):CH b F x (y.setCell ⟨F,i,none⟩ v):=
 a.trans ⟨rfl,rfl,rfl,by simp[World.setCell],fun k _ _ c=>xC _ _ _ _ c⟩
theorem Ag.two{b F:Nat}{x y z:World}(a:Ag b x y)(k:CH b F y z)(hF:x.heap.size<=F):Ag b x z:=
 ⟨k.os.trans a.os,k.tape.trans a.tape,k.output.trans a.output,wV a.size k.size,fun i c hb=>(k.block i (xA c a.size) hb (by omega)).trans (a.block i c hb)⟩
theorem NT(w:World)(p b S G:Nat)(s:St)(d:PP w p b S)(c:PS w b G s):
 Calls prog 176 #[.pointer (some ⟨p,0,none⟩)] w fun e w'=>e=.returned (.agg #[.string (nm s)])/\PS w' b G (nmT s)/\Ag b w w':=by
 have D:=c.lt;have C:=c.glt;have E:=d.lt;have j:=Aa c;have q:=Aa d;have l:=Aa (Ag.refl b w);have c0:=d.c0;clear c d;have f:=Aa (j.o.alloc (.cells #[.string ⟨#[]⟩] 132));have h:=Aa (q.o.alloc (.cells #[.string ⟨#[]⟩] 132));have m:=Aa (l.o.alloc (.cells #[.string ⟨#[]⟩] 132));have n:=Aa (show(w.alloc (.cells #[.string ⟨#[]⟩] 132)).heap[w.heap.size]?=some (.cells #[.string ⟨#[]⟩] 132 (0,0))from wX _ _);clear j q l;have c1:=h.o.c0;have t:=Eh (w.alloc (.cells #[.string ⟨#[]⟩] 132)) b G s f.o;go_enter func176,ntmps176;go_wp2_with fail;refine t.mono ?_;clear t;rintro e w2 ⟨rfl,r,k2⟩;have i:=Aa (h.o.keep f.o k2);have g:=Aa (m.o.trans k2);have a:=Aa (k2.at n.o (by omega));have H:=Ab a.o;have k:=Aa r;have c2:=i.o.c0;have I:=g.o.size;clear f h m n r k2;have A:w2.cell? ⟨w.heap.size,0,none⟩=some (.string ⟨#[]⟩):=Ac a.o 0;have B:=Ak a.o 0;have u:=Aa (k.o.set (F:=w.heap.size) (by omega) (by omega) 0 (.string (nm s)));have z:=Aa (i.o.set a.o (by decide) 0 (.string (nm s)));have x:=Aa (g.o.setNew ⟨w.heap.size,0,none⟩ (by(try simp only[]);omega) (.string (nm s)));have y:=Aa (show(w2.setCell ⟨w.heap.size,0,none⟩ (.string (nm s))).heap[w.heap.size]?=some (.cells #[.string (nm s)] 132 (0,0))from AI a.o 0 (.string (nm s)));clear k i g a;go_wp2_with fail;exact bodyPost_ret (v:=.agg #[.string (nm s)]) (by simp[results,results176,go_sem, *]) rfl ⟨rfl,u.o,x.o⟩
def EU(r:yF)(s:St):yF×St:=
 (nm (mustT (if r=bE then s else none) (Ae (if r=bE then s else none) 7)),mustT (nmT (mustT (if r=bE then s else none) (Ae (if r=bE then s else none) 7))) (Ae (nmT (mustT (if r=bE then s else none) (Ae (if r=bE then s else none) 7))) 8))
theorem Yq(w:World)(p b S G F j:Nat)(s:St)(r:yF)(cs:Array Value)(z:PP w p b S)(k:PS w b G s)(hF:w.heap[F]?=some (.cells cs 166 (0,0)))(X:G≠F)(B:cs[j]?=some (.string r)):
 Calls prog 269 #[.pointer (some ⟨p,0,none⟩),.pointer (some ⟨F,j,none⟩)] w fun e w'=>e=.returned (.tuple #[])/\PS w' b G (EU r s).2/\w'.heap[F]?=some (.cells (cs.setIfInBounds j (.string (EU r s).1)) 166 (0,0))/\CH b F w w':=by
 have d:b≠F:=fun e=>by subst e;obtain⟨c,A⟩:=k.ty;rw[A]at hF;cases hF
 have ad:w.cell? ⟨F,j,none⟩=some (.string r):=(Ac hF j).trans B;have c0:=z.c0;have U:=Aa hF;have V:=Aa B;have T:=Aa k;have W:=Aa z;cases Y:r.toList.isEmpty
 ·have m:r≠bE:=by have:=KZ r;rw[Y]at this;simpa using this
  rw[show EU r s=(nm (mustT none (Ae none 7)),mustT (nmT (mustT none (Ae none 7))) (Ae (nmT (mustT none (Ae none 7))) 8))from by unfold EU;rw[xG m]];have A:=Gc w b G s k;clear hF B k z m;go_enter func269,ntmps269;go_wp2_with fail;refine A.mono ?_;clear A;rintro e w1 ⟨rfl,R,C⟩;have I:=Aa (C.at U.o d.symm);have y:=Aa (W.o.keep T.o C);have D:=Aa R;have N:=Aa (CH.of (F:=F) C);have c1:=y.o.c0;have v:=Cj w1 b G none 7 R;clear R C;go_wp2_with fail;refine v.mono ?_;clear v;rintro e w2 ⟨rfl,h,k2⟩;have J:=Aa (k2.at I.o d.symm);have l:=Aa (y.o.keep D.o k2);have E:=Aa h;have O:=Aa (N.o.trans (CH.of (F:=F) k2));have c2:=l.o.c0;have u:=Eh w2 b G _ h;clear h k2;go_wp2_with fail;refine u.mono ?_;clear u;rintro e w3 ⟨rfl,n,f⟩;have a:=Aa (f.at J.o d.symm);have g:=Aa (l.o.keep E.o f);have c3:=g.o.c0;have aa:=Ak a.o j;have Z:w3.cell? ⟨F,j,none⟩=some (.string r):=(Ac a.o j).trans V.o;have q:=n.set d X j (.string (nm (mustT none (Ae none 7))));have K:=Aa (AI a.o j (.string (nm (mustT none (Ae none 7)))));have M:=Aa (g.o.set a.o (by decide) j (.string (nm (mustT none (Ae none 7)))));have c4:=M.o.c0;have P:=Aa ((O.o.trans (CH.of (F:=F) f)).setF j (.string (nm (mustT none (Ae none 7)))));have x:=Cj _ b G _ 8 q;have ab:p≠F:=g.o.ne a.o (by decide);clear n f q;go_wp2_with fail;refine x.mono ?_;clear x;rintro e w5 ⟨rfl,t,i⟩;have L:=Aa (i.at K.o d.symm);have Q:=Aa (P.o.trans (CH.of (F:=F) i));have H:=Aa t;clear t i;go_wp2;go_end0;exact⟨rfl,H.o,L.o,Q.o⟩
 ·have m:r=bE:=by have:=KZ r;rw[Y]at this;simpa using this.symm
  rw[show EU r s=(nm (mustT s (Ae s 7)),mustT (nmT (mustT s (Ae s 7))) (Ae (nmT (mustT s (Ae s 7))) 8))from by unfold EU;rw[xH m]];have I:=U;have y:=W;have D:=T;have N:=Aa (CH.of (F:=F) (Ag.refl b w));have v:=Cj w b G s 7 k;clear hF B k z m;go_enter func269,ntmps269;go_wp2_with fail;refine v.mono ?_;clear v;rintro e w2 ⟨rfl,h,k2⟩;have J:=Aa (k2.at I.o d.symm);have l:=Aa (y.o.keep D.o k2);have E:=Aa h;have O:=Aa (N.o.trans (CH.of (F:=F) k2));have c2:=l.o.c0;have u:=Eh w2 b G _ h;clear h k2;go_wp2_with fail;refine u.mono ?_;clear u;rintro e w3 ⟨rfl,n,f⟩;have a:=Aa (f.at J.o d.symm);have g:=Aa (l.o.keep E.o f);have c3:=g.o.c0;have aa:=Ak a.o j;have Z:w3.cell? ⟨F,j,none⟩=some (.string r):=(Ac a.o j).trans V.o;have q:=n.set d X j (.string (nm (mustT s (Ae s 7))));have K:=Aa (AI a.o j (.string (nm (mustT s (Ae s 7)))));have M:=Aa (g.o.set a.o (by decide) j (.string (nm (mustT s (Ae s 7)))));have c4:=M.o.c0;have P:=Aa ((O.o.trans (CH.of (F:=F) f)).setF j (.string (nm (mustT s (Ae s 7)))));have x:=Cj _ b G _ 8 q;have ab:p≠F:=g.o.ne a.o (by decide);clear n f q;go_wp2_with fail;refine x.mono ?_;clear x;rintro e w5 ⟨rfl,t,i⟩;have L:=Aa (i.at K.o d.symm);have Q:=Aa (P.o.trans (CH.of (F:=F) i));have H:=Aa t;clear t i;go_wp2;go_end0;exact⟨rfl,H.o,L.o,Q.o⟩
def En(a b:yF)(s:St):(yF×yF)×St:=
 if nm s=Uh then(((EU a (nmT s)).1,b),(EU a (nmT s)).2)
 else if nm s=Ui then((a,(EU b (nmT s)).1),(EU b (nmT s)).2)
 else((a,b),none)
theorem sG(w:World)(p b S G F:Nat)(s:St)(n a f x y:yF)(u:Value)(J:PP w p b S)(B:PS w b G s)(hF:w.heap[F]?=some (.cells #[.string n,.string a,.string f,.string x,.string y,u] 166 (0,0)))(L:G≠F):
 Calls prog 255 #[.pointer (some ⟨p,0,none⟩),.pointer (some ⟨F,0,none⟩)] w fun e w'=>e=.returned (.tuple #[])/\PS w' b G (En a f s).2/\w'.heap[F]?=some (.cells #[.string n,.string (En a f s).1.1,.string (En a f s).1.2,.string x,.string y,u] 166 (0,0))/\CH b F w w':=by
 have C:b≠F:=fun e=>by subst e;obtain⟨c,j⟩:=B.ty;rw[j]at hF;cases hF
 have c0:=J.c0;have E:=Aa hF;have D:=Aa B;have H:=Aa J;have j:=Eh w b G s B;have K:=BX (nm s) [97,117,116,104];have I:=BX (nm s) [104,105,100,101];clear hF B J;by_cases g:nm s=Uh
 ·rw[show En a f s=(((EU a (nmT s)).1,f),(EU a (nmT s)).2)from by unfold En;rw[xH g]]
  rw[xM (show nm s=Az [97,117,116,104]from g)]at K;clear I g;go_enter func255,ntmps255;go_wp2_with fail;refine j.mono ?_;clear j;rintro e w1 ⟨rfl,h,d⟩;have q:=Aa (d.at E.o C.symm);have t:=Aa (H.o.keep D.o d);have v:=Aa (CH.of (F:=F) d);have k:=Yq w1 p b S G F 1 (nmT s) a _ t.o h q.o L rfl;clear h d;go_wp2_with fail;refine k.mono ?_;clear k;rintro e w2 ⟨rfl,i,A,k2⟩;have m:=Aa i;have r:=Aa A;have z:=Aa k2;clear i A k2;go_wp2;go_end0;exact⟨rfl,m.o,r.o,v.o.trans z.o⟩
 rw[wY (show¬nm s=Az [97,117,116,104]from g)]at K;by_cases l:nm s=Ui
 ·rw[show En a f s=((a,(EU f (nmT s)).1),(EU f (nmT s)).2)from by unfold En;rw[xG g,xH l]]
  rw[xM (show nm s=Az [104,105,100,101]from l)]at I;clear g l;go_enter func255,ntmps255;go_wp2_with fail;refine j.mono ?_;clear j;rintro e w1 ⟨rfl,h,d⟩;have q:=Aa (d.at E.o C.symm);have t:=Aa (H.o.keep D.o d);have v:=Aa (CH.of (F:=F) d);have k:=Yq w1 p b S G F 2 (nmT s) f _ t.o h q.o L rfl;clear h d;go_wp2_with fail;refine k.mono ?_;clear k;rintro e w2 ⟨rfl,i,A,k2⟩;have m:=Aa i;have r:=Aa A;have z:=Aa k2;clear i A k2;go_wp2;go_end0;exact⟨rfl,m.o,r.o,v.o.trans z.o⟩
 rw[wY (show¬nm s=Az [104,105,100,101]from l)]at I;rw[show En a f s=((a,f),none)from by unfold En;rw[xG g,xG l]];clear g l;go_enter func255,ntmps255;go_wp2_with fail;refine j.mono ?_;clear j;rintro e w1 ⟨rfl,h,d⟩;have q:=Aa (d.at E.o C.symm);have t:=Aa (H.o.keep D.o d);have v:=Aa (CH.of (F:=F) d);have c1:=t.o.c0;have k:=Gc w1 b G _ h;clear h d;go_wp2_with fail;refine k.mono ?_;clear k;rintro e w2 ⟨rfl,i,k2⟩;have m:=Aa i;have r:=Aa (k2.at q.o C.symm);have z:=Aa (CH.of (F:=F) k2);clear i k2;go_wp2;go_end0;exact⟨rfl,m.o,r.o,v.o.trans z.o⟩
end Go.Proofs.YtogdodlibkckkaaGreatDoor
