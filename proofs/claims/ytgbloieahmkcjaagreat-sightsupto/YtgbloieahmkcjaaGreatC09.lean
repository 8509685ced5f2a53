import Derived.Test.YtgbloieahmkcjaaGreatC08
import Derived.Test.YtgbloieahmkcjaaGreatC04
namespace Go.Proofs.YtgbloieahmkcjaaGreat
set_option maxHeartbeats 20000000
set_option maxRecDepth 100000
open Go.RowKit Tryz
def oS:Ls:=aE [83,116,114,105,110,103]
def nx:Ls:=aE [66,111,111,108,101,97,110]
def co(x:Ls):Bool:=decide (x=j9)||decide (x=oS)||decide (x=nx)||decide (x=lB)
theorem xA(x:Ls):co x=((x.toList==[73,110,116])||(x.toList==[83,116,114,105,110,103])||(x.toList==[66,111,111,108,101,97,110])||(x.toList==[73,68])):=by
 rw[bV,bV,bV,bV];rfl
theorem wH(x:Ls)(w:World):Calls prog 75 #[.string x] w fun e w'=>e=.returned (.bool (co x))/\w'=w:=by
 have HQ:=aa (xA x);cases t1:(x.toList==[73,110,116])
 ·cases t2:(x.toList==[83,116,114,105,110,103])
  ·cases t3:(x.toList==[66,111,111,108,101,97,110])
   ·cases t4:(x.toList==[73,68])
    ·go_enter func75,ntmps75
     go_wp2
     go_ret;exact⟨am (by rw[HQ.o,t1,t2,t3,t4];rfl),rfl⟩
    ·go_enter func75,ntmps75
     go_wp2
     go_ret;exact⟨am (by rw[HQ.o,t1,t2,t3,t4];rfl),rfl⟩
   ·go_enter func75,ntmps75
    go_wp2
    go_ret;exact⟨am (by rw[HQ.o,t1,t2,t3];rfl),rfl⟩
  ·go_enter func75,ntmps75
   go_wp2
   go_ret;exact⟨am (by rw[HQ.o,t1,t2];rfl),rfl⟩
 ·go_enter func75,ntmps75
  go_wp2
  go_ret;exact⟨am (by rw[HQ.o,t1];rfl),rfl⟩
def cH(w:World)(v:Value)(l:List Ls):Prop:=∃a cap,v=.slice a l.length cap/\l.length<=cap/\(l=[]\/∃g off,a=some ⟨g,off,none⟩/\∀j x,l[j]?=some x->w.cell? ⟨g,off+j,none⟩=some (.string x))
def ba(x:Ls)(l:List Ls):Bool:=l.any fun y=>decide (y=x)
theorem ii(x:Ls)(l:List Ls):ba x l=true↔x∈l:=by
 unfold ba;rw[List.any_eq_true];constructor
 ·rintro⟨y,h1,h2⟩;simp only[Lc]at h2;rw[<-h2];exact h1
 ·intro h;exact⟨x,h,by simp⟩
theorem pO(x:Ls)(l:List Ls)(h:¬x∈l):ba x l=false:=by
 cases hb:ba x l
 ·rfl
 ·exact absurd ((ii x l).1 hb) h
theorem cH.of_own{w:World}{base:Nat}{v:Value}{l:List Ls}(h:w.ownsRow base 9 1 v l.length (bt l)):cH w v l:=by
 rcases h.2 with⟨rfl,h0⟩|⟨g,cap,cur,rfl,hg,hh,h1,h2,h3,h4⟩
 ·have:l=[]:=KZ h0
  subst this;exact⟨none,0,rfl,KK _,Or.inl rfl⟩
 ·refine⟨_,cap,rfl,h1,Or.inr ⟨g,0,rfl,?_⟩⟩
  intro j x hj;have hjl:j<l.length:=(KO.1 hj).1;rw[Nat.zero_add,h.cellAt j (by omega)];simp[bt,hj]
theorem cH.below{w w':World}{v:Value}{l:List Ls}(h:cH w v l)(hb:Lt w w'):cH w' v l:=by
 obtain⟨a,cap,h1,h2,h3⟩:=h;refine⟨a,cap,h1,h2,?_⟩;rcases h3 with h3|⟨g,off,h3,h4⟩
 ·exact Or.inl h3
 ·refine Or.inr ⟨g,off,h3,fun j x hj=>?_⟩
  have hc:=h4 j x hj;rw[hb.cell (p:=⟨g,off+j,none⟩) (KQ w _ hc)];exact hc
theorem o5(x:Ls)(v:Value)(l:List Ls)(w:World)(h:cH w v l)(hl:l.length<=1000000):
 Calls prog 86 #[.string x,v] w fun e w'=>e=.returned (.bool (ba x l))/\w'=w:=by
 obtain⟨a,cap,rfl,Oh,h3⟩:=h;generalize hq:ba x l=q;have HQ:=aa hq;have H3:=aa h3;clear hq h3;go_enter func86,ntmps86;go_wp2_with fail;go_loop [5] (fun i=>∃k:Nat,k<=l.length/\i=.int .i64 k/\∀y∈l.take k,y≠x) (fun i=>l.length-(intOf i).toNat)
 case atStart=>exact⟨0,KU _,rfl,by simp⟩
 case round=>
  obtain⟨k,hk,rfl,hc⟩:=hrel;have HC:=aa hc;clear hc;by_cases hlt:k<l.length
  ·obtain⟨g,off,ha,h4⟩:∃g off,a=some ⟨g,off,none⟩/\∀j x,l[j]?=some x->w.cell? ⟨g,off+j,none⟩=some (.string x):=by
    rcases H3.o with e|e
    ·rw[e]at hlt;simp at hlt
    ·exact e
   subst ha;have hx:=KM hlt;have LQ:=h4 k _ hx;have HX:=aa hx;clear h4 hx;generalize l[k]=y at*;cases hy:(y.toList==x.toList)
   ·go_wp2
    go_round
    case rel=>exact⟨k+1,by omega,by go_num,by
     rw[Ld,HX.o];intro z hz;rcases List.mem_append.1 hz with hz|hz
     ·exact HC.o z hz
     ·simp at hz;subst hz;rw[bY]at hy;simpa using hy⟩
    case measure=>simp[intOf];omega
   ·go_wp2
    go_ret;exact⟨am (by rw[<-HQ.o];rw[bY]at hy;simp only[Lc]at hy;subst hy;exact((ii _ _).2 (KN HX.o)).symm),rfl⟩
  ·go_wp2
   go_ret;exact⟨am (by
    rw[<-HQ.o];have:=HC.o;rw[KW (by omega)]at this;exact(pO _ _ (fun hm=>this x hm rfl)).symm),rfl⟩
def kB(t:Ls):Ls:=aE ((t.data.toList.dropWhile (· ==91)).take (ay (t.data.toList.dropWhile (· ==91)) bm))
theorem vm(t:Ls)(w:World)(ht:t.size<=100000):
 Calls prog 88 #[.string t] w fun e w'=>e=.returned (.string (kB t))/\w'=w:=by
 generalize hq:kB t=q;have HQ:=aa hq;clear hq;go_enter func88,ntmps88;go_wp2_with fail;go_loop [0] (fun v=>∃u:Ls,v=.string u/\u.size<=t.size/\t.data.toList.dropWhile (· ==91)=u.data.toList.dropWhile (· ==91)) (fun v=>vc v)
 case atStart=>exact⟨t,rfl,KK _,rfl⟩
 case round=>
  obtain⟨u,rfl,hu,hrel⟩:=hrel;have HR:=aa hrel;clear hrel;by_cases h0:0<u.size
  ·cases h91:((u[0].toNat:Int)==91)
   ·have HD:=aa (show t.data.toList.dropWhile (· ==91)=u.data.toList from by
     rw[HR.o,kJ u h0,List.dropWhile_cons_of_neg (by intro e;simp only[beq_iff_eq]at e;rw[e]at h91;simp at h91)])
    have hkl:=lK u.data.toList bm;rw[Array.length_toList,show u.data.size=u.size from rfl]at hkl;have HQ2:=aa (show q=u.extract 0 (ay u.data.toList bm)from by
     rw[<-HQ.o];unfold kB;rw[HD.o];apply ByteArray.ext;apply Array.toList_inj.1;rw[qX];simp[aE])
    go_wp2_with fail;refine(pu u bm 0 _ _ rfl (by omega) (by omega) (by decide)).mono ?_;rw[List.drop_zero];rintro e w' ⟨rfl,rfl⟩;generalize ay u.data.toList bm=m at*;go_wp2_with fail;go_ret;exact⟨by rw[HQ2.o];rfl,rfl⟩
   ·have HD:=aa (show t.data.toList.dropWhile (· ==91)=(u.extract 1 u.size).data.toList.dropWhile (· ==91)from by
     rw[HR.o,kJ u h0,List.dropWhile_cons_of_pos (by simp only[beq_iff_eq];exact fp (by simpa using h91))])
    go_wp2_with fail
    go_round
    case rel=>exact⟨_,rfl,by simp;omega,HD.o⟩
    case measure=>simp only[OB,ByteArray.size_extract];omega
  ·have hun:u.data.toList=[]:=KZ (show u.size=0 by omega)
   have HU:=aa hun;have HQ2:=aa (show q=ByteArray.empty from by
    rw[<-HQ.o];unfold kB;rw[HR.o,hun];rfl)
   clear hun;go_wp2_with fail;refine(pu u bm 0 _ _ rfl (by omega) (by omega) (by decide)).mono ?_;rw[List.drop_zero,HU.o];rintro e w' ⟨rfl,rfl⟩;rw[show ay [] bm=0 from rfl];go_wp2_with fail;go_ret;exact⟨by rw[HQ2.o];rfl,rfl⟩
def dK:List Ls->Ls->Nat->Int
 |[],_,_=> -1
 |y::l,x,n=>if y=x then(n:Int)else dK l x (n+1)
def ah(l:List Ls)(x:Ls):Int:=dK l x 0
theorem lG:∀(l:List Ls) (x:Ls) (n:Nat),(∀y∈l,y≠x)->dK l x n= -1
 |[],_,_,_=>rfl
 |y::l,x,n,h=>by
  rw[dK,K8 (h y (by simp)),lG l x (n+1) (fun z hz=>h z (by simp[hz]))]
theorem lj:∀(l:List Ls) (x:Ls) (n k:Nat),(∀y∈l.take k,y≠x)->l[k]?=some x->dK l x n=((n+k:Nat):Int)
 |[],_,_,_,_,h=>by simp at h
 |y::l,x,n,0,_,h=>by simp at h;rw[dK,K9 h];rfl
 |y::l,x,n,k+1,h1,h=>by
  rw[dK,K8 (h1 y (by simp)),lj l x (n+1) k (fun z hz=>h1 z (by simp[hz])) (by simpa using h)];congr 1;omega
def lU(w:World)(v:Value)(M4 off:Nat)(l:List Ls):Prop:=∃a cap,v=.slice a l.length cap/\(l=[]\/∃g,a=some ⟨g,0,none⟩/\∀j x,l[j]?=some x->w.cell? ⟨g,j*M4+off,none⟩=some (.string x))
theorem lU.below{w w':World}{v:Value}{M4 off:Nat}{l:List Ls}(h:lU w v M4 off l)(hb:Lt w w'):lU w' v M4 off l:=by
 obtain⟨a,cap,h1,h3⟩:=h;refine⟨a,cap,h1,?_⟩;rcases h3 with h3|⟨g,h3,h4⟩
 ·exact Or.inl h3
 ·refine Or.inr ⟨g,h3,fun j x hj=>?_⟩
  have hc:=h4 j x hj;rw[hb.cell (p:=⟨g,j*M4+off,none⟩) (KQ w _ hc)];exact hc
theorem sq(aR:Option Addr)(nR cR:Nat)(v:Value)(x:Ls)(l:List Ls)(w:World)(h:lU w v 6 1 l)(hl:l.length<=100000):
 Calls prog 74 #[.agg #[.slice aR nR cR,v],.string x] w fun e w'=>e=.returned (.int .i64 (ah l x))/\Lt w w':=by
 obtain⟨a,cap,rfl,h3⟩:=h;generalize hq:ah l x=q;have HQ:=aa hq;have H3:=aa h3;clear hq h3;go_enter func74,ntmps74;go_wp2_with fail;go_loop [5] (fun i=>∃k:Nat,k<=l.length/\i=.int .i64 k/\∀y∈l.take k,y≠x) (fun i=>l.length-(intOf i).toNat)
 case atStart=>exact⟨0,KU _,rfl,by simp⟩
 case round=>
  obtain⟨k,hk,rfl,hc⟩:=hrel;have HC:=aa hc;clear hc;by_cases hlt:k<l.length
  ·obtain⟨g,ha,h4⟩:∃g,a=some ⟨g,0,none⟩/\∀j x,l[j]?=some x->w.cell? ⟨g,j*6+1,none⟩=some (.string x):=by
    rcases H3.o with e|e
    ·rw[e]at hlt;simp at hlt
    ·exact e
   subst ha;have hx:=KM hlt;have LQ:=h4 k _ hx;have hg:=KQ w _ LQ;simp only at hg
   skip
   have HX:=aa hx;clear h4 hx;generalize l[k]=y at*;cases hy:(y.toList==x.toList)
   ·go_wp2
    go_round
    case rel=>exact⟨k+1,by omega,by go_num,by
     rw[Ld,HX.o];intro z hz;rcases List.mem_append.1 hz with hz|hz
     ·exact HC.o z hz
     ·simp at hz;subst hz;rw[bY]at hy;simpa using hy⟩
    case measure=>simp[intOf];omega
   ·go_wp2
    go_ret;exact⟨dx (by rw[<-HQ.o];rw[bY]at hy;simp only[Lc]at hy;subst hy;unfold ah;rw[lj l y 0 k HC.o HX.o];simp),(KL _ _).alloc (KK _) _⟩
  ·go_wp2
   go_ret;exact⟨dx (by
    rw[<-HQ.o];have:=HC.o;rw[KW (by omega)]at this;unfold ah;rw[lG l x 0 this]),(KL _ _).alloc (KK _) _⟩
theorem rB(aR:Option Addr)(nR cR:Nat)(v:Value)(x:Ls)(l:List Ls)(w:World)(h:lU w v 2 0 l)(hl:l.length<=100000):
 Calls prog 28 #[.agg #[v,.slice aR nR cR],.string x] w fun e w'=>e=.returned (.int .i64 (ah l x))/\Lt w w':=by
 obtain⟨a,cap,rfl,h3⟩:=h;generalize hq:ah l x=q;have HQ:=aa hq;have H3:=aa h3;clear hq h3;go_enter func28,ntmps28;go_wp2_with fail;go_loop [5] (fun i=>∃k:Nat,k<=l.length/\i=.int .i64 k/\∀y∈l.take k,y≠x) (fun i=>l.length-(intOf i).toNat)
 case atStart=>exact⟨0,KU _,rfl,by simp⟩
 case round=>
  obtain⟨k,hk,rfl,hc⟩:=hrel;have HC:=aa hc;clear hc;by_cases hlt:k<l.length
  ·obtain⟨g,ha,h4⟩:∃g,a=some ⟨g,0,none⟩/\∀j x,l[j]?=some x->w.cell? ⟨g,j*2+0,none⟩=some (.string x):=by
    rcases H3.o with e|e
    ·rw[e]at hlt;simp at hlt
    ·exact e
   subst ha;have hx:=KM hlt;have LQ:=h4 k _ hx;have hg:=KQ w _ LQ;simp only at hg;simp only[Nat.add_zero]at LQ;have HX:=aa hx;clear h4 hx;generalize l[k]=y at*;cases hy:(y.toList==x.toList)
   ·go_wp2
    go_round
    case rel=>exact⟨k+1,by omega,by go_num,by
     rw[Ld,HX.o];intro z hz;rcases List.mem_append.1 hz with hz|hz
     ·exact HC.o z hz
     ·simp at hz;subst hz;rw[bY]at hy;simpa using hy⟩
    case measure=>simp[intOf];omega
   ·go_wp2
    go_ret;exact⟨dx (by rw[<-HQ.o];rw[bY]at hy;simp only[Lc]at hy;subst hy;unfold ah;rw[lj l y 0 k HC.o HX.o];simp),(KL _ _).alloc (KK _) _⟩
  ·go_wp2
   go_ret;exact⟨dx (by
    rw[<-HQ.o];have:=HC.o;rw[KW (by omega)]at this;unfold ah;rw[lG l x 0 this]),(KL _ _).alloc (KK _) _⟩
theorem rt(so:Int)(na:Ls)(aA aR:Option Addr)(nA cA nR cR:Nat)(ru:Bool)(v:Value)(x:Ls)(l:List Ls)(w:World)(h:lU w v 5 0 l)(hl:l.length<=100000):
 Calls prog 49 #[.agg #[.int .i64 so,.string na,v,.slice aA nA cA,.bool ru,.slice aR nR cR],.string x] w fun e w'=>e=.returned (.int .i64 (ah l x))/\Lt w w':=by
 obtain⟨a,cap,rfl,h3⟩:=h;generalize hq:ah l x=q;have HQ:=aa hq;have H3:=aa h3;clear hq h3;go_enter func49,ntmps49;go_wp2_with fail;go_loop [5] (fun i=>∃k:Nat,k<=l.length/\i=.int .i64 k/\∀y∈l.take k,y≠x) (fun i=>l.length-(intOf i).toNat)
 case atStart=>exact⟨0,KU _,rfl,by simp⟩
 case round=>
  obtain⟨k,hk,rfl,hc⟩:=hrel;have HC:=aa hc;clear hc;by_cases hlt:k<l.length
  ·obtain⟨g,ha,h4⟩:∃g,a=some ⟨g,0,none⟩/\∀j x,l[j]?=some x->w.cell? ⟨g,j*5+0,none⟩=some (.string x):=by
    rcases H3.o with e|e
    ·rw[e]at hlt;simp at hlt
    ·exact e
   subst ha;have hx:=KM hlt;have LQ:=h4 k _ hx;have hg:=KQ w _ LQ;simp only at hg;simp only[Nat.add_zero]at LQ;have HX:=aa hx;clear h4 hx;generalize l[k]=y at*;cases hy:(y.toList==x.toList)
   ·go_wp2
    go_round
    case rel=>exact⟨k+1,by omega,by go_num,by
     rw[Ld,HX.o];intro z hz;rcases List.mem_append.1 hz with hz|hz
     ·exact HC.o z hz
     ·simp at hz;subst hz;rw[bY]at hy;simpa using hy⟩
    case measure=>simp[intOf];omega
   ·go_wp2
    go_ret;exact⟨dx (by rw[<-HQ.o];rw[bY]at hy;simp only[Lc]at hy;subst hy;unfold ah;rw[lj l y 0 k HC.o HX.o];simp),(KL _ _).alloc (KK _) _⟩
  ·go_wp2
   go_ret;exact⟨dx (by
    rw[<-HQ.o];have:=HC.o;rw[KW (by omega)]at this;unfold ah;rw[lG l x 0 this]),(KL _ _).alloc (KK _) _⟩
def jA(l:List Ls):Bool:=(List.range l.length).all fun i=>!ba (l.getD i bE) (l.take i)
theorem An(l:List Ls)(h:∀i,i<l.length->ba (l.getD i bE) (l.take i)=false):jA l=true:=by
 unfold jA;rw[Lh];intro i hi;rw[h i (List.mem_range.1 hi)];rfl
theorem BT(l:List Ls)(i:Nat)(hi:i<l.length)(h:ba (l.getD i bE) (l.take i)=true):jA l=false:=by
 cases hb:jA l
 ·rfl
 ·unfold jA at hb
  rw[Lh]at hb;have:=hb i (List.mem_range.2 hi);rw[h]at this;cases this
theorem cH.take{w:World}{a:Option Addr}{cap:Nat}{l:List Ls}(h:cH w (.slice a l.length cap) l)(k:Nat)(hk:k<=l.length):cH w (.slice a k cap) (l.take k):=by
 obtain⟨a',LM,h1,h2,h3⟩:=h;cases h1;have hl:(l.take k).length=k:=by simp;omega
 refine⟨a,cap,by rw[hl],by omega,?_⟩;rcases h3 with h3|⟨g,off,h3,h4⟩
 ·left;rw[h3];simp
 ·refine Or.inr ⟨g,off,h3,fun j x hj=>h4 j x ?_⟩
  have hjk:j<k:=by have:=(KO.1 hj).1;omega
  rw[List.getElem?_take_of_lt hjk]at hj;exact hj
theorem ux(v:Value)(l:List Ls)(w:World)(h:cH w v l)(hl:l.length<=100000):
 Calls prog 77 #[v] w fun e w'=>e=.returned (.bool (jA l))/\Lt w w':=by
 have h0:=h;obtain⟨a,cap,rfl,Oh,_⟩:=h;generalize hq:jA l=q;have HQ:=aa hq;have H0:=aa h0;clear hq h0;go_enter func77,ntmps77;go_wp2_with fail
 go_loopw [3] (fun i wr=>∃k:Nat,k<=l.length/\i=.int .i64 k/\(∀j,j<k->ba (l.getD j bE) (l.take j)=false)/\Lt w wr) (fun i _=>l.length-(intOf i).toNat)
 case atStart=>exact⟨0,KU _,rfl,fun j hj=>absurd hj (by omega),KL _ _⟩
 case round=>
  obtain⟨k,hk,rfl,hc,LN⟩:=hrel;have HC:=aa hc;clear hc;by_cases hlt:k<l.length
  ·have hs:=H0.o.below LN
   have HS:=aa (hs.take k hk);obtain⟨a',LM,h1,_,h3⟩:=hs;cases h1;obtain⟨g,off,ha,h4⟩:∃g off,a=some ⟨g,off,none⟩/\∀j x,l[j]?=some x->wr.cell? ⟨g,off+j,none⟩=some (.string x):=by
    rcases h3 with e|e
    ·rw[e]at hlt;simp at hlt
    ·exact e
   subst ha;have hx:=KM hlt;have LQ:=h4 k _ hx;have HX:=aa (show l.getD k bE=l[k]from by rw[List.getD_eq_getElem?_getD,hx];rfl);clear h4 hx h3;generalize l[k]=y at*;have hm:∀n,Calls prog 86 #[.string y,.slice (some ⟨g,off,none⟩) k cap] (wr.drewN n) fun e w'=>e=.returned (.bool (ba y (l.take k)))/\w'=wr.drewN n:=fun n=>
    o5 y _ _ _ (HS.o.below (below_drewN (KL _ _) n)) (by simp;omega)
   go_wp2_with fail;cases hy:ba y (l.take k)
   ·rw[hy]at hm
    have HM:=aa hm;clear hm;go_quiet ((go_at_call 86;exact Calls.quiet_of_same (HM.o _)));go_wp2_with fail
    go_roundw
    case rel=>exact⟨k+1,by omega,by go_num,fun j hj=>by
     by_cases e:j=k
     ·subst e;rw[HX.o];exact hy
     ·exact HC.o j (by omega),below_drewN LN _⟩
    case measure=>simp[intOf];omega
   ·rw[hy]at hm
    have HM:=aa hm;clear hm;go_quiet ((go_at_call 86;exact Calls.quiet_of_same (HM.o _)));go_wp2_with fail;go_ret;exact⟨am (by rw[<-HQ.o,BT l k hlt (by rw[HX.o];exact hy)]),below_drewN LN _⟩
  ·go_wp2_with fail
   go_ret;exact⟨am (by rw[<-HQ.o,An l (fun i hi=>HC.o i (by omega))]),LN⟩
def gZ(w:World)(v:Value)(l:List aj):Prop:=∃a cap,v=.slice a l.length cap/\(l=[]\/∃g,a=some ⟨g,0,none⟩/\∀j r,l[j]?=some r->w.cell? ⟨g,j*2,none⟩=some (.string r.name)/\∃u,w.cell? ⟨g,j*2+1,none⟩=some u/\cH w u r.LA)
def kY(w:World)(v:Value)(l:List bj):Prop:=∃a cap,v=.slice a l.length cap/\(l=[]\/∃g,a=some ⟨g,0,none⟩/\∀j f,l[j]?=some f->w.cell? ⟨g,j*5,none⟩=some (.string f.name)/\w.cell? ⟨g,j*5+1,none⟩=some (.string f.arg)/\w.cell? ⟨g,j*5+2,none⟩=some (.string f.ty)/\w.cell? ⟨g,j*5+3,none⟩=some (.string f.LG)/\w.cell? ⟨g,j*5+4,none⟩=some (.string f.LH))
def i5(w:World)(v:Value)(l:List ap):Prop:=∃a cap,v=.slice a l.length cap/\(l=[]\/∃g,a=some ⟨g,0,none⟩/\∀j d,l[j]?=some d->w.cell? ⟨g,j*6,none⟩=some (.int .i64 d.sort)/\w.cell? ⟨g,j*6+1,none⟩=some (.string d.name)/\w.cell? ⟨g,j*6+4,none⟩=some (.bool d.LC)/\∃vF vA vR,w.cell? ⟨g,j*6+2,none⟩=some vF/\w.cell? ⟨g,j*6+3,none⟩=some vA/\w.cell? ⟨g,j*6+5,none⟩=some vR/\kY w vF d.fields/\cH w vA d.Ly/\ff w vR d.Lw)
theorem ao{w w':World}{p:Addr}{u:Value}(hb:Lt w w')(h:w.cell? p=some u):w'.cell? p=some u:=by
 rw[hb.cell (KQ w _ h)];exact h
theorem gZ.below{w w':World}{v:Value}{l:List aj}(h:gZ w v l)(hb:Lt w w'):gZ w' v l:=by
 obtain⟨a,cap,h1,h3⟩:=h;refine⟨a,cap,h1,?_⟩;rcases h3 with h3|⟨g,h3,h4⟩
 ·exact Or.inl h3
 ·refine Or.inr ⟨g,h3,fun j r hj=>?_⟩
  obtain⟨c0,u,c1,hs⟩:=h4 j r hj;exact⟨ao hb c0,u,ao hb c1,hs.below hb⟩
theorem kY.below{w w':World}{v:Value}{l:List bj}(h:kY w v l)(hb:Lt w w'):kY w' v l:=by
 obtain⟨a,cap,h1,h3⟩:=h;refine⟨a,cap,h1,?_⟩;rcases h3 with h3|⟨g,h3,h4⟩
 ·exact Or.inl h3
 ·refine Or.inr ⟨g,h3,fun j f hj=>?_⟩
  obtain⟨c0,c1,c2,c3,c4⟩:=h4 j f hj;exact⟨ao hb c0,ao hb c1,ao hb c2,ao hb c3,ao hb c4⟩
theorem i5.below{w w':World}{v:Value}{l:List ap}(h:i5 w v l)(hb:Lt w w'):i5 w' v l:=by
 obtain⟨a,cap,h1,h3⟩:=h;refine⟨a,cap,h1,?_⟩;rcases h3 with h3|⟨g,h3,h4⟩
 ·exact Or.inl h3
 ·refine Or.inr ⟨g,h3,fun j d hj=>?_⟩
  obtain⟨c0,c1,c4,vF,vA,vR,c2,c3,c5,s1,s2,s3⟩:=h4 j d hj;exact⟨ao hb c0,ao hb c1,ao hb c4,vF,vA,vR,ao hb c2,ao hb c3,ao hb c5,s1.below hb,s2.below hb,s3.below hb⟩
theorem gZ.names{w:World}{v:Value}{l:List aj}(h:gZ w v l):lU w v 2 0 (l.map aj.name):=by
 obtain⟨a,cap,h1,h3⟩:=h;refine⟨a,cap,by simpa using h1,?_⟩;rcases h3 with h3|⟨g,h3,h4⟩
 ·left;simp[h3]
 ·refine Or.inr ⟨g,h3,fun j x hj=>?_⟩
  rw[La]at hj;cases hr:l[j]? with
  |none=>rw[hr]at hj;cases hj
  |some r=>rw[hr]at hj;cases hj;exact(h4 j r hr).1
theorem i5.names{w:World}{v:Value}{l:List ap}(h:i5 w v l):lU w v 6 1 (l.map ap.name):=by
 obtain⟨a,cap,h1,h3⟩:=h;refine⟨a,cap,by simpa using h1,?_⟩;rcases h3 with h3|⟨g,h3,h4⟩
 ·left;simp[h3]
 ·refine Or.inr ⟨g,h3,fun j x hj=>?_⟩
  rw[La]at hj;cases hr:l[j]? with
  |none=>rw[hr]at hj;cases hj
  |some r=>rw[hr]at hj;cases hj;exact(h4 j r hr).2.1
theorem kY.names{w:World}{v:Value}{l:List bj}(h:kY w v l):lU w v 5 0 (l.map bj.name):=by
 obtain⟨a,cap,h1,h3⟩:=h;refine⟨a,cap,by simpa using h1,?_⟩;rcases h3 with h3|⟨g,h3,h4⟩
 ·left;simp[h3]
 ·refine Or.inr ⟨g,h3,fun j x hj=>?_⟩
  rw[La]at hj;cases hr:l[j]? with
  |none=>rw[hr]at hj;cases hj
  |some r=>rw[hr]at hj;cases hj;exact(h4 j r hr).1
def mV(Lu:List aj)(x:Ls):Bool:=decide (x=bE)||decide (0<=ah (Lu.map aj.name) x)
theorem kL(x:Ls):x.toList.isEmpty=decide (x=bE):=by
 rw[Bool.eq_iff_iff];simp only[List.isEmpty_iff,Lc];constructor
 ·intro h;apply ByteArray.ext;apply Array.toList_inj.1;rw[<-Lib.toList_data,h];rfl
 ·intro h;rw[h,Lib.toList_data];rfl
theorem AU(aD:Option Addr)(nD cD:Nat)(v:Value)(x:Ls)(l:List aj)(w:World)(h:gZ w v l)(hl:l.length<=100000):
 Calls prog 109 #[.agg #[v,.slice aD nD cD],.string x] w fun e w'=>e=.returned (.bool (mV l x))/\Lt w w':=by
 have hq:mV l x=(x.toList.isEmpty||decide (0<=ah (l.map aj.name) x)):=by unfold mV;rw[kL]
 have HQ:=aa hq;clear hq;have hc:=fun o=>rB aD nD cD v x (l.map aj.name) (w.alloc o) (h.names.below ((KL _ _).alloc (KK _) o)) (by simpa using hl);obtain⟨a,cap,rfl,_⟩:=h;generalize ah (l.map aj.name) x=k at*;cases he:x.toList.isEmpty
 ·by_cases hk:0<=k
  ·go_enter func109,ntmps109
   go_wp2_with fail;refine(hc _).mono ?_;clear hc;rintro e w1 ⟨rfl,hb1⟩;go_wp2_with fail;go_ret;exact⟨am (by rw[HQ.o,he];simp[hk]),((KL _ _).alloc (KK _) _).trans (hb1.mono (by simp))⟩
  ·go_enter func109,ntmps109
   go_wp2_with fail;refine(hc _).mono ?_;clear hc;rintro e w1 ⟨rfl,hb1⟩;go_wp2_with fail;go_ret;exact⟨am (by rw[HQ.o,he];simp),((KL _ _).alloc (KK _) _).trans (hb1.mono (by simp))⟩
 ·go_enter func109,ntmps109
  go_wp2_with fail;go_ret;exact⟨am (by rw[HQ.o,he];rfl),(KL _ _).alloc (KK _) _⟩
def kU(U l:List Ls):Nat:=(U.filter fun u=>!ba u l).length
def fL:List Ls->List Ls->List Ls
 |[],l=>l
 |x::r,l=>fL r (if ba x l=true then l else l++[x])
def g8(Lu:List aj)(x:Ls):List Ls:=
 if ah (Lu.map aj.name) x<0 then []else((Lu[(ah (Lu.map aj.name) x).toNat]?).map aj.LA).getD []
def kG(Lu:List aj):Nat->Nat->List Ls->List Ls
 |0,_,l=>l
 |f+1,i,l=>match l[i]? with
  |none=>l
  |some x=>kG Lu f (i+1) (fL (g8 Lu x) l)
def fQ(Lu:List aj):List Ls:=Lu.flatMap aj.LA
theorem td(u x:Ls)(l:List Ls):ba u (l++[x])=(ba u l||decide (x=u)):=by
 unfold ba;rw[List.any_append];simp
theorem Ef(U l:List Ls)(x:Ls):kU U (l++[x])<=kU U l:=by
 unfold kU
 induction U with
 |nil=>simp
 |cons u U ih=>
  rw[List.filter_cons,List.filter_cons,td];cases h1:ba u l
  ·cases h2:decide (x=u)
   ·simpa using ih
   ·simp;omega
  ·simpa using ih
theorem CB(U l:List Ls)(x:Ls)(hx:x∈U)(hm:ba x l=false):kU U (l++[x])+1<=kU U l:=by
 unfold kU
 induction U with
 |nil=>cases hx
 |cons u U ih=>
  rw[List.filter_cons,List.filter_cons,td];have hle:=Ef U l x;unfold kU at hle;by_cases e:x=u
  ·subst e
   simp only[hm,decide_true,Bool.or_true,Bool.not_true,Lj,if_false,Bool.not_false,if_true,Lm];omega
  ·have hxU:x∈U:=by
    rcases List.mem_cons.1 hx with h|h
    ·exact absurd h e
    ·exact h
   have:=ih hxU;cases h1:ba u l
   ·simp[e];omega
   ·simpa [e]using this
theorem sy(U:List Ls):∀(LA l:List Ls),(∀x∈LA,x∈U)->l.length<=(fL LA l).length/\kU U (fL LA l)+(fL LA l).length<=kU U l+l.length
 |[],l,_=>⟨KK _,KK _⟩
 |x::r,l,h=>by
  rw[fL];have hr:∀y∈r,y∈U:=fun y hy=>h y (by simp[hy]);by_cases hm:ba x l=true
  ·rw[K9 hm];exact sy U r l hr
  ·rw[K8 hm]
   have h1:=sy U r (l++[x]) hr;have h2:=CB U l x (h x (by simp)) (by simpa using hm);simp only[Lb,Lm,List.length_nil]at h1;omega
theorem uP(Lu:List aj)(x:Ls):∀y∈g8 Lu x,y∈fQ Lu:=by
 intro y hy;unfold g8 at hy;split at hy
 ·cases hy
 ·cases hr:Lu[(ah (Lu.map aj.name) x).toNat]? with
  |none=>rw[hr]at hy;cases hy
  |some r=>
   rw[hr]at hy;exact List.mem_flatMap.2 ⟨r,KN hr,hy⟩
def mu(Lu:List aj)(i:Nat)(l:List Ls):Nat:=kU (fQ Lu) l+(l.length-i)
theorem um(Lu:List aj)(i:Nat)(l:List Ls)(x:Ls)(h:l[i]?=some x):mu Lu (i+1) (fL (g8 Lu x) l)<mu Lu i l:=by
 have hi:i<l.length:=(KO.1 h).1;have:=sy (fQ Lu) (g8 Lu x) l (uP Lu x);unfold mu;omega
theorem DA(Lu:List aj):∀(f i:Nat) (l:List Ls),mu Lu i l<f->kG Lu f i l=kG Lu (mu Lu i l+1) i l:=by
 intro f
 induction f using Nat.strongRecOn with
 |_ f ih=>
  intro i l hf
  match f,hf with
  |f+1,hf=>
   simp only[kG];cases hx:l[i]? with
   |none=>rfl
   |some x=>
    have hs:=um Lu i l x hx;simp only;rw[ih f (by omega) _ _ (by omega)];by_cases e:mu Lu i l=f
    ·rw[e,ih f (by omega) _ _ (by omega)]
    ·rw[ih (mu Lu i l) (by omega) _ _ (by omega)]
theorem Gj(Lu:List aj)(i:Nat)(l:List Ls)(x:Ls)(h:l[i]?=some x):kG Lu (mu Lu i l+1) i l=kG Lu (mu Lu (i+1) (fL (g8 Lu x) l)+1) (i+1) (fL (g8 Lu x) l):=by
 have hs:=um Lu i l x h;rw[kG,h];simp only;exact DA Lu _ _ _ hs
theorem DT(Lu:List aj)(i:Nat)(l:List Ls)(h:l.length<=i)(f:Nat):kG Lu (f+1) i l=l:=by
 rw[kG,List.getElem?_eq_none h]
def iE(Lu:List aj)(x:Ls):List Ls:=kG Lu (mu Lu 0 [x]+1) 0 [x]
theorem GQ(U l:List Ls):kU U l<=U.length:=List.length_filter_le _ _
end Go.Proofs.YtgbloieahmkcjaaGreat
