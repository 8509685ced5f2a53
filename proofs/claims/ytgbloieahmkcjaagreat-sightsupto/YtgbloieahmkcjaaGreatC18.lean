import Derived.Test.YtgbloieahmkcjaaGreatC17
import Derived.Test.YtgbloieahmkcjaaGreatC10
import Derived.Maps.OwnSet
import Derived.Maps.OwnOps
import Derived.Maps.Views
import Derived.StringKeys
namespace Go.Proofs.YtgbloieahmkcjaaGreat
set_option maxHeartbeats 20000000
set_option maxRecDepth 100000
open Go.RowKit Tryz
open Go.Maps Tryz
open Go.ChangeMaps Tryz
def kl(x:Ls):Lit:=.string x.data.toList
theorem sL{x y:Ls}(h:kl x=kl y):x=y:=by
 unfold kl at h;simp only[Lit.string.injEq]at h;apply ByteArray.ext;exact Array.toList_inj.1 h
theorem nE(x:Ls):WideAt.IsKeyLit (kl x):=by unfold kl;trivial
theorem jn:Keyed prog 9:=string_keyed underlying9
theorem me(w:World):(zeroValue 3).run prog w=.ok (.int .i64 0) w:=by kernel_rfl
theorem qe(x:Ls)(h:x.size<=4000):keyOf prog 9 (.string x)=some (kl x):=Go.WideMaps.keyOf_string_mk underlying9 (by unfold maxLen;omega)
def dZ:List Ls->Bool
 |[]=>true
 |x::r=>!ba x r&&dZ r
theorem kR:∀l:List Ls,dZ l=true↔l.Nodup
 |[]=>by simp[dZ]
 |x::r=>by
  rw[dZ,List.nodup_cons,Li,kR r];constructor
  ·rintro⟨h1,h2⟩;refine⟨fun hx=>?_,h2⟩;rw[(ii x r).2 hx]at h1;cases h1
  ·rintro⟨h1,h2⟩;exact⟨by rw[pO x r h1];rfl,h2⟩
theorem uc(n:Int)(w:World):(Instr.makeMap 72 (some (.int .i64 n))).run prog w=.ok (.map (some w.heap.size)) (w.alloc (.map #[] 0)):=by
 unfold Instr.makeMap;simp[go_sem]
structure PM(l:List Ls)(D:DataW Unit):Prop where
 tidy:Tidy D
 hasP:∀x,Maps.has D (kl x)=ba x l
 val:∀x,x∈l->∃j:Nat,l[j]?=some x/\∀z,D.atKey (kl x) z=.lit (.int .i64 j)
 le:Maps.size D<=l.length
 eq:Maps.size D=l.length↔l.Nodup
theorem PM.nil:PM [] (.map []):=⟨tidy_empty,fun x=>by simp[Maps.has,ba],fun x hx=>by simp at hx,by simp[Maps.size],by simp[Maps.size]⟩
theorem tK(l:List Ls)(x:Ls):(l++[x]).Nodup↔l.Nodup/\x∉l:=by
 rw[List.nodup_append];constructor
 ·rintro⟨h1,_,h3⟩;exact⟨h1,fun hx=>h3 x hx x (by simp) rfl⟩
 ·rintro⟨h1,h2⟩;refine⟨h1,by simp,fun a ha b hb e=>?_⟩
  simp at hb;subst hb;subst e;exact h2 ha
theorem PM.snoc{l:List Ls}{D:DataW Unit}(h:PM l D)(x:Ls):PM (l++[x]) (D.put (kl x) (.lit (.int .i64 l.length))):=by
 have hsz:=size_put (k:=kl x) h.tidy (.lit (.int .i64 l.length));rw[h.hasP x]at hsz;refine⟨h.tidy.put (nE x) _,fun y=>?_,fun y hy=>?_,?_,?_⟩
 ·rw[td]
  by_cases e:y=x
  ·subst e;rw[has_put_same h.tidy.isMap (nE y)];simp
  ·rw[has_put_other (fun h'=>e (sL h')),h.hasP y,KT (fun e'=>e e'.symm)];simp
 ·by_cases e:y=x
  ·subst e;exact⟨l.length,by simp,fun z=>atKey_put_same h.tidy.isMap (nE y) _ z⟩
  ·have hy':y∈l:=by simpa [e]using hy
   obtain⟨j,h1,h2⟩:=h.val y hy';exact⟨j,by rw[Lf (KO.1 h1).1];exact h1,fun z=>by rw[atKey_put_other (fun h'=>e (sL h'))];exact h2 z⟩
 ·rw[hsz];have:=h.le;simp;split<;>omega
 ·rw[hsz,tK,<-h.eq]
  have:=h.le;by_cases hx:x∈l
  ·rw[(ii x l).2 hx];simp[hx];omega
  ·rw[pO x l hx];simp[hx]
def lM(P:Nat->Value->Prop)(w:World)(v:Value)(size:Nat)(l:List Ls):Prop:=∃a cap,v=.slice a l.length cap/\(l=[]\/∃g,a=some ⟨g,0,none⟩/\∀(j:Nat) (x:Ls),l[j]?=some x->w.cell? ⟨g,j*size,none⟩=some (.string x)/\∀k,0<k->k<size->∃u,w.cell? ⟨g,j*size+k,none⟩=some u/\P k u)
theorem lM.below{P:Nat->Value->Prop}{w w':World}{v:Value}{size:Nat}{l:List Ls}(h:lM P w v size l)(hb:Lt w w'):lM P w' v size l:=by
 obtain⟨a,cap,h1,h3⟩:=h;refine⟨a,cap,h1,?_⟩;rcases h3 with h3|⟨g,h3,h4⟩
 ·exact Or.inl h3
 ·refine Or.inr ⟨g,h3,fun j x hj=>?_⟩
  obtain⟨c0,cs⟩:=h4 j x hj;exact⟨ao hb c0,fun k h1 h2=>by obtain⟨u,hu,hp⟩:=cs k h1 h2;exact⟨u,ao hb hu,hp⟩⟩
theorem dk.shaped{β:Type}{w:World}{B e size:Nat}{v:Value}{flat:β->List Value}{ok:World->β->Prop}{L:List β}(P:Nat->Value->Prop)(h:dk w B e size v flat ok L)(nmOf:β->Ls)(hf:∀x,(flat x).length=size)(h0:∀x,(flat x)[0]?=some (.string (nmOf x)))(hP:∀x∈L,∀k u,0<k->(flat x)[k]?=some u->P k u):lM P w v size (L.map nmOf):=by
 obtain⟨a,cap,hv⟩:=bc h.own;refine⟨a,cap,by simpa using hv,?_⟩;cases hL:L with
 |nil=>left;rfl
 |cons y l=>
  right;obtain⟨g,LM,hv',_⟩:=h.cell hf 0 y (by rw[hL];rfl);rw[hv]at hv';cases hv';refine⟨g,rfl,fun j x hx=>?_⟩;rw[<-hL,La]at hx;cases hz:L[j]? with
  |none=>rw[hz]at hx;cases hx
  |some z=>
   rw[hz]at hx;cases hx;obtain⟨g2,cap2,hv2,hc⟩:=h.cell hf j z hz;rw[hv]at hv2;cases hv2;refine⟨by have:=hc 0 _ (h0 z);simpa using this,fun k hk0 hk=>?_⟩;have:k<(flat z).length:=by rw[hf];exact hk
   exact⟨_,hc k _ (KM this),hP z (KN hz) k _ hk0 (KM this)⟩
def sV(_:Nat)(u:Value):Prop:=∃a n c,u=.slice a n c
def rH(_:Nat)(_:Value):Prop:=True
def qZ(k:Nat)(u:Value):Prop:=(k<5->∃s,u=.string s)/\(k=5->∃q,u=.pointer q)
abbrev ie(w:World)(M n:Nat)(D:DataW Unit):Prop:=w.ownsMap prog 9 (plainElem prog 3) M n D
theorem Ju(n:Ls)(W:World):Sem.run prog (method 416 152 (.agg #[.string n]) "veil/schemas.called") W=.ok (236,.agg #[.string n]) W:=by kernel_rfl
theorem yJ(w:World)(v:Value)(l:List Ls)(h:lM sV w v 2 l)(hl:l.length<=100000)(hsz:∀x∈l,x.size<=4000):
 Calls prog 80 #[v] w fun e w'=>∃M D,e=.returned (.map (some M))/\w.heap.size<=M/\ie w' M l.length D/\PM l D/\Lt w w':=by
 have hmm:=uc;have H0:=aa h;have HSZ:=aa hsz;obtain⟨a,cap,rfl,_⟩:=h;clear hsz;go_enter func80,ntmps80;go_wp2_with fail;go_loopg [4,5,11] l.length (fun m v4 v5 v11 wr=>∃k:Nat,v11=.int .i64 k/\k<=l.length/\l.length-k<=m/\∃D,ie wr w.heap.size k D/\PM (l.take k) D/\Lt w wr)
 case atStart=>exact⟨0,rfl,KU _,by omega,.map [],World.ownsMap_made _ _ _ _,PM.nil,(KL _ _).alloc (KK _) _⟩
 case round=>
  obtain⟨k,rfl,hk,hm,D,LJ,hpm,hb⟩:=hrel;have HPM:=aa hpm;clear hpm;by_cases hlt:k<l.length
  ·obtain⟨a',LM,e1,h3⟩:=H0.o.below hb
   cases e1;obtain⟨g,ha,h4⟩:∃g,a=some ⟨g,0,none⟩/\∀(j:Nat) (x:Ls),l[j]?=some x->wr.cell? ⟨g,j*2,none⟩=some (.string x)/\∀k,0<k->k<2->∃u,wr.cell? ⟨g,j*2+k,none⟩=some u/\sV k u:=by
    rcases h3 with e|e
    ·rw[e]at hlt;simp at hlt
    ·exact e
   subst ha;have hx:=KM hlt;obtain⟨LQ,LW⟩:=h4 k _ hx;obtain⟨u1,hu1,hp1⟩:=LW 1 (by decide) (by decide);obtain⟨ra1,rn1,rc1,rfl⟩:=hp1;have hky:=HSZ.o _ (KN hx);have HX:=aa hx;clear h4 hx LW h3;generalize l[k]=y at*;have MD:=qe y hky;have Na:=fun W=>Bi y (.slice ra1 rn1 rc1) W;have hcl:=nO (wr.alloc (.cells #[.string y,.slice ra1 rn1 rc1] 154)) y;have hbs:=hb.size;have hwf:(Lit.int .i64 (k:Int)).wf=true:=WalkArith.wf_i64 (by omega);have Mq:=aa LJ;clear LJ;go_wp2_with fail;refine hcl.mono ?_;clear hcl;rintro e w1 ⟨rfl,hb1⟩;have L7:ie w1 w.heap.size k D:=World.ownsMap.kept (Mq.o.alloc _) ⟨hb1.os,hb1.tape,hb1.output,hb1.size,fun i hi _=>hb1.block i hi⟩ (by simp:some w.heap.size≠none);have hbb:Lt w w1:=(hb.alloc hb.size _).trans (hb1.mono (by simp;omega));clear hb1;go_wp2_with (first|(at_mapUpdate;refine wpList_mapUpdate_own _ rfl _ _ _ 72 rfl 9 3 jn underlying72 _ w.heap.size k D rfl L7 (by unfold maxLen;omega) _ _ _ rfl rfl MD _ [] (plainElem_int underlying3 hwf) ?_;intro w2 LL hgrow2)|go_in);have hb2:Lt w w2:=hbb.grown hgrow2 hbb.size (fun j hj=>by cases hj;exact KK _);have NV:PM (l.take (k+1)) (D.put (kl y) (.lit (.int .i64 k))):=by
    have:=HPM.o.snoc y;rw[List.length_take,Nat.min_eq_left hk]at this;rw[Ld,HX.o];exact this
   have HO2:=aa LL;have HP2:=aa NV;clear L7 hgrow2 hbb LL NV;go_wp2_with fail;go_roundg (l.length-(k+1))
   case measure=>omega
   case rel=>exact⟨k+1,by go_num,by omega,KK _,_,HO2.o,HP2.o,hb2⟩
  ·go_wp2_with fail
   go_ret;have hke:k=l.length:=by omega
   subst hke;exact⟨_,D,rfl,KK _,LJ,by have:=HPM.o;rw[KW (KK _)]at this;exact this,hb⟩
theorem E1(w:World)(v:Value)(l:List Ls)(h:lM rH w v 1 l)(hl:l.length<=100000)(hsz:∀x∈l,x.size<=4000):
 Calls prog 136 #[v] w fun e w'=>∃M D,e=.returned (.map (some M))/\w.heap.size<=M/\ie w' M l.length D/\PM l D/\Lt w w':=by
 have hmm:=uc;have H0:=aa h;have HSZ:=aa hsz;obtain⟨a,cap,rfl,_⟩:=h;clear hsz;go_enter func136,ntmps136;go_wp2_with fail;go_loopg [4,5,11] l.length (fun m v4 v5 v11 wr=>∃k:Nat,v11=.int .i64 k/\k<=l.length/\l.length-k<=m/\∃D,ie wr w.heap.size k D/\PM (l.take k) D/\Lt w wr)
 case atStart=>exact⟨0,rfl,KU _,by omega,.map [],World.ownsMap_made _ _ _ _,PM.nil,(KL _ _).alloc (KK _) _⟩
 case round=>
  obtain⟨k,rfl,hk,hm,D,LJ,hpm,hb⟩:=hrel;have HPM:=aa hpm;clear hpm;by_cases hlt:k<l.length
  ·obtain⟨a',LM,e1,h3⟩:=H0.o.below hb
   cases e1;obtain⟨g,ha,h4⟩:∃g,a=some ⟨g,0,none⟩/\∀(j:Nat) (x:Ls),l[j]?=some x->wr.cell? ⟨g,j*1,none⟩=some (.string x)/\∀k,0<k->k<1->∃u,wr.cell? ⟨g,j*1+k,none⟩=some u/\rH k u:=by
    rcases h3 with e|e
    ·rw[e]at hlt;simp at hlt
    ·exact e
   subst ha;have hx:=KM hlt;obtain⟨LQ,LW⟩:=h4 k _ hx;simp only[Nat.mul_one]at LQ;have hky:=HSZ.o _ (KN hx);have HX:=aa hx;clear h4 hx LW h3;generalize l[k]=y at*;have MD:=qe y hky;have Na:=fun W=>Ju y W;have hcl:=nO (wr.alloc (.cells #[.string y] 152)) y;have hbs:=hb.size;have hwf:(Lit.int .i64 (k:Int)).wf=true:=WalkArith.wf_i64 (by omega);have Mq:=aa LJ;clear LJ;go_wp2_with fail;refine hcl.mono ?_;clear hcl;rintro e w1 ⟨rfl,hb1⟩;have L7:ie w1 w.heap.size k D:=World.ownsMap.kept (Mq.o.alloc _) ⟨hb1.os,hb1.tape,hb1.output,hb1.size,fun i hi _=>hb1.block i hi⟩ (by simp:some w.heap.size≠none);have hbb:Lt w w1:=(hb.alloc hb.size _).trans (hb1.mono (by simp;omega));clear hb1;go_wp2_with (first|(at_mapUpdate;refine wpList_mapUpdate_own _ rfl _ _ _ 72 rfl 9 3 jn underlying72 _ w.heap.size k D rfl L7 (by unfold maxLen;omega) _ _ _ rfl rfl MD _ [] (plainElem_int underlying3 hwf) ?_;intro w2 LL hgrow2)|go_in);have hb2:Lt w w2:=hbb.grown hgrow2 hbb.size (fun j hj=>by cases hj;exact KK _);have NV:PM (l.take (k+1)) (D.put (kl y) (.lit (.int .i64 k))):=by
    have:=HPM.o.snoc y;rw[List.length_take,Nat.min_eq_left hk]at this;rw[Ld,HX.o];exact this
   have HO2:=aa LL;have HP2:=aa NV;clear L7 hgrow2 hbb LL NV;go_wp2_with fail;go_roundg (l.length-(k+1))
   case measure=>omega
   case rel=>exact⟨k+1,by go_num,by omega,KK _,_,HO2.o,HP2.o,hb2⟩
  ·go_wp2_with fail
   go_ret;have hke:k=l.length:=by omega
   subst hke;exact⟨_,D,rfl,KK _,LJ,by have:=HPM.o;rw[KW (KK _)]at this;exact this,hb⟩
theorem J0(w:World)(v:Value)(l:List Ls)(h:lM qZ w v 6 l)(hl:l.length<=100000)(hsz:∀x∈l,x.size<=4000):
 Calls prog 173 #[v] w fun e w'=>∃M D,e=.returned (.map (some M))/\w.heap.size<=M/\ie w' M l.length D/\PM l D/\Lt w w':=by
 have hmm:=uc;have H0:=aa h;have HSZ:=aa hsz;obtain⟨a,cap,rfl,_⟩:=h;clear hsz;go_enter func173,ntmps173;go_wp2_with fail;go_loopg [4,5,11] l.length (fun m v4 v5 v11 wr=>∃k:Nat,v11=.int .i64 k/\k<=l.length/\l.length-k<=m/\∃D,ie wr w.heap.size k D/\PM (l.take k) D/\Lt w wr)
 case atStart=>exact⟨0,rfl,KU _,by omega,.map [],World.ownsMap_made _ _ _ _,PM.nil,(KL _ _).alloc (KK _) _⟩
 case round=>
  obtain⟨k,rfl,hk,hm,D,LJ,hpm,hb⟩:=hrel;have HPM:=aa hpm;clear hpm;by_cases hlt:k<l.length
  ·obtain⟨a',LM,e1,h3⟩:=H0.o.below hb
   cases e1;obtain⟨g,ha,h4⟩:∃g,a=some ⟨g,0,none⟩/\∀(j:Nat) (x:Ls),l[j]?=some x->wr.cell? ⟨g,j*6,none⟩=some (.string x)/\∀k,0<k->k<6->∃u,wr.cell? ⟨g,j*6+k,none⟩=some u/\qZ k u:=by
    rcases h3 with e|e
    ·rw[e]at hlt;simp at hlt
    ·exact e
   subst ha;have hx:=KM hlt;obtain⟨LQ,LW⟩:=h4 k _ hx;obtain⟨u1,hu1,hp1⟩:=LW 1 (by decide) (by decide);obtain⟨fs1,rfl⟩:=hp1.1 (by decide);obtain⟨u2,hu2,hp2⟩:=LW 2 (by decide) (by decide);obtain⟨fs2,rfl⟩:=hp2.1 (by decide);obtain⟨u3,hu3,hp3⟩:=LW 3 (by decide) (by decide);obtain⟨fs3,rfl⟩:=hp3.1 (by decide);obtain⟨u4,hu4,hp4⟩:=LW 4 (by decide) (by decide);obtain⟨fs4,rfl⟩:=hp4.1 (by decide);obtain⟨u5,hu5,hp5⟩:=LW 5 (by decide) (by decide);obtain⟨fq5,rfl⟩:=hp5.2 rfl;clear hp1 hp2 hp3 hp4 hp5;have hky:=HSZ.o _ (KN hx);have HX:=aa hx;clear h4 hx LW h3;generalize l[k]=y at*;have MD:=qe y hky;have Na:=fun W=>Bv y (.string fs1) (.string fs2) (.string fs3) (.string fs4) (.pointer fq5) W;have hcl:=nO (wr.alloc (.cells #[.string y,.string fs1,.string fs2,.string fs3,.string fs4,.pointer fq5] 180)) y;have hbs:=hb.size;have hwf:(Lit.int .i64 (k:Int)).wf=true:=WalkArith.wf_i64 (by omega);have Mq:=aa LJ;clear LJ;go_wp2_with fail;refine hcl.mono ?_;clear hcl;rintro e w1 ⟨rfl,hb1⟩;have L7:ie w1 w.heap.size k D:=World.ownsMap.kept (Mq.o.alloc _) ⟨hb1.os,hb1.tape,hb1.output,hb1.size,fun i hi _=>hb1.block i hi⟩ (by simp:some w.heap.size≠none);have hbb:Lt w w1:=(hb.alloc hb.size _).trans (hb1.mono (by simp;omega));clear hb1;go_wp2_with (first|(at_mapUpdate;refine wpList_mapUpdate_own _ rfl _ _ _ 72 rfl 9 3 jn underlying72 _ w.heap.size k D rfl L7 (by unfold maxLen;omega) _ _ _ rfl rfl MD _ [] (plainElem_int underlying3 hwf) ?_;intro w2 LL hgrow2)|go_in);have hb2:Lt w w2:=hbb.grown hgrow2 hbb.size (fun j hj=>by cases hj;exact KK _);have NV:PM (l.take (k+1)) (D.put (kl y) (.lit (.int .i64 k))):=by
    have:=HPM.o.snoc y;rw[List.length_take,Nat.min_eq_left hk]at this;rw[Ld,HX.o];exact this
   have HO2:=aa LL;have HP2:=aa NV;clear L7 hgrow2 hbb LL NV;go_wp2_with fail;go_roundg (l.length-(k+1))
   case measure=>omega
   case rel=>exact⟨k+1,by go_num,by omega,KK _,_,HO2.o,HP2.o,hb2⟩
  ·go_wp2_with fail
   go_ret;have hke:k=l.length:=by omega
   subst hke;exact⟨_,D,rfl,KK _,LJ,by have:=HPM.o;rw[KW (KK _)]at this;exact this,hb⟩
theorem E8(w:World)(v:Value)(l:List Ls)(h:lM rH w v 1 l)(hl:l.length<=100000)(hsz:∀x∈l,x.size<=4000):
 Calls prog 100 #[v] w fun e w'=>e=.returned (.bool (dZ l))/\Lt w w':=by
 have hc:=E1 w v l h hl hsz;obtain⟨a,cap,rfl,_⟩:=h;go_enter func100,ntmps100;go_wp2_with fail;refine hc.mono ?_;clear hc;rintro e w1 ⟨M,D,rfl,hM,LJ,hpm,hb⟩;have HQ:=aa (show dZ l=decide (Maps.size D=l.length)from by rw[Bool.eq_iff_iff,kR,<-hpm.eq];simp);have hle:=hpm.le;generalize hsd:Maps.size D=sd at*;clear hpm;by_cases hq:sd=l.length
 ·have t1:((sd:Int)==(l.length:Int))=true:=by simp;omega
  go_wp2_with (first|(at_len;refine wpList_len_own _ rfl _ 72 rfl 9 3 underlying72 _ M _ D rfl LJ ?_;rw[hsd])|go_in);go_ret;exact⟨am (by rw[HQ.o];simp[hq]),hb⟩
 ·have t1:((sd:Int)==(l.length:Int))=false:=by simp;omega
  go_wp2_with (first|(at_len;refine wpList_len_own _ rfl _ 72 rfl 9 3 underlying72 _ M _ D rfl LJ ?_;rw[hsd])|go_in);go_ret;exact⟨am (by rw[HQ.o];simp[hq]),hb⟩
theorem Hx(w:World)(v:Value)(l:List Ls)(h:lM qZ w v 6 l)(hl:l.length<=100000)(hsz:∀x∈l,x.size<=4000):
 Calls prog 138 #[v] w fun e w'=>e=.returned (.bool (dZ l))/\Lt w w':=by
 have hc:=J0 w v l h hl hsz;obtain⟨a,cap,rfl,_⟩:=h;go_enter func138,ntmps138;go_wp2_with fail;refine hc.mono ?_;clear hc;rintro e w1 ⟨M,D,rfl,hM,LJ,hpm,hb⟩;have HQ:=aa (show dZ l=decide (Maps.size D=l.length)from by rw[Bool.eq_iff_iff,kR,<-hpm.eq];simp);have hle:=hpm.le;generalize hsd:Maps.size D=sd at*;clear hpm;by_cases hq:sd=l.length
 ·have t1:((sd:Int)==(l.length:Int))=true:=by simp;omega
  go_wp2_with (first|(at_len;refine wpList_len_own _ rfl _ 72 rfl 9 3 underlying72 _ M _ D rfl LJ ?_;rw[hsd])|go_in);go_ret;exact⟨am (by rw[HQ.o];simp[hq]),hb⟩
 ·have t1:((sd:Int)==(l.length:Int))=false:=by simp;omega
  go_wp2_with (first|(at_len;refine wpList_len_own _ rfl _ 72 rfl 9 3 underlying72 _ M _ D rfl LJ ?_;rw[hsd])|go_in);go_ret;exact⟨am (by rw[HQ.o];simp[hq]),hb⟩
structure CM(l:List Ls)(D:DataW Unit):Prop where
 tidy:Tidy D
 hasP:∀x,Maps.has D (kl x)=ba x l
 one:∀x,x∈l->∀z,D.atKey (kl x) z=.lit (.int .i64 1)
theorem CM.nil:CM [] (.map []):=⟨tidy_empty,fun x=>by simp[Maps.has,ba],fun x hx=>by simp at hx⟩
theorem CM.snoc{l:List Ls}{D:DataW Unit}(h:CM l D)(x:Ls):CM (l++[x]) (D.put (kl x) (.lit (.int .i64 1))):=by
 refine⟨h.tidy.put (nE x) _,fun y=>?_,fun y hy=>?_⟩
 ·rw[td]
  by_cases e:y=x
  ·subst e;rw[has_put_same h.tidy.isMap (nE y)];simp
  ·rw[has_put_other (fun h'=>e (sL h')),h.hasP y,KT (fun e'=>e e'.symm)];simp
 ·by_cases e:y=x
  ·subst e;intro z;exact atKey_put_same h.tidy.isMap (nE y) _ z
  ·have hy':y∈l:=by simpa [e]using hy
   intro z;rw[atKey_put_other (fun h'=>e (sL h'))];exact h.one y hy' z
def fw(kind:Ls->Nat)(K:Nat)(l:List Ls):Bool:=dZ l&&l.all fun x=>decide (kind x=K)
theorem zk(l:List Ls)(k:Nat)(y:Ls)(hy:l[k]?=some y)(h:ba y (l.take k)=true):dZ l=false:=by
 rw[Bool.eq_false_iff];intro hn;rw[kR]at hn;rw[ii]at h;have e:l=l.take k++y::l.drop (k+1):=by
  have hk:=(KO.1 hy);obtain⟨h1,h2⟩:=hk;rw[<-h2,<-Lq h1,List.take_append_drop]
 rw[e,List.nodup_append]at hn;exact hn.2.2 y h y (by simp) rfl
theorem AE(w:World)(S:Nat)(vR vO vI vU vN:Value)(LR:List (aj×Value))(LO:List (aH×Value×Value×Value))(LI:List (bC×Value))(LU:List (bB×Value))(names:List Ls)(v:Value)(l:List Ls)(K:Nat)(h:SV w S vR vO vI vU vN LR LO LI LU names)(hv:cH w v l)(hl:l.length<=100000)(hsz:∀x∈l,x.size<=4000):
 Calls prog 104 #[.pointer (some ⟨S,0,none⟩),v,.int .i64 K] w fun e w'=>e=.returned (.bool (fw (aZ (LO.map oN) (LI.map iN) (LU.map uN)) K l))/\Lt w w':=by
 have hmm:=uc;have H0:=aa h;have HV:=aa hv;have HSZ:=aa hsz;obtain⟨a,cap,rfl,_⟩:=hv;have HQ:=aa (show fw (aZ (LO.map oN) (LI.map iN) (LU.map uN)) K l=(dZ l&&l.all fun x=>decide ((aZ (LO.map oN) (LI.map iN) (LU.map uN)) x=K))from rfl);generalize fw (aZ (LO.map oN) (LI.map iN) (LU.map uN)) K l=FF at*;clear h hsz;go_enter func104,ntmps104;go_wp2_with fail;go_loopg [9,15] l.length (fun m v9 v15 wr=>∃k:Nat,v15=.int .i64 k/\k<=l.length/\l.length-k<=m/\(∃D,ie wr w.heap.size k D/\CM (l.take k) D)/\Lt w wr/\(l.take k).Nodup/\∀x∈l.take k,(aZ (LO.map oN) (LI.map iN) (LU.map uN)) x=K)
 case atStart=>exact⟨0,rfl,KU _,by omega,⟨.map [],World.ownsMap_made _ _ _ _,CM.nil⟩,(KL _ _).alloc (KK _) _,by simp,by simp⟩
 case round=>
  obtain⟨k,rfl,hk,hm,⟨D,LJ,hcm⟩,hb,hnd,LZ⟩:=hrel;have HCM:=aa hcm;have HND:=aa hnd;have Mb:=aa LZ;clear hcm hnd LZ;by_cases hlt:k<l.length
  ·obtain⟨a',LM,e1,_,h3⟩:=HV.o.below hb
   cases e1;obtain⟨g,off,ha,h4⟩:∃g off,a=some ⟨g,off,none⟩/\∀(j:Nat) (x:Ls),l[j]?=some x->wr.cell? ⟨g,off+j,none⟩=some (.string x):=by
    rcases h3 with e|e
    ·rw[e]at hlt;simp at hlt
    ·exact e
   subst ha;have hx:=KM hlt;have LQ:=h4 k _ hx;have hky:=HSZ.o _ (KN hx);have HX:=aa hx;clear h4 hx h3;generalize l[k]=y at*;have MD:=qe y hky;obtain⟨c,Oc,hat,_⟩:=LJ.lookup_int jn underlying72 underlying3 (me _) MD;have hbs:=hb.size;cases MU:ba y (l.take k)
   ·have hc0:c=0:=by
     have:=atKey_of_not_has (D:=D) (k:=kl y) (by rw[HCM.o.hasP];exact MU) (.lit (.int .i64 0));rw[this]at hat;simp only[DataW.lit.injEq,Lit.int.injEq,true_and]at hat;exact hat.symm
    subst hc0;clear hat;have HK:=aa (fun w' hb'=>s9 w' S vR vO vI vU vN LR LO LI LU names y (H0.o.below hb'));have hny:¬y∈l.take k:=fun hin=>by rw[(ii y _).2 hin]at MU;cases MU
    have HNY:=aa hny;clear hny MU;have hwf1:(Lit.int .i64 1).wf=true:=by decide
    by_cases hkk:(aZ (LO.map oN) (LI.map iN) (LU.map uN)) y=K
    ·have t1:(((aZ (LO.map oN) (LI.map iN) (LU.map uN)) y:Int)==(K:Int))=true:=by simp;omega
     have HKK:=aa (show∀z,z=y->(aZ (LO.map oN) (LI.map iN) (LU.map uN)) z=K from fun z hz=>by rw[hz];exact hkk);clear hkk;generalize (aZ (LO.map oN) (LI.map iN) (LU.map uN)) y=kk at*;go_wp2_with (at_mapUpdate;refine wpList_mapUpdate_own _ rfl _ _ _ 72 rfl 9 3 jn underlying72 _ w.heap.size k D rfl LJ (by unfold maxLen;omega) _ _ _ rfl rfl MD _ [] (plainElem_int underlying3 hwf1) ?_;intro w2 LL hgrow2;obtain⟨c2,NM,Ng,_⟩:=LL.lookup_int jn underlying72 underlying3 (me _) MD;have hc2:c2=1:=(by rw[atKey_put_same HCM.o.tidy.isMap (nE y)]at Ng;simp only[DataW.lit.injEq,Lit.int.injEq,true_and]at Ng;exact Ng.symm);subst hc2;clear Ng);have hb2:Lt w w2:=hb.grown hgrow2 hb.size (fun j hj=>by cases hj;exact KK _);refine(HK.o w2 hb2).mono ?_;rintro e w3 ⟨rfl,hb3⟩;have Mg:ie w3 w.heap.size (k+1) _:=World.ownsMap.kept LL ⟨hb3.os,hb3.tape,hb3.output,hb3.size,fun i hi _=>hb3.block i hi⟩ (by simp:some w.heap.size≠none);have hb23:Lt w w3:=hb2.trans (hb3.mono hb2.size);have HO3:=aa Mg;clear LL hgrow2 hb2 hb3 Mg NM HK;go_wp2_with fail;go_roundg (l.length-(k+1))
     case measure=>omega
     case rel=>exact⟨k+1,by go_num,by omega,KK _,⟨_,HO3.o,by rw[Ld,HX.o];exact HCM.o.snoc y⟩,hb23,by
      rw[Ld,HX.o];exact(tK _ y).2 ⟨HND.o,HNY.o⟩,by
      rw[Ld,HX.o];intro x hx;rcases List.mem_append.1 hx with hx|hx
      ·exact Mb.o x hx
      ·exact HKK.o x (by simpa using hx)⟩
    ·have t1:(((aZ (LO.map oN) (LI.map iN) (LU.map uN)) y:Int)==(K:Int))=false:=by simp;omega
     have HE:=aa (show FF=false from by
      rw[HQ.o,Bool.and_eq_false_iff];right;rw[Bool.eq_false_iff];intro hT;rw[Lh]at hT;have:=hT y (KN HX.o);simp only[Lc]at this;exact hkk this)
     clear hkk HQ;generalize (aZ (LO.map oN) (LI.map iN) (LU.map uN)) y=kk at*;go_wp2_with (at_mapUpdate;refine wpList_mapUpdate_own _ rfl _ _ _ 72 rfl 9 3 jn underlying72 _ w.heap.size k D rfl LJ (by unfold maxLen;omega) _ _ _ rfl rfl MD _ [] (plainElem_int underlying3 hwf1) ?_;intro w2 LL hgrow2;obtain⟨c2,NM,Ng,_⟩:=LL.lookup_int jn underlying72 underlying3 (me _) MD;have hc2:c2=1:=(by rw[atKey_put_same HCM.o.tidy.isMap (nE y)]at Ng;simp only[DataW.lit.injEq,Lit.int.injEq,true_and]at Ng;exact Ng.symm);subst hc2;clear Ng);have hb2:Lt w w2:=hb.grown hgrow2 hb.size (fun j hj=>by cases hj;exact KK _);refine(HK.o w2 hb2).mono ?_;rintro e w3 ⟨rfl,hb3⟩;have hb23:Lt w w3:=hb2.trans (hb3.mono hb2.size);clear LL hgrow2 hb2 hb3 NM HK;go_wp2_with fail;go_ret;exact⟨am (by rw[HE.o]),hb23⟩
   ·have hc1:c=1:=by
     have:=HCM.o.one y ((ii y _).1 MU) (.lit (.int .i64 0));rw[this]at hat;simp only[DataW.lit.injEq,Lit.int.injEq,true_and]at hat;exact hat.symm
    subst hc1;have HE:=aa (show FF=false from by rw[HQ.o,zk l k y HX.o MU];rfl);have hwf2:(Lit.int .i64 2).wf=true:=by decide
    clear hat MU HQ;go_wp2_with (at_mapUpdate;refine wpList_mapUpdate_own _ rfl _ _ _ 72 rfl 9 3 jn underlying72 _ w.heap.size k D rfl LJ (by unfold maxLen;omega) _ _ _ rfl rfl MD _ [] (plainElem_int underlying3 hwf2) ?_;intro w2 LL hgrow2;obtain⟨c2,NM,Ng,_⟩:=LL.lookup_int jn underlying72 underlying3 (me _) MD;have hc2:c2=2:=(by rw[atKey_put_same HCM.o.tidy.isMap (nE y)]at Ng;simp only[DataW.lit.injEq,Lit.int.injEq,true_and]at Ng;exact Ng.symm);subst hc2;clear Ng);have hb2:Lt w w2:=hb.grown hgrow2 hb.size (fun j hj=>by cases hj;exact KK _);go_ret;exact⟨am (by rw[HE.o]),hb2⟩
  ·go_wp2_with fail
   go_ret;have hke:l.take k=l:=KW (by omega);exact⟨am (by
    rw[HQ.o];have h1:=HND.o;have h2:=Mb.o;rw[hke]at h1 h2;rw[(kR l).2 h1];simp only[Bool.true_and];symm;rw[Lh];intro x hx;simp[h2 x hx]),hb⟩
def fu(Lu:List Ls)(kind:Ls->Nat)(l:List ax):Bool:=l.all (jM Lu kind)&&dZ (l.map ax.name)
theorem iv.shaped{w:World}{B:Nat}{v:Value}{L:List (ax×Value)}(h:dk w B 180 6 v rJ (tb B) L):lM qZ w v 6 (L.map fN):=
 h.shaped qZ fN (fun _=>rfl) (fun _=>rfl) (fun x hx k u hk hu=>by
  obtain⟨q,hq⟩:=(h.ok x hx).ptr;have:rJ x=[.string x.1.name,.string x.1.LG,.string x.1.LH,.string x.1.arg,.string x.1.scalar,x.2]:=rfl;rw[this]at hu
  match k,hk,hu with
  |1,_,hu=>simp at hu;exact⟨fun _=>⟨_,hu.symm⟩,fun e=>by omega⟩
  |2,_,hu=>simp at hu;exact⟨fun _=>⟨_,hu.symm⟩,fun e=>by omega⟩
  |3,_,hu=>simp at hu;exact⟨fun _=>⟨_,hu.symm⟩,fun e=>by omega⟩
  |4,_,hu=>simp at hu;exact⟨fun _=>⟨_,hu.symm⟩,fun e=>by omega⟩
  |5,_,hu=>simp at hu;exact⟨fun e=>by omega,fun _=>⟨_,by rw[<-hu];exact hq⟩⟩
  |k+6,_,hu=>simp at hu)
theorem C1(w:World)(S:Nat)(vR vO vI vU vN:Value)(LR:List (aj×Value))(LO:List (aH×Value×Value×Value))(LI:List (bC×Value))(LU:List (bB×Value))(names:List Ls)(v:Value)(B:Nat)(l:List ax)(h:SV w S vR vO vI vU vN LR LO LI LU names)(hF:iv w B v l)(hl:l.length<=100000)(hsz:∀f∈l,f.name.size<=4000):
 Calls prog 101 #[.pointer (some ⟨S,0,none⟩),v] w fun e w'=>e=.returned (.bool (fu (LR.map rN) (aZ (LO.map oN) (LI.map iN) (LU.map uN)) l))/\Lt w w':=by
 obtain⟨L,hL,Ma⟩:=hF.row;have Me:L.length=l.length:=by rw[<-hL];simp
 have H0:=aa h;have No:=aa Ma;have HSZ:=aa hsz;have HL:=aa hL;have hLl:L.length<=100000:=by omega
 obtain⟨a,cap,rfl⟩:=bc Ma.own;have HQ:=aa (show fu (LR.map rN) (aZ (LO.map oN) (LI.map iN) (LU.map uN)) l=(l.all (jM (LR.map rN) (aZ (LO.map oN) (LI.map iN) (LU.map uN)))&&dZ (l.map ax.name))from rfl);generalize fu (LR.map rN) (aZ (LO.map oN) (LI.map iN) (LU.map uN)) l=FF at*;clear h hF hsz Ma hL Me;go_enter func101,ntmps101;go_wp2_with fail;go_loopg [5,8] L.length (fun m v5 v8 wr=>∃k:Nat,v8=.int .i64 k/\k<=L.length/\L.length-k<=m/\Lt w wr/\(L.take k).all (fun x=>jM (LR.map rN) (aZ (LO.map oN) (LI.map iN) (LU.map uN)) x.1)=true)
 case atStart=>exact⟨0,rfl,KU _,by omega,KL _ _,by simp⟩
 case round=>
  obtain⟨k,rfl,hk,hm,hb,LZ⟩:=hrel;have Mb:=aa LZ;clear LZ;by_cases hlt:k<L.length
  ·have hx:=KM hlt
   obtain⟨g,LM,hv,hfa,hta⟩:=No.o.fldAt k _ hx;cases hv;have hc:=Jx wr S _ _ _ _ _ LR LO LI LU names g (k*6) B _ _ (H0.o.below hb) (hfa.below hb) (hta.stays (au.of_below hb));have HX:=aa hx;clear hx hfa hta;generalize L[k]=y at*;have HXJ:=aa (show(L.take (k+1)).all (fun x=>jM (LR.map rN) (aZ (LO.map oN) (LI.map iN) (LU.map uN)) x.1)=jM (LR.map rN) (aZ (LO.map oN) (LI.map iN) (LU.map uN)) y.1 from by
    rw[Ld,HX.o,List.all_append,Mb.o];simp)
   cases hq:jM (LR.map rN) (aZ (LO.map oN) (LI.map iN) (LU.map uN)) y.1
   ·rw[hq]at hc
    have HE:=aa (show FF=false from by
     rw[HQ.o,Bool.and_eq_false_iff];left;rw[Bool.eq_false_iff];intro hT;rw[Lh]at hT;have:=hT y.1 (by rw[<-HL.o];exact List.mem_map_of_mem (KN HX.o));rw[hq]at this;cases this)
    clear hq HXJ;go_wp2_with fail;refine hc.mono ?_;clear hc;rintro e w1 ⟨rfl,hb1⟩;have hbb:=hb.trans (hb1.mono hb.size);clear hb1;go_wp2_with fail;go_ret;exact⟨am (by rw[HE.o]),hbb⟩
   ·rw[hq]at hc HXJ
    clear hq;go_wp2_with fail;refine hc.mono ?_;clear hc;rintro e w1 ⟨rfl,hb1⟩;have hbb:=hb.trans (hb1.mono hb.size);clear hb1;go_wp2_with fail;go_roundg (L.length-(k+1))
    case measure=>omega
    case rel=>exact⟨k+1,by go_num,by omega,KK _,hbb,HXJ.o⟩
  ·have hc:=Hx wr _ (L.map fN) ((iv.shaped No.o).below hb) (by simpa using hLl) (by
    intro x hx;rw[pQ L l HL.o]at hx;obtain⟨f,hf,rfl⟩:=List.mem_map.1 hx;exact HSZ.o f hf)
   have HE:=aa (show FF=dZ (L.map fN)from by
    rw[HQ.o,pQ L l HL.o];have:l.all (jM (LR.map rN) (aZ (LO.map oN) (LI.map iN) (LU.map uN)))=true:=by
     have h1:=Mb.o;rw[KW (by omega)]at h1;rw[<-HL.o,List.all_map];exact h1
    rw[this];rfl)
   generalize dZ (L.map fN)=GG at*;go_wp2_with fail;refine hc.mono ?_;clear hc;rintro e w1 ⟨rfl,hb1⟩;go_wp2_with fail;go_ret;exact⟨am (by rw[HE.o]),hb.trans (hb1.mono hb.size)⟩
theorem Hh(w:World)(S:Nat)(vR vO vI vU vN:Value)(LR:List (aj×Value))(LO:List (aH×Value×Value×Value))(LI:List (bC×Value))(LU:List (bB×Value))(names:List Ls)(h:SV w S vR vO vI vU vN LR LO LI LU names)(hsz:∀x∈LI,∀f∈x.1.fields,f.name.size<=4000):
 Calls prog 59 #[.pointer (some ⟨S,0,none⟩)] w fun e w'=>e=.returned (.bool (LI.all fun x=>fu (LR.map rN) (aZ (LO.map oN) (LI.map iN) (LU.map uN)) x.1.fields))/\Lt w w':=by
 have H0:=aa h;have HSZ:=aa hsz;have hli:=h.li;obtain⟨a,cap,hv⟩:=bc h.i.own;subst hv;have c0:w.cell? ⟨S,2,none⟩=some (.slice a LI.length cap):=ae h.sc 2;generalize hFF:(LI.all fun x=>fu (LR.map rN) (aZ (LO.map oN) (LI.map iN) (LU.map uN)) x.1.fields)=FF at*;have HFF:=aa hFF;clear h hsz hFF;go_enter func59,ntmps59;go_wp2_with fail;go_loopg [4,10] LI.length (fun m v4 v10 wr=>∃k:Nat,v10=.int .i64 k/\k<=LI.length/\LI.length-k<=m/\Lt w wr/\((LI.take k).all fun x=>fu (LR.map rN) (aZ (LO.map oN) (LI.map iN) (LU.map uN)) x.1.fields)=true)
 case atStart=>exact⟨0,rfl,KU _,by omega,KL _ _,by simp⟩
 case round=>
  obtain⟨k,rfl,hk,hm,hb,LZ⟩:=hrel;have Mb:=aa LZ;clear LZ;by_cases hlt:k<LI.length
  ·have hx:=KM hlt
   have hsv:=H0.o.below hb;obtain⟨g,LM,hv,hcc⟩:=hsv.i.cell (fun _=>rfl) k _ hx;cases hv;have hok:=hsv.i.ok _ (KN hx);have d0:wr.cell? ⟨g,k*2,none⟩=some (.string LI[k].1.name):=by simpa using hcc 0 _ rfl
   have d1:wr.cell? ⟨g,k*2+1,none⟩=some LI[k].2:=hcc 1 _ rfl;have hsz:=HSZ.o _ (KN hx);have HX:=aa hx;clear hx hcc;generalize LI[k]=y at*;obtain⟨⟨yn,yf⟩,yv⟩:=y;obtain⟨hfl,hyl⟩:=hok;simp only[]at*;obtain⟨aY,cY,rfl⟩:=hfl.slice;have hc:=C1 (wr.alloc (.cells #[.string yn,.slice aY yf.length cY] 197)) S _ _ _ _ _ LR LO LI LU names _ S yf (hsv.below ((KL _ _).alloc (KK _) _)) (hfl.stays (au.alloc _) (au.alloc _)) (by omega) hsz;clear hsv hfl;have HXJ:=aa (show((LI.take (k+1)).all fun x=>fu (LR.map rN) (aZ (LO.map oN) (LI.map iN) (LU.map uN)) x.1.fields)=fu (LR.map rN) (aZ (LO.map oN) (LI.map iN) (LU.map uN)) yf from by
    rw[Ld,HX.o,List.all_append,Mb.o];simp)
   cases hq:fu (LR.map rN) (aZ (LO.map oN) (LI.map iN) (LU.map uN)) yf
   ·rw[hq]at hc
    have HE:=aa (show FF=false from by
     rw[<-HFF.o,Bool.eq_false_iff];intro hT;rw[Lh]at hT;have:=hT _ (KN HX.o);simp only[]at this;rw[hq]at this;cases this)
    clear hq HXJ;go_wp2_with fail;refine hc.mono ?_;clear hc;rintro e w1 ⟨rfl,hb1⟩;have hbb:Lt w w1:=(hb.alloc hb.size _).trans (hb1.mono (by have:=hb.size;simp;omega));clear hb1;go_wp2_with fail;go_ret;exact⟨am (by rw[HE.o]),hbb⟩
   ·rw[hq]at hc HXJ
    clear hq;go_wp2_with fail;refine hc.mono ?_;clear hc;rintro e w1 ⟨rfl,hb1⟩;have hbb:Lt w w1:=(hb.alloc hb.size _).trans (hb1.mono (by have:=hb.size;simp;omega));clear hb1;go_wp2_with fail;go_roundg (LI.length-(k+1))
    case measure=>omega
    case rel=>exact⟨k+1,by go_num,by omega,KK _,hbb,HXJ.o⟩
  ·go_wp2_with fail
   go_ret;exact⟨am (by
    rw[<-HFF.o];have h1:=Mb.o;rw[KW (by omega)]at h1;exact h1.symm),hb⟩
theorem Gi(w:World)(S:Nat)(vR vO vI vU vN:Value)(LR:List (aj×Value))(LO:List (aH×Value×Value×Value))(LI:List (bC×Value))(LU:List (bB×Value))(names:List Ls)(h:SV w S vR vO vI vU vN LR LO LI LU names)(hsz:∀x∈LU,∀y∈x.1.LB,y.size<=4000):
 Calls prog 60 #[.pointer (some ⟨S,0,none⟩)] w fun e w'=>e=.returned (.bool (LU.all fun x=>fw (aZ (LO.map oN) (LI.map iN) (LU.map uN)) 2 x.1.LB))/\Lt w w':=by
 have H0:=aa h;have HSZ:=aa hsz;have hlu:=h.lu;obtain⟨a,cap,hv⟩:=bc h.u.own;subst hv;have c0:w.cell? ⟨S,3,none⟩=some (.slice a LU.length cap):=ae h.sc 3;generalize hFF:(LU.all fun x=>fw (aZ (LO.map oN) (LI.map iN) (LU.map uN)) 2 x.1.LB)=FF at*;have HFF:=aa hFF;clear h hsz hFF;go_enter func60,ntmps60;go_wp2_with fail;go_loopg [4,10] LU.length (fun m v4 v10 wr=>∃k:Nat,v10=.int .i64 k/\k<=LU.length/\LU.length-k<=m/\Lt w wr/\((LU.take k).all fun x=>fw (aZ (LO.map oN) (LI.map iN) (LU.map uN)) 2 x.1.LB)=true)
 case atStart=>exact⟨0,rfl,KU _,by omega,KL _ _,by simp⟩
 case round=>
  obtain⟨k,rfl,hk,hm,hb,LZ⟩:=hrel;have Mb:=aa LZ;clear LZ;by_cases hlt:k<LU.length
  ·have hx:=KM hlt
   have hsv:=H0.o.below hb;obtain⟨g,LM,hv,hcc⟩:=hsv.u.cell (fun _=>rfl) k _ hx;cases hv;have hok:=hsv.u.ok _ (KN hx);have d0:wr.cell? ⟨g,k*2,none⟩=some (.string LU[k].1.name):=by simpa using hcc 0 _ rfl
   have d1:wr.cell? ⟨g,k*2+1,none⟩=some LU[k].2:=hcc 1 _ rfl;have hsz:=HSZ.o _ (KN hx);have HX:=aa hx;clear hx hcc;generalize LU[k]=y at*;obtain⟨⟨yn,ym⟩,yv⟩:=y;obtain⟨hfl,hyl⟩:=hok;simp only[]at*;obtain⟨aY,cY,rfl⟩:=bc hfl;have hc:=AE (wr.alloc (.cells #[.string yn,.slice aY ym.length cY] 200)) S _ _ _ _ _ LR LO LI LU names _ ym 2 (hsv.below ((KL _ _).alloc (KK _) _)) ((cH.of_own hfl).below ((KL _ _).alloc (KK _) _)) (by omega) hsz;clear hsv hfl;have HXJ:=aa (show((LU.take (k+1)).all fun x=>fw (aZ (LO.map oN) (LI.map iN) (LU.map uN)) 2 x.1.LB)=fw (aZ (LO.map oN) (LI.map iN) (LU.map uN)) 2 ym from by
    rw[Ld,HX.o,List.all_append,Mb.o];simp)
   cases hq:fw (aZ (LO.map oN) (LI.map iN) (LU.map uN)) 2 ym
   ·rw[hq]at hc
    have HE:=aa (show FF=false from by
     rw[<-HFF.o,Bool.eq_false_iff];intro hT;rw[Lh]at hT;have:=hT _ (KN HX.o);simp only[]at this;rw[hq]at this;cases this)
    clear hq HXJ;go_wp2_with fail;refine hc.mono ?_;clear hc;rintro e w1 ⟨rfl,hb1⟩;have hbb:Lt w w1:=(hb.alloc hb.size _).trans (hb1.mono (by have:=hb.size;simp;omega));clear hb1;go_wp2_with fail;go_ret;exact⟨am (by rw[HE.o]),hbb⟩
   ·rw[hq]at hc HXJ
    clear hq;go_wp2_with fail;refine hc.mono ?_;clear hc;rintro e w1 ⟨rfl,hb1⟩;have hbb:Lt w w1:=(hb.alloc hb.size _).trans (hb1.mono (by have:=hb.size;simp;omega));clear hb1;go_wp2_with fail;go_roundg (LU.length-(k+1))
    case measure=>omega
    case rel=>exact⟨k+1,by go_num,by omega,KK _,hbb,HXJ.o⟩
  ·go_wp2_with fail
   go_ret;exact⟨am (by
    rw[<-HFF.o];have h1:=Mb.o;rw[KW (by omega)]at h1;exact h1.symm),hb⟩
def mB(l:List Ls):Bool:=(l.all fun x=>!co x)&&dZ l
theorem SV.shapedN{w:World}{S:Nat}{vR vO vI vU vN:Value}{LR:List (aj×Value)}{LO:List (aH×Value×Value×Value)}{LI:List (bC×Value)}{LU:List (bB×Value)}{names:List Ls}(h:SV w S vR vO vI vU vN LR LO LI LU names):lM rH w vN 1 names:=by
 obtain⟨a,cap,hv⟩:=bc h.n;refine⟨a,cap,hv,?_⟩;rcases h.n.2 with⟨e,e0⟩|⟨g,LM,cur,hv',_⟩
 ·left;exact KZ e0
 ·right
  rw[hv]at hv';cases hv';refine⟨g,rfl,fun j x hx=>⟨?_,fun k h1 h2=>by omega⟩⟩;have hn:=h.n;rw[hv]at hn;have hj:=(KO.1 hx).1;have:=hn.cellAt j (by omega);rw[Nat.mul_one];simpa [bt,hx]using this
theorem GD(w:World)(S:Nat)(vR vO vI vU vN:Value)(LR:List (aj×Value))(LO:List (aH×Value×Value×Value))(LI:List (bC×Value))(LU:List (bB×Value))(names:List Ls)(h:SV w S vR vO vI vU vN LR LO LI LU names)(hsz:∀x∈names,x.size<=4000):
 Calls prog 57 #[.pointer (some ⟨S,0,none⟩)] w fun e w'=>e=.returned (.bool (mB names))/\Lt w w':=by
 have H0:=aa h;have HSZ:=aa hsz;have hln:=h.ln;obtain⟨a,cap,hv⟩:=bc h.n;subst hv;have c0:w.cell? ⟨S,4,none⟩=some (.slice a names.length cap):=ae h.sc 4;have HQ:=aa (show mB names=((names.all fun x=>!co x)&&dZ names)from rfl);generalize mB names=FF at*;clear h hsz;go_enter func57,ntmps57;go_wp2_with fail;go_loopg [4,10] names.length (fun m v4 v10 wr=>∃k:Nat,v10=.int .i64 k/\k<=names.length/\names.length-k<=m/\Lt w wr/\((names.take k).all fun x=>!co x)=true)
 case atStart=>exact⟨0,rfl,KU _,by omega,KL _ _,by simp⟩
 case round=>
  obtain⟨k,rfl,hk,hm,hb,LZ⟩:=hrel;have Mb:=aa LZ;clear LZ;have hsv:=H0.o.below hb;have c0r:wr.cell? ⟨S,4,none⟩=some (.slice a names.length cap):=ae hsv.sc 4;by_cases hlt:k<names.length
  ·have hx:=KM hlt
   obtain⟨a',LM,e1,h3⟩:=hsv.shapedN;cases e1;obtain⟨g,ha,h4⟩:∃g,a=some ⟨g,0,none⟩/\∀(j:Nat) (x:Ls),names[j]?=some x->wr.cell? ⟨g,j*1,none⟩=some (.string x)/\∀k,0<k->k<1->∃u,wr.cell? ⟨g,j*1+k,none⟩=some u/\rH k u:=by
    rcases h3 with e|e
    ·rw[e]at hlt;simp at hlt
    ·exact e
   subst ha;have LQ:=(h4 k _ hx).1;simp only[Nat.mul_one]at LQ;have HX:=aa hx;clear hx h4 h3 hsv;generalize names[k]=y at*;have hs:=xo y;have HXJ:=aa (show((names.take (k+1)).all fun x=>!co x)=!co y from by
    rw[Ld,HX.o,List.all_append,Mb.o];simp)
   cases hq:co y
   ·rw[hq]at hs HXJ
    clear hq;go_wp2_with fail;refine(hs _).mono ?_;rintro e w1 ⟨rfl,hw1⟩;have hw1:=hw1.symm;subst hw1;have hbb:Lt w (wr.alloc (.cells #[.string y] 152)):=hb.alloc hb.size _;go_wp2_with fail;go_roundg (names.length-(k+1))
    case measure=>omega
    case rel=>exact⟨k+1,by go_num,by omega,KK _,hbb,HXJ.o⟩
   ·rw[hq]at hs
    have HE:=aa (show FF=false from by
     rw[HQ.o,Bool.and_eq_false_iff];left;rw[Bool.eq_false_iff];intro hT;rw[Lh]at hT;have:=hT _ (KN HX.o);rw[hq]at this;cases this)
    clear hq HXJ;go_wp2_with fail;refine(hs _).mono ?_;rintro e w1 ⟨rfl,hw1⟩;have hw1:=hw1.symm;subst hw1;go_wp2_with fail;go_ret;exact⟨am (by rw[HE.o]),hb.alloc hb.size _⟩
  ·have hc:=E8 wr _ names hsv.shapedN (by omega) HSZ.o
   have HE:=aa (show FF=dZ names from by
    rw[HQ.o];have h1:=Mb.o;rw[KW (by omega)]at h1;rw[h1];rfl)
   generalize dZ names=GG at*;clear hsv;go_wp2_with fail;refine hc.mono ?_;clear hc;rintro e w1 ⟨rfl,hb1⟩;go_wp2_with fail;go_ret;exact⟨am (by rw[HE.o]),hb.trans (hb1.mono hb.size)⟩
def kC:Ls:=⟨#[81,117,101,114,121]⟩
def kh(l:List aH):Bool:=if ah (l.map aH.name) kC<0 then false else match l[(ah (l.map aH.name) kC).toNat]? with
 |some o=>o.Lw.isNone
 |none=>false
theorem GY(w:World)(S:Nat)(vR vO vI vU vN:Value)(LR:List (aj×Value))(LO:List (aH×Value×Value×Value))(LI:List (bC×Value))(LU:List (bB×Value))(names:List Ls)(h:SV w S vR vO vI vU vN LR LO LI LU names):
 Calls prog 61 #[.pointer (some ⟨S,0,none⟩)] w fun e w'=>e=.returned (.bool (kh (LO.map Prod.fst)))/\Lt w w':=by
 have hc:=wn w S vR vO vI vU vN LR LO LI LU names kC h;have hn:=mJ h.rowObject kC;have hmap:(LO.map Prod.fst).map aH.name=LO.map oN:=by rw[List.map_map];rfl
 have hbd:=l8 (LO.map oN) kC;by_cases hq:ah (LO.map oN) kC<0
 ·rw[hn.1 hq]at hc
  have HE:=aa (show kh (LO.map Prod.fst)=false from by unfold kh;rw[hmap,K9 hq]);generalize kh (LO.map Prod.fst)=FF at*;clear h hn hmap hbd hq;go_enter func61,ntmps61;go_wp2_with fail;refine hc.mono ?_;clear hc;rintro e w1 ⟨rfl,hb1⟩;go_wp2_with fail;go_ret;exact⟨am (by rw[HE.o]),hb1⟩
 ·obtain⟨j,hj⟩:∃j:Nat,ah (LO.map oN) kC=j:=⟨(ah (LO.map oN) kC).toNat,by omega⟩
  have hjl:j<LO.length:=by rw[hj]at hbd;simp at hbd;omega
  have hx:=KM hjl;obtain⟨g,cap,hv,hcc⟩:=h.o.cell (fun _=>rfl) j _ hx;have d3:w.cell? ⟨g,j*4+3,none⟩=some LO[j].2.2.2:=hcc 3 _ rfl;have hok:=h.o.ok _ (KN hx);have hru:=hok.2.2.2.2;have HE:=aa (show kh (LO.map Prod.fst)=LO[j].1.Lw.isNone from by
   unfold kh;rw[hmap,K8 hq,hj];simp only[Lk];rw[La,hx];rfl)
  rw[show bx vO 4 (ah (LO.map oN) kC)=.pointer (some ⟨g,j*4,none⟩)from by unfold bx;rw[K8 hq,hj,hv];simp]at hc;generalize kh (LO.map Prod.fst)=FF at*;clear h hn hmap hbd hq hcc hv hx hok hj;generalize LO[j]=y at*;obtain⟨⟨yn,yf,yi,yr⟩,y1,y2,y3⟩:=y;simp only[]at*;cases yr with
  |none=>
   have e3:y3=.pointer none:=hru;subst e3;clear hru;go_enter func61,ntmps61;go_wp2_with fail;refine hc.mono ?_;clear hc;rintro e w1 ⟨rfl,hb1⟩;have d3':=ao hb1 d3;go_wp2_with fail;go_ret;exact⟨am (by rw[HE.o];rfl),hb1⟩
  |some ls=>
   obtain⟨kk,e3⟩:=dt.ptr (And.left hru);subst e3;clear hru;go_enter func61,ntmps61;go_wp2_with fail;refine hc.mono ?_;clear hc;rintro e w1 ⟨rfl,hb1⟩;have d3':=ao hb1 d3;go_wp2_with fail;go_ret;exact⟨am (by rw[HE.o];rfl),hb1⟩
theorem Ku:∀(t u:dh) (w:World) (B C:Nat) (v v':Value),d9 w B v t->d9 w C v' u->
 Calls prog 176 #[v,v'] w fun e w'=>e=.returned (.bool (ir t u))/\∃m,w'=w.drewN m:=by
 intro t
 induction t with
 |one n s=>
  intro u w B C v v' ht hu;obtain⟨k,rfl,_,hb⟩:=ht;have c0:w.cell? ⟨k,0,none⟩=some (.string n):=ae hb 0;have c1:w.cell? ⟨k,1,none⟩=some (.int .i64 0):=ae hb 1;have c3:w.cell? ⟨k,3,none⟩=some (.bool s):=ae hb 3;clear hb;cases u with
  |one m r=>
   obtain⟨k',rfl,_,hb'⟩:=hu;have d0:w.cell? ⟨k',0,none⟩=some (.string m):=ae hb' 0;have d1:w.cell? ⟨k',1,none⟩=some (.int .i64 0):=ae hb' 1;have d3:w.cell? ⟨k',3,none⟩=some (.bool r):=ae hb' 3;clear hb';have HQ:=aa (show ir (.one n s) (.one m r)=((s==r)&&(n.toList==m.toList))from by rw[ir,bY]);generalize ir (.one n s) (.one m r)=FF at*;cases s<;>cases r;all_goals(
    go_enter func176,ntmps176;go_wp2_with fail;go_quiet (fail);go_wp2_with fail;try(go_quiet (fail);go_wp2_with fail)
    go_ret;exact⟨am (by rw[HQ.o];simp),by first|exact⟨_,World.drewN_drewN _ _ _⟩|exact⟨_,rfl⟩⟩)
  |list b r=>
   obtain⟨k',u1,rfl,_,hb',_⟩:=hu;have d1:w.cell? ⟨k',1,none⟩=some (.int .i64 1):=ae hb' 1;have d3:w.cell? ⟨k',3,none⟩=some (.bool r):=ae hb' 3;clear hb';rw[show ir (.one n s) (.list b r)=false from rfl];go_enter func176,ntmps176;go_wp2_with fail;go_quiet (fail);go_wp2_with fail;go_ret;exact⟨rfl,_,rfl⟩
 |list a s ih=>
  intro u w B C v v' ht hu;obtain⟨k,ua,rfl,_,hb,hta⟩:=ht;obtain⟨ka,rfl⟩:=hta.ptr;have c1:w.cell? ⟨k,1,none⟩=some (.int .i64 1):=ae hb 1;have c2:w.cell? ⟨k,2,none⟩=some (.pointer (some ⟨ka,0,none⟩)):=ae hb 2;have c3:w.cell? ⟨k,3,none⟩=some (.bool s):=ae hb 3;clear hb;cases u with
  |one m r=>
   obtain⟨k',rfl,_,hb'⟩:=hu;have d1:w.cell? ⟨k',1,none⟩=some (.int .i64 0):=ae hb' 1;have d3:w.cell? ⟨k',3,none⟩=some (.bool r):=ae hb' 3;clear hb';rw[show ir (.list a s) (.one m r)=false from rfl];go_enter func176,ntmps176;go_wp2_with fail;go_quiet (fail);go_wp2_with fail;go_ret;exact⟨rfl,_,rfl⟩
  |list b r=>
   obtain⟨k',ub,rfl,_,hb',htb⟩:=hu;obtain⟨kb,rfl⟩:=htb.ptr;have d1:w.cell? ⟨k',1,none⟩=some (.int .i64 1):=ae hb' 1;have d2:w.cell? ⟨k',2,none⟩=some (.pointer (some ⟨kb,0,none⟩)):=ae hb' 2;have d3:w.cell? ⟨k',3,none⟩=some (.bool r):=ae hb' 3;clear hb';have HC:=aa (fun(n m:Nat)=>ih b ((w.drewN n).drewN m) B C _ _ (hta.stays (au.of_below (below_drewN (below_drewN (KL _ _) n) m))) (htb.stays (au.of_below (below_drewN (below_drewN (KL _ _) n) m))));have HQ:=aa (show ir (.list a s) (.list b r)=((s==r)&&ir a b)from rfl);generalize ir (.list a s) (.list b r)=FF at*;generalize ir a b=GG at*;clear ih hta htb;cases s<;>cases r
   ·go_enter func176,ntmps176
    go_wp2_with fail;go_quiet (fail);go_wp2_with fail;have c2q:=ao (below_drewN (KL _ _) nq) c2;have d2q:=ao (below_drewN (KL _ _) nq) d2;have HCq:=aa (fun m=>HC.o nq m);have HWQ:=aa (show∀m,∃m',(w.drewN nq).drewN m=w.drewN m' from fun m=>⟨_,World.drewN_drewN _ _ _⟩);clear HC;generalize w.drewN nq=W0 at*;go_quiet (first|(go_at_call 176;refine Calls.quiet_of (HCq.o _)));go_wp2_with fail;go_ret;exact⟨am (by rw[HQ.o];simp),HWQ.o _⟩
   ·go_enter func176,ntmps176
    go_wp2_with fail;go_quiet (fail);go_wp2_with fail;go_ret;exact⟨am (by rw[HQ.o];simp),_,rfl⟩
   ·go_enter func176,ntmps176
    go_wp2_with fail;go_quiet (fail);go_wp2_with fail;go_ret;exact⟨am (by rw[HQ.o];simp),_,rfl⟩
   ·go_enter func176,ntmps176
    go_wp2_with fail;go_quiet (fail);go_wp2_with fail;have c2q:=ao (below_drewN (KL _ _) nq) c2;have d2q:=ao (below_drewN (KL _ _) nq) d2;have HCq:=aa (fun m=>HC.o nq m);have HWQ:=aa (show∀m,∃m',(w.drewN nq).drewN m=w.drewN m' from fun m=>⟨_,World.drewN_drewN _ _ _⟩);clear HC;generalize w.drewN nq=W0 at*;go_quiet (first|(go_at_call 176;refine Calls.quiet_of (HCq.o _)));go_wp2_with fail;go_ret;exact⟨am (by rw[HQ.o];simp),HWQ.o _⟩
def oK(f g:ax):Bool:=(f.name.toList==g.name.toList)&&((f.LG.toList==g.LG.toList)&&((f.LH.toList==g.LH.toList)&&((f.arg.toList==g.arg.toList)&&((f.scalar.toList==g.scalar.toList)&&ir f.ty g.ty))))
theorem JH(w:World)(g o g' o' B C:Nat)(f f':ax)(u u':Value)(hf:fc w g o f u)(hf':fc w g' o' f' u')(ht:d9 w B u f.ty)(ht':d9 w C u' f'.ty):
 Calls prog 141 #[.pointer (some ⟨g,o,none⟩),.pointer (some ⟨g',o',none⟩)] w fun e w'=>e=.returned (.bool (oK f f'))/\Lt w w':=by
 obtain⟨c0,c1,c2,c3,c4,c5⟩:=hf;obtain⟨d0,d1,d2,d3,d4,d5⟩:=hf';have HC:=aa (fun(n:Nat)=>Ku f.ty f'.ty (w.drewN n) B C u u' (ht.stays (au.of_below (below_drewN (KL _ _) n))) (ht'.stays (au.of_below (below_drewN (KL _ _) n))));obtain⟨ku,rfl⟩:=ht.ptr;obtain⟨ku',rfl⟩:=ht'.ptr;have HQ:=aa (show oK f f'=((f.name.toList==f'.name.toList)&&((f.LG.toList==f'.LG.toList)&&((f.LH.toList==f'.LH.toList)&&((f.arg.toList==f'.arg.toList)&&((f.scalar.toList==f'.scalar.toList)&&ir f.ty f'.ty)))))from rfl);generalize oK f f'=FF at*;clear ht ht';obtain⟨fn,fa,fh,fx,fs,ft⟩:=f;obtain⟨gn,ga,gh,gx,gs,gt⟩:=f';simp only[]at*;generalize ir ft gt=GG at*;cases t1:(fn.toList==gn.toList)
 ·rw[t1]at HQ
  go_enter func141,ntmps141;go_wp2_with fail;go_quiet (fail);go_wp2_with fail;go_ret;exact⟨am (by rw[HQ.o];rfl),below_drewN (KL _ _) _⟩
 ·skip
  cases t2:(fa.toList==ga.toList)
  ·rw[t1,t2]at HQ
   go_enter func141,ntmps141;go_wp2_with fail;go_quiet (fail);go_wp2_with fail;go_ret;exact⟨am (by rw[HQ.o];rfl),below_drewN (KL _ _) _⟩
  ·skip
   cases t3:(fh.toList==gh.toList)
   ·rw[t1,t2,t3]at HQ
    go_enter func141,ntmps141;go_wp2_with fail;go_quiet (fail);go_wp2_with fail;go_ret;exact⟨am (by rw[HQ.o];rfl),below_drewN (KL _ _) _⟩
   ·skip
    cases t4:(fx.toList==gx.toList)
    ·rw[t1,t2,t3,t4]at HQ
     go_enter func141,ntmps141;go_wp2_with fail;go_quiet (fail);go_wp2_with fail;go_ret;exact⟨am (by rw[HQ.o];rfl),below_drewN (KL _ _) _⟩
    ·skip
     cases t5:(fs.toList==gs.toList)
     ·rw[t1,t2,t3,t4,t5]at HQ
      go_enter func141,ntmps141;go_wp2_with fail;go_quiet (fail);go_wp2_with fail;go_ret;exact⟨am (by rw[HQ.o];rfl),below_drewN (KL _ _) _⟩
     ·skip
      rw[t1,t2,t3,t4,t5]at HQ;go_enter func141,ntmps141;go_wp2_with fail;go_quiet (first|(go_at_call 176;refine Calls.quiet_of (HC.o _)));go_wp2_with fail;go_ret;exact⟨am (by rw[HQ.o];simp),below_drewN (KL _ _) _⟩
def lA(ifs:List bC)(n:Ls):List ax:=match ifs[(ah (ifs.map bC.name) n).toNat]? with
 |some i=>i.fields
 |none=>[]
def gd(l:List ax)(f:ax):Bool:=if ah (l.map ax.name) f.name<0 then false else match l[(ah (l.map ax.name) f.name).toNat]? with
 |some g=>oK f g
 |none=>false
def m9(kind:Ls->Nat)(ifs:List bC)(LE:List Ls)(l:List ax):Bool:=fw kind 3 LE&&LE.all fun n=>(lA ifs n).all (gd l)
theorem EK{Lx ifs uns:List Ls}{x:Ls}(h:aZ Lx ifs uns x=3):¬ah ifs x<0:=by
 unfold aZ at h;split at h
 ·cases h
 ·split at h
  ·cases h
  ·split at h
   ·rename_i hh;unfold has at hh;simpa using hh
   ·split at h<;>cases h
theorem Dq(w:World)(B:Nat)(vF:Value)(L:List (ax×Value))(l:List ax)(hL:L.map Prod.fst=l)(Ma:dk w B 180 6 vF rJ (tb B) L)(f:ax):
 (bx vF 6 (ah (l.map ax.name) f.name)=.pointer none/\gd l f=false)\/∃g o gf u,bx vF 6 (ah (l.map ax.name) f.name)=.pointer (some ⟨g,o,none⟩)/\fc w g o gf u/\d9 w B u gf.ty/\gd l f=oK f gf:=by
 have hrd:fJ w vF 6 (l.map ax.name):=by rw[<-pQ L l hL];exact Ma.rowed fN (fun _=>rfl) (fun _=>rfl)
 have Me:L.length=l.length:=by rw[<-hL];simp
 by_cases hq:ah (l.map ax.name) f.name<0
 ·left;exact⟨(mJ hrd f.name).1 hq,by unfold gd;rw[K9 hq]⟩
 ·right
  have hbd:=l8 (l.map ax.name) f.name;obtain⟨j,hj⟩:∃j:Nat,ah (l.map ax.name) f.name=j:=⟨(ah (l.map ax.name) f.name).toNat,by omega⟩;have hjl:j<L.length:=by rw[hj]at hbd;simp at hbd;omega
  have hx:=KM hjl;obtain⟨g,cap,hv,hfa,hta⟩:=Ma.fldAt j _ hx;have hlj:l[j]?=some L[j].1:=by rw[<-hL,La,hx];rfl
  refine⟨g,j*6,L[j].1,L[j].2,?_,hfa,hta,?_⟩
  ·unfold bx;rw[K8 hq,hj,hv];simp
  ·unfold gd;rw[K8 hq,hj];simp only[Lk];rw[hlj]
theorem I3(w:World)(S:Nat)(vR vO vI vU vN:Value)(LR:List (aj×Value))(LO:List (aH×Value×Value×Value))(LI:List (bC×Value))(LU:List (bB×Value))(names:List Ls)(gO oO:Nat)(vF vA:Value)(l:List ax)(LE:List Ls)(h:SV w S vR vO vI vU vN LR LO LI LU names)(hcF:w.cell? ⟨gO,oO+1,none⟩=some vF)(hcA:w.cell? ⟨gO,oO+2,none⟩=some vA)(hF:iv w S vF l)(hA:w.ownsRow S 9 1 vA LE.length (bt LE))(hl:l.length<=802)(hil:LE.length<=803)(hsz:∀x∈LE,x.size<=4000):
 Calls prog 102 #[.pointer (some ⟨S,0,none⟩),.pointer (some ⟨gO,oO,none⟩)] w fun e w'=>e=.returned (.bool (m9 (aZ (LO.map oN) (LI.map iN) (LU.map uN)) (LI.map Prod.fst) LE l))/\Lt w w':=by
 have H0:=aa h;obtain⟨L,hL,Ma⟩:=hF.row;have HL:=aa hL;have No:=aa Ma;have HSTR:=aa (cH.of_own hA);have hk:=AE w S vR vO vI vU vN LR LO LI LU names vA LE 3 h (cH.of_own hA) (by omega) hsz;obtain⟨aA,cA,rfl⟩:=bc hA;have HQ:=aa (show m9 (aZ (LO.map oN) (LI.map iN) (LU.map uN)) (LI.map Prod.fst) LE l=(fw (aZ (LO.map oN) (LI.map iN) (LU.map uN)) 3 LE&&LE.all fun n=>(lA (LI.map Prod.fst) n).all (gd l))from rfl);generalize m9 (aZ (LO.map oN) (LI.map iN) (LU.map uN)) (LI.map Prod.fst) LE l=FF at*;have HK3:=aa (show fw (aZ (LO.map oN) (LI.map iN) (LU.map uN)) 3 LE=true->∀x∈LE,(aZ (LO.map oN) (LI.map iN) (LU.map uN)) x=3 from fun hT x hx=>by
  unfold fw at hT;rw[Li,Lh]at hT;simpa using hT.2 x hx)
 have HCF:=aa hcF;have HCA:=aa hcA;clear h hF hA hsz Ma hL;cases hq:fw (aZ (LO.map oN) (LI.map iN) (LU.map uN)) 3 LE
 ·rw[hq]at hk HQ
  clear HK3 hq;go_enter func102,ntmps102;go_wp2_with fail;refine hk.mono ?_;clear hk;rintro e w1 ⟨rfl,hb1⟩;go_wp2_with fail;go_ret;exact⟨am (by rw[HQ.o];rfl),hb1⟩
 ·rw[hq]at hk HQ
  have HK3':=aa (HK3.o hq);clear HK3 hq;go_enter func102,ntmps102;go_wp2_with fail;refine hk.mono ?_;clear hk;rintro e w1 ⟨rfl,hb1⟩;have hcA1:=ao hb1 HCA.o;go_wp2_with fail;go_loopg [6,8,9,22,32,33,34] LE.length (fun m v6 v8 v9 v22 v32 v33 v34 wr=>∃k:Nat,v22=.int .i64 k/\k<=LE.length/\LE.length-k<=m/\Lt w wr/\((LE.take k).all fun n=>(lA (LI.map Prod.fst) n).all (gd l))=true)
  case atStart=>exact⟨0,rfl,KU _,by omega,hb1,by simp⟩
  case round=>
   clear hb1 hcA1;obtain⟨wo,rfl⟩:∃wo:World,wo=wr:=⟨_,rfl⟩;obtain⟨k,rfl,hk,hm,hb,LZ⟩:=hrel;have Mb:=aa LZ;clear LZ;by_cases hlt:k<LE.length
   ·have hx:=KM hlt
    obtain⟨a',LM,e1,_,h3⟩:=HSTR.o.below hb;cases e1;obtain⟨g,off,ha,h4⟩:∃g off,aA=some ⟨g,off,none⟩/\∀(j:Nat) (x:Ls),LE[j]?=some x->wo.cell? ⟨g,off+j,none⟩=some (.string x):=by
     rcases h3 with e|e
     ·rw[e]at hlt;simp at hlt
     ·exact e
    subst ha;have LQ:=h4 k _ hx;have hk3:=HK3'.o _ (KN hx);have HX:=aa hx;clear hx h4 h3;generalize LE[k]=y at*;have hsv:=H0.o.below hb;have hif:=xM wo S vR vO vI vU vN LR LO LI LU names y hsv;have hni:=EK hk3;have hbd:=l8 (LI.map iN) y;obtain⟨j,hj⟩:∃j:Nat,ah (LI.map iN) y=j:=⟨(ah (LI.map iN) y).toNat,by omega⟩;have hjl:j<LI.length:=by rw[hj]at hbd;simp at hbd;omega
    have hxi:=KM hjl;obtain⟨gi,capi,hvi,hcc⟩:=hsv.i.cell (fun _=>rfl) j _ hxi;have hoki:=hsv.i.ok _ (KN hxi);rw[show bx vI 2 (ah (LI.map iN) y)=.pointer (some ⟨gi,j*2,none⟩)from by unfold bx;rw[K8 hni,hj,hvi];simp]at hif;have di1:wo.cell? ⟨gi,j*2+1,none⟩=some LI[j].2:=hcc 1 _ rfl;have HFI:=aa (show lA (LI.map Prod.fst) y=LI[j].1.fields from by
     unfold lA;rw[show(LI.map Prod.fst).map bC.name=LI.map iN from by rw[List.map_map];rfl,hj];simp only[Lk];rw[La,hxi];rfl)
    clear hcc hxi hni hk3 hj hbd;generalize LI[j]=z at*;obtain⟨⟨zn,zf⟩,zv⟩:=z;obtain⟨hzF,hzl⟩:=hoki;simp only[]at*;obtain⟨Lz,hLz,hrz⟩:=hzF.row;have hlz:Lz.length=zf.length:=by rw[<-hLz];simp
    obtain⟨az,cz,rfl⟩:=bc hrz.own;have HLZ:=aa hLz;have HRZ:=aa hrz;have HXJ:=aa (show((LE.take (k+1)).all fun n=>(lA (LI.map Prod.fst) n).all (gd l))=zf.all (gd l)from by
     rw[Ld,HX.o,List.all_append,Mb.o];simp[HFI.o])
    clear hzF hLz hrz hsv;go_wp2_with fail;refine hif.mono ?_;clear hif;rintro e w2 ⟨rfl,hb2⟩;have di2:=ao hb2 di1;have Nu:Lt w w2:=hb.trans (hb2.mono hb.size);go_wp2_with fail;go_loopg [8,9,34] Lz.length (fun m v8 v9 v34 wr=>∃i:Nat,v34=.int .i64 i/\i<=Lz.length/\Lz.length-i<=m/\Lt wo wr/\((Lz.take i).all fun x=>gd l x.1)=true)
    case atStart=>exact⟨0,rfl,KU _,by omega,hb2,by simp⟩
    case round=>
     obtain⟨i,rfl,hi,hmi,hbi,MY⟩:=hrel;have M0:=aa MY;clear MY;have hbw2:Lt w wr:=hb.trans (hbi.mono hb.size);clear hb2 Nu di1 di2;by_cases hlti:i<Lz.length
     ·have hxz:=KM hlti
      obtain⟨gz,capz,hvz,hfz,htz⟩:=HRZ.o.fldAt i _ hxz;cases hvz;have hfz2:=hfz.below hbi;have htz2:=htz.stays (au.of_below hbi);have HXZ:=aa hxz;clear hxz hfz htz;generalize Lz[i]=q at*;obtain⟨⟨qn,qa,qh,qx,qs,qt⟩,qu⟩:=q;simp only[]at*;obtain⟨kq,rfl⟩:=htz2.ptr;obtain⟨e0,e1,e2,e3,e4,e5⟩:=hfz2;simp only[]at*;have hFf:fc (wr.alloc (.cells #[.string qn,.string qa,.string qh,.string qx,.string qs,.pointer (some ⟨kq,0,none⟩)] 180)) wr.heap.size 0 ⟨qn,qa,qh,qx,qs,qt⟩ (.pointer (some ⟨kq,0,none⟩)):=⟨by simp,by simp,by simp,by simp,by simp,by simp⟩;have hTf:=htz2.stays (au.alloc (.cells #[.string qn,.string qa,.string qh,.string qx,.string qs,.pointer (some ⟨kq,0,none⟩)] 180));have hbf:Lt w (wr.alloc (.cells #[.string qn,.string qa,.string qh,.string qx,.string qs,.pointer (some ⟨kq,0,none⟩)] 180)):=hbw2.alloc hbw2.size _;have hbrf:Lt wo (wr.alloc (.cells #[.string qn,.string qa,.string qh,.string qx,.string qs,.pointer (some ⟨kq,0,none⟩)] 180)):=hbi.alloc hbi.size _;have hrd:fJ w vF 6 (l.map ax.name):=by rw[<-pQ L l HL.o];exact No.o.rowed fN (fun _=>rfl) (fun _=>rfl)
      have HC1:=aa (show∀W,Below (wr.alloc (.cells #[.string qn,.string qa,.string qh,.string qx,.string qs,.pointer (some ⟨kq,0,none⟩)] 180)).heap.size (wr.alloc (.cells #[.string qn,.string qa,.string qh,.string qx,.string qs,.pointer (some ⟨kq,0,none⟩)] 180)) W->Calls prog 140 #[.pointer (some ⟨gO,oO,none⟩),.string qn] W fun e w'=>e=.returned (bx vF 6 (ah (l.map ax.name) qn))/\Below (wr.alloc (.cells #[.string qn,.string qa,.string qh,.string qx,.string qs,.pointer (some ⟨kq,0,none⟩)] 180)).heap.size (wr.alloc (.cells #[.string qn,.string qa,.string qh,.string qx,.string qs,.pointer (some ⟨kq,0,none⟩)] 180)) w' from fun W hW=>
       (wW W gO oO vF qn (l.map ax.name) (ao (hbf.trans (hW.mono hbf.size)) HCF.o) (hrd.below (hbf.trans (hW.mono hbf.size))) (by simp;omega)).mono (fun e w' ⟨a1,a2⟩=>⟨a1,hW.trans (a2.mono hW.size)⟩))
      have hspec:=Dq w S vF L l HL.o No.o ⟨qn,qa,qh,qx,qs,qt⟩;simp only[]at hspec;have HXI:=aa (show((Lz.take (i+1)).all fun x=>gd l x.1)=gd l ⟨qn,qa,qh,qx,qs,qt⟩from by
       rw[Ld,HXZ.o,List.all_append,M0.o];simp)
      have Md:=aa (show gd l ⟨qn,qa,qh,qx,qs,qt⟩=false->FF=false from fun hF=>by
       rw[HQ.o,Bool.true_and,Bool.eq_false_iff];intro hT;rw[Lh]at hT;have h1:=hT y (KN HX.o);rw[HFI.o,Lh]at h1;have h2:=h1 ⟨qn,qa,qh,qx,qs,qt⟩ (by rw[<-HLZ.o];exact List.mem_map_of_mem (KN HXZ.o));rw[hF]at h2;cases h2)
      have HBF:=aa hbf;have HBRF:=aa hbrf;have HFf:=aa hFf;have HTf:=aa hTf;clear hbf hbrf hFf hTf hrd htz2;rcases hspec with⟨hp,hs⟩|⟨gg,og,gf,gu,hp,hgf,hgt,hs⟩
      ·rw[hp]at HC1
       have HE:=aa (Md.o hs);clear hp hs Md HXI;go_wp2_with fail;go_region_with (go_at_call 140;refine(HC1.o _ ?_).mono ?_;(first|exact(KL _ _).drew|exact KL _ _);rintro e w3 ⟨rfl,hb3⟩);all_goals(
        go_wp2_with fail;go_ret;exact⟨am (by rw[HE.o]),HBF.o.trans (hb3.mono HBF.o.size)⟩)
      ·rw[hp]at HC1
       have HC2:=aa (show∀W,Below (wr.alloc (.cells #[.string qn,.string qa,.string qh,.string qx,.string qs,.pointer (some ⟨kq,0,none⟩)] 180)).heap.size (wr.alloc (.cells #[.string qn,.string qa,.string qh,.string qx,.string qs,.pointer (some ⟨kq,0,none⟩)] 180)) W->Calls prog 141 #[.pointer (some ⟨wr.heap.size,0,none⟩),.pointer (some ⟨gg,og,none⟩)] W fun e w'=>e=.returned (.bool (gd l ⟨qn,qa,qh,qx,qs,qt⟩))/\Below (wr.alloc (.cells #[.string qn,.string qa,.string qh,.string qx,.string qs,.pointer (some ⟨kq,0,none⟩)] 180)).heap.size (wr.alloc (.cells #[.string qn,.string qa,.string qh,.string qx,.string qs,.pointer (some ⟨kq,0,none⟩)] 180)) w' from fun W hW=>by
        rw[hs];exact(JH W wr.heap.size 0 gg og S S ⟨qn,qa,qh,qx,qs,qt⟩ gf _ gu (HFf.o.below hW) (hgf.below (HBF.o.trans (hW.mono HBF.o.size))) (HTf.o.stays (au.of_below hW)) (hgt.stays (au.of_below (HBF.o.trans (hW.mono HBF.o.size))))).mono (fun e w' ⟨a1,a2⟩=>⟨a1,hW.trans (a2.mono hW.size)⟩))
       clear hp hs hgf hgt;cases hsa:gd l ⟨qn,qa,qh,qx,qs,qt⟩
       ·rw[hsa]at HC2
        have HE:=aa (Md.o hsa);clear hsa Md HXI;go_wp2_with fail;go_region_with (go_at_call 140;refine(HC1.o _ ?_).mono ?_;(first|exact(KL _ _).drew|exact KL _ _);rintro e w3 ⟨rfl,hb3⟩);all_goals(
         go_wp2_with fail;refine(HC2.o w3 hb3).mono ?_;rintro e w4 ⟨rfl,hb4⟩;go_wp2_with fail;go_ret;exact⟨am (by rw[HE.o]),HBF.o.trans (hb4.mono HBF.o.size)⟩)
       ·rw[hsa]at HC2 HXI
        clear hsa Md;go_wp2_with fail;go_region_with (go_at_call 140;refine(HC1.o _ ?_).mono ?_;(first|exact(KL _ _).drew|exact KL _ _);rintro e w3 ⟨rfl,hb3⟩);all_goals(
         go_wp2_with fail;refine(HC2.o w3 hb3).mono ?_;rintro e w4 ⟨rfl,hb4⟩;have hbn:=HBRF.o.trans (hb4.mono HBRF.o.size);clear hb3 hb4;go_wp2_with fail;go_roundg (Lz.length-(i+1))
         case measure=>omega
         case rel=>exact⟨i+1,by go_num,by omega,KK _,hbn,HXI.o⟩)
     ·have HXE:=aa (show((LE.take (k+1)).all fun n=>(lA (LI.map Prod.fst) n).all (gd l))=true from by
       rw[HXJ.o,<-HLZ.o,List.all_map];have h1:=M0.o;rw[KW (by omega)]at h1;exact h1)
      go_wp2_with fail;go_roundg (LE.length-(k+1))
      case measure=>omega
      case rel=>exact⟨k+1,by go_num,by omega,KK _,hbw2,HXE.o⟩
   ·go_wp2_with fail
    go_ret;exact⟨am (by
     rw[HQ.o];have h1:=Mb.o;rw[KW (by omega)]at h1;rw[h1];rfl),hb⟩
def pL(Lu:List Ls)(l:List ax):Option (List cw)->Bool
 |none=>true
 |some ls=>ls.all (hZ Lu l)
def jb(Lu:List Ls)(kind:Ls->Nat)(ifs:List bC)(o:aH):Bool:=fu Lu kind o.fields&&(m9 kind ifs o.LE o.fields&&pL Lu o.fields o.Lw)
theorem Ke(w:World)(S:Nat)(vR vO vI vU vN:Value)(LR:List (aj×Value))(LO:List (aH×Value×Value×Value))(LI:List (bC×Value))(LU:List (bB×Value))(names:List Ls)(h:SV w S vR vO vI vU vN LR LO LI LU names)(hsz:∀x∈LO,(∀f∈x.1.fields,f.name.size<=4000)/\∀y∈x.1.LE,y.size<=4000):
 Calls prog 58 #[.pointer (some ⟨S,0,none⟩)] w fun e w'=>e=.returned (.bool (LO.all fun x=>jb (LR.map rN) (aZ (LO.map oN) (LI.map iN) (LU.map uN)) (LI.map Prod.fst) x.1))/\Lt w w':=by
 have H0:=aa h;have HSZ:=aa hsz;have hlo:=h.lo;obtain⟨a,cap,hv⟩:=bc h.o.own;subst hv;have c0:w.cell? ⟨S,1,none⟩=some (.slice a LO.length cap):=ae h.sc 1;generalize hFF:(LO.all fun x=>jb (LR.map rN) (aZ (LO.map oN) (LI.map iN) (LU.map uN)) (LI.map Prod.fst) x.1)=FF at*;have HFF:=aa hFF;clear h hsz hFF;go_enter func58,ntmps58;go_wp2_with fail;go_loopg [3,4,10] LO.length (fun m v3 v4 v10 wr=>∃k:Nat,v10=.int .i64 k/\k<=LO.length/\LO.length-k<=m/\Lt w wr/\((LO.take k).all fun x=>jb (LR.map rN) (aZ (LO.map oN) (LI.map iN) (LU.map uN)) (LI.map Prod.fst) x.1)=true)
 case atStart=>exact⟨0,rfl,KU _,by omega,KL _ _,by simp⟩
 case round=>
  obtain⟨k,rfl,hk,hm,hb,LZ⟩:=hrel;have Mb:=aa LZ;clear LZ;by_cases hlt:k<LO.length
  ·have hx:=KM hlt
   have hsv:=H0.o.below hb;have cS:wr.cell? ⟨S,1,none⟩=some (.slice a LO.length cap):=ae hsv.sc 1;obtain⟨g,LM,hv,hcc⟩:=hsv.o.cell (fun _=>rfl) k _ hx;cases hv;have hok:=hsv.o.ok _ (KN hx);have c1:wr.cell? ⟨g,k*4+1,none⟩=some LO[k].2.1:=hcc 1 _ rfl;have c2:wr.cell? ⟨g,k*4+2,none⟩=some LO[k].2.2.1:=hcc 2 _ rfl;have c3:wr.cell? ⟨g,k*4+3,none⟩=some LO[k].2.2.2:=hcc 3 _ rfl;have hsz:=HSZ.o _ (KN hx);have HX:=aa hx;clear hx hcc;generalize LO[k]=y at*;obtain⟨⟨yn,yf,yi,yr⟩,y1,y2,y3⟩:=y;obtain⟨hfl,hfn,hil,hin,hru⟩:=hok;simp only[]at*;have HXJ:=aa (show((LO.take (k+1)).all fun x=>jb (LR.map rN) (aZ (LO.map oN) (LI.map iN) (LU.map uN)) (LI.map Prod.fst) x.1)=(fu (LR.map rN) (aZ (LO.map oN) (LI.map iN) (LU.map uN)) yf&&(m9 (aZ (LO.map oN) (LI.map iN) (LU.map uN)) (LI.map Prod.fst) yi yf&&pL (LR.map rN) yf yr))from by
    rw[Ld,HX.o,List.all_append,Mb.o];simp[jb])
   have Md:=aa (show(fu (LR.map rN) (aZ (LO.map oN) (LI.map iN) (LU.map uN)) yf&&(m9 (aZ (LO.map oN) (LI.map iN) (LU.map uN)) (LI.map Prod.fst) yi yf&&pL (LR.map rN) yf yr))=false->FF=false from fun hF=>by
    rw[<-HFF.o,Bool.eq_false_iff];intro hT;rw[Lh]at hT;have:=hT _ (KN HX.o);simp only[jb]at this;rw[hF]at this;cases this)
   have h1:=C1 wr S _ _ _ _ _ LR LO LI LU names y1 S yf hsv hfl (by omega) hsz.1;have H2:=aa (fun w' (hb':Lt wr w')=>I3 w' S _ _ _ _ _ LR LO LI LU names g (k*4) y1 y2 yf yi (hsv.below hb') (ao hb' c1) (ao hb' c2) (hfl.stays (au.of_below hb') (au.of_below hb')) (bZ hil hb') hfn hin hsz.2);obtain⟨aF,cF,rfl⟩:=hfl.slice;generalize fu (LR.map rN) (aZ (LO.map oN) (LI.map iN) (LU.map uN)) yf=q1 at*;generalize m9 (aZ (LO.map oN) (LI.map iN) (LU.map uN)) (LI.map Prod.fst) yi yf=q2 at*;cases q1
   ·have HE:=aa (Md.o rfl)
    clear Md HXJ hsv hfl hil hru H2;go_wp2_with fail;refine h1.mono ?_;clear h1;rintro e w1 ⟨rfl,hb1⟩;have hb01:=hb.trans (hb1.mono hb.size);go_wp2_with fail;go_ret;exact⟨am (by rw[HE.o]),hb01⟩
   ·cases q2
    ·have HE:=aa (Md.o rfl)
     clear Md HXJ hsv hfl hil hru;go_wp2_with fail;refine h1.mono ?_;clear h1;rintro e w1 ⟨rfl,hb1⟩;have hb01:=hb.trans (hb1.mono hb.size);have r3:=ao hb1 c3;go_wp2_with fail;refine(H2.o w1 hb1).mono ?_;rintro e w2 ⟨rfl,hb2⟩;have Mm:=hb1.trans (hb2.mono hb1.size);have Nu:=hb.trans (Mm.mono hb.size);have r3':=ao Mm c3;go_wp2_with fail;go_ret;exact⟨am (by rw[HE.o]),Nu⟩
    ·cases yr with
     |none=>
      have e3:y3=.pointer none:=hru;subst e3;have HXJ2:=aa (HXJ.o.trans (by rfl:_=true));clear Md HXJ hsv hfl hil hru;have HXJ:=HXJ2;clear HXJ2;go_wp2_with fail;refine h1.mono ?_;clear h1;rintro e w1 ⟨rfl,hb1⟩;have hb01:=hb.trans (hb1.mono hb.size);have r3:=ao hb1 c3;go_wp2_with fail;refine(H2.o w1 hb1).mono ?_;rintro e w2 ⟨rfl,hb2⟩;have Mm:=hb1.trans (hb2.mono hb1.size);have Nu:=hb.trans (Mm.mono hb.size);have r3':=ao Mm c3;go_wp2_with fail;go_roundg (LO.length-(k+1))
      case measure=>omega
      case rel=>exact⟨k+1,by go_num,by omega,KK _,Nu,HXJ.o⟩
     |some ls=>
      have hru':oH wr (fun k=>S<=k) y3 ls:=by rw[<-And.right hru];exact dt.leaves (And.left hru)
      obtain⟨kr,e3⟩:=dt.ptr (And.left hru);subst e3;have H3:=aa (fun W (hW:Lt wr W)=>J1 wr S _ _ _ _ _ LR LO LI LU names g (k*4) S _ yf (fun k=>S<=k) hsv c1 hfl (by omega) _ ls hru' W hW);have HXJ2:=aa (HXJ.o.trans (by simp[pL]:_=ls.all (hZ (LR.map rN) yf)));have HF2:=aa (show ls.all (hZ (LR.map rN) yf)=false->FF=false from fun hF=>Md.o (by simp only[pL,hF];rfl));clear Md HXJ hsv hfl hil hru hru';generalize ls.all (hZ (LR.map rN) yf)=q3 at*;have HXJ:=HXJ2;clear HXJ2;cases q3
      ·have HE:=aa (HF2.o rfl)
       clear HF2 HXJ;go_wp2_with fail;refine h1.mono ?_;clear h1;rintro e w1 ⟨rfl,hb1⟩;have hb01:=hb.trans (hb1.mono hb.size);have r3:=ao hb1 c3;go_wp2_with fail;refine(H2.o w1 hb1).mono ?_;rintro e w2 ⟨rfl,hb2⟩;have Mm:=hb1.trans (hb2.mono hb1.size);have Nu:=hb.trans (Mm.mono hb.size);have r3':=ao Mm c3;go_wp2_with fail;refine(H3.o w2 Mm).mono ?_;rintro e w3 ⟨rfl,hb3⟩;have hb03:=Nu.trans (hb3.mono Nu.size);go_wp2_with fail;go_ret;exact⟨am (by rw[HE.o]),hb03⟩
      ·clear HF2
       go_wp2_with fail;refine h1.mono ?_;clear h1;rintro e w1 ⟨rfl,hb1⟩;have hb01:=hb.trans (hb1.mono hb.size);have r3:=ao hb1 c3;go_wp2_with fail;refine(H2.o w1 hb1).mono ?_;rintro e w2 ⟨rfl,hb2⟩;have Mm:=hb1.trans (hb2.mono hb1.size);have Nu:=hb.trans (Mm.mono hb.size);have r3':=ao Mm c3;go_wp2_with fail;refine(H3.o w2 Mm).mono ?_;rintro e w3 ⟨rfl,hb3⟩;have hb03:=Nu.trans (hb3.mono Nu.size);go_wp2_with fail;go_roundg (LO.length-(k+1))
       case measure=>omega
       case rel=>exact⟨k+1,by go_num,by omega,KK _,hb03,HXJ.o⟩
  ·go_wp2_with fail
   go_ret;exact⟨am (by
    rw[<-HFF.o];have h1:=Mb.o;rw[KW (by omega)]at h1;exact h1.symm),hb⟩
end Go.Proofs.YtgbloieahmkcjaaGreat
