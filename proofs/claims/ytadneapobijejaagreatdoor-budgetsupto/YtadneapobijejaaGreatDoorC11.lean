import Derived.Test.YtadneapobijejaaGreatDoorC10
import Derived.Maps.OwnSet
import Derived.Maps.OwnOps
import Derived.Maps.Views
import Derived.StringKeys
namespace Go.Proofs.YtadneapobijejaaGreatDoor
set_option maxHeartbeats 20000000
set_option maxRecDepth 100000
open Go.RowKit Tryz
open Go.Maps Tryz
open Go.ChangeMaps Tryz
def kl(x:vD):Lit:=.string x.data.toList
theorem KO{x y:vD}(h:kl x=kl y):x=y:=by
 unfold kl at h;simp only[Lit.string.injEq]at h;apply ByteArray.ext;exact Array.toList_inj.1 h
theorem Hq(x:vD):WideAt.IsKeyLit (kl x):=by unfold kl;trivial
theorem Ca:Keyed prog 9:=string_keyed underlying9
theorem Gy(w:World):(zeroValue 3).run prog w=.ok (.int .i64 0) w:=by kernel_rfl
theorem Ho(x:vD)(h:x.size<=4000):keyOf prog 9 (.string x)=some (kl x):=Go.WideMaps.keyOf_string_mk underlying9 (by unfold maxLen;omega)
def Dh:List vD->Bool
 |[]=>true
 |x::r=>!AS x r&&Dh r
theorem Jy:∀l:List vD,Dh l=true↔l.Nodup
 |[]=>by simp[Dh]
 |x::r=>by
  rw[Dh,List.nodup_cons,uL,Jy r];constructor
  ·rintro⟨h1,h2⟩;refine⟨fun hx=>?_,h2⟩;rw[(Fv x r).2 hx]at h1;cases h1
  ·rintro⟨h1,h2⟩;exact⟨by rw[Nl x r h1];rfl,h2⟩
theorem Nm(n:Int)(w:World):(Instr.makeMap 73 (some (.int .i64 n))).run prog w=.ok (.map (some w.heap.size)) (w.alloc (.map #[] 0)):=by
 unfold Instr.makeMap;simp[go_sem]
structure PM(l:List vD)(D:DataW Unit):Prop where
 tidy:Tidy D
 hasP:∀x,Maps.has D (kl x)=AS x l
 val:∀x,x∈l->∃j:Nat,l[j]?=some x/\∀z,D.atKey (kl x) z=.lit (.int .i64 j)
 le:Maps.size D<=l.length
 eq:Maps.size D=l.length↔l.Nodup
theorem PM.nil:PM [] (.map []):=⟨tidy_empty,fun x=>by simp[Maps.has,AS],fun x hx=>by simp at hx,by simp[Maps.size],by simp[Maps.size]⟩
theorem OM(l:List vD)(x:vD):(l++[x]).Nodup↔l.Nodup/\x∉l:=by
 rw[List.nodup_append];constructor
 ·rintro⟨h1,_,h3⟩;exact⟨h1,fun hx=>h3 x hx x (by simp) rfl⟩
 ·rintro⟨h1,h2⟩;refine⟨h1,by simp,fun a ha b hb e=>?_⟩
  simp at hb;subst hb;subst e;exact h2 ha
theorem PM.snoc{l:List vD}{D:DataW Unit}(h:PM l D)(x:vD):PM (l++[x]) (D.put (kl x) (.lit (.int .i64 l.length))):=by
 have hsz:=size_put (k:=kl x) h.tidy (.lit (.int .i64 l.length));rw[h.hasP x]at hsz;refine⟨h.tidy.put (Hq x) _,fun y=>?_,fun y hy=>?_,?_,?_⟩
 ·rw[Vy]
  by_cases e:y=x
  ·subst e;rw[has_put_same h.tidy.isMap (Hq y)];simp
  ·rw[has_put_other (fun h'=>e (KO h')),h.hasP y,tT (fun e'=>e e'.symm)];simp
 ·by_cases e:y=x
  ·subst e;exact⟨l.length,by simp,fun z=>atKey_put_same h.tidy.isMap (Hq y) _ z⟩
  ·have hy':y∈l:=by simpa [e]using hy
   obtain⟨j,h1,h2⟩:=h.val y hy';exact⟨j,by rw[uI (tP.1 h1).1];exact h1,fun z=>by rw[atKey_put_other (fun h'=>e (KO h'))];exact h2 z⟩
 ·rw[hsz];have:=h.le;simp;split<;>omega
 ·rw[hsz,OM,<-h.eq]
  have:=h.le;by_cases hx:x∈l
  ·rw[(Fv x l).2 hx];simp[hx];omega
  ·rw[Nl x l hx];simp[hx]
def Hd(P:Nat->Value->Prop)(w:World)(v:Value)(size:Nat)(l:List vD):Prop:=∃a cap,v=.slice a l.length cap/\(l=[]\/∃g,a=some ⟨g,0,none⟩/\∀(j:Nat) (x:vD),l[j]?=some x->w.cell? ⟨g,j*size,none⟩=some (.string x)/\∀k,0<k->k<size->∃u,w.cell? ⟨g,j*size+k,none⟩=some u/\P k u)
theorem Hd.below{P:Nat->Value->Prop}{w w':World}{v:Value}{size:Nat}{l:List vD}(h:Hd P w v size l)(hb:vE w w'):Hd P w' v size l:=by
 obtain⟨a,cap,h1,h3⟩:=h;refine⟨a,cap,h1,?_⟩;rcases h3 with h3|⟨g,h3,h4⟩
 ·exact Or.inl h3
 ·refine Or.inr ⟨g,h3,fun j x hj=>?_⟩
  obtain⟨c0,cs⟩:=h4 j x hj;exact⟨Ah hb c0,fun k h1 h2=>by obtain⟨u,hu,hp⟩:=cs k h1 h2;exact⟨u,Ah hb hu,hp⟩⟩
theorem BS.shaped{β:Type}{w:World}{B e size:Nat}{v:Value}{flat:β->List Value}{ok:World->β->Prop}{L:List β}(P:Nat->Value->Prop)(h:BS w B e size v flat ok L)(nmOf:β->vD)(hf:∀x,(flat x).length=size)(h0:∀x,(flat x)[0]?=some (.string (nmOf x)))(hP:∀x∈L,∀k u,0<k->(flat x)[k]?=some u->P k u):Hd P w v size (L.map nmOf):=by
 obtain⟨a,cap,hv⟩:=An h.own;refine⟨a,cap,by simpa using hv,?_⟩;cases hL:L with
 |nil=>left;rfl
 |cons y l=>
  right;obtain⟨g,cap',hv',_⟩:=h.cell hf 0 y (by rw[hL];rfl);rw[hv]at hv';cases hv';refine⟨g,rfl,fun j x hx=>?_⟩;rw[<-hL,uD]at hx;cases hz:L[j]? with
  |none=>rw[hz]at hx;cases hx
  |some z=>
   rw[hz]at hx;cases hx;obtain⟨g2,cap2,hv2,hc⟩:=h.cell hf j z hz;rw[hv]at hv2;cases hv2;refine⟨by have:=hc 0 _ (h0 z);simpa using this,fun k hk0 hk=>?_⟩;have:k<(flat z).length:=by rw[hf];exact hk
   exact⟨_,hc k _ (tN this),hP z (tO hz) k _ hk0 (tN this)⟩
def Po(_:Nat)(u:Value):Prop:=∃a n c,u=.slice a n c
def Nz(_:Nat)(_:Value):Prop:=True
def Ny(k:Nat)(u:Value):Prop:=(k<5->∃s,u=.string s)/\(k=5->∃q,u=.pointer q)
abbrev BP(w:World)(M n:Nat)(D:DataW Unit):Prop:=w.ownsMap prog 9 (plainElem prog 3) M n D
theorem kF(n:vD)(W:World):Sem.run prog (method 492 164 (.agg #[.string n]) "veil/schemas.called") W=.ok (281,.agg #[.string n]) W:=by kernel_rfl
theorem WG(w:World)(v:Value)(l:List vD)(h:Hd Po w v 2 l)(hl:l.length<=100000)(hsz:∀x∈l,x.size<=4000):
 Calls prog 72 #[v] w fun e w'=>∃M D,e=.returned (.map (some M))/\w.heap.size<=M/\BP w' M l.length D/\PM l D/\vE w w':=by
 have hmm:=Nm;have H0:=Aa h;have HSZ:=Aa hsz;obtain⟨a,cap,rfl,_⟩:=h;clear hsz;go_enter func72,ntmps72;go_wp2_with fail;go_loopg [4,5,11] l.length (fun m v4 v5 v11 wr=>∃k:Nat,v11=.int .i64 k/\k<=l.length/\l.length-k<=m/\∃D,BP wr w.heap.size k D/\PM (l.take k) D/\vE w wr)
 case atStart=>exact⟨0,rfl,tU _,by omega,.map [],World.ownsMap_made _ _ _ _,PM.nil,(tM _ _).alloc (tL _) _⟩
 case round=>
  obtain⟨k,rfl,hk,hm,D,hown,hpm,hb⟩:=hrel;have HPM:=Aa hpm;clear hpm;by_cases hlt:k<l.length
  ·obtain⟨a',cap',e1,h3⟩:=H0.o.below hb
   cases e1;obtain⟨g,ha,h4⟩:∃g,a=some ⟨g,0,none⟩/\∀(j:Nat) (x:vD),l[j]?=some x->wr.cell? ⟨g,j*2,none⟩=some (.string x)/\∀k,0<k->k<2->∃u,wr.cell? ⟨g,j*2+k,none⟩=some u/\Po k u:=by
    rcases h3 with e|e
    ·rw[e]at hlt;simp at hlt
    ·exact e
   subst ha;have hx:=tN hlt;obtain⟨hcell,hrest⟩:=h4 k _ hx;obtain⟨u1,hu1,hp1⟩:=hrest 1 (by decide) (by decide);obtain⟨ra1,rn1,rc1,rfl⟩:=hp1;have hky:=HSZ.o _ (tO hx);have HX:=Aa hx;clear h4 hx hrest h3;generalize l[k]=y at*;have hkey:=Ho y hky;have wR:=fun W=>VB y (.slice ra1 rn1 rc1) W;have hcl:=JR (wr.alloc (.cells #[.string y,.slice ra1 rn1 rc1] 166)) y;have hbs:=hb.size;have hwf:(Lit.int .i64 (k:Int)).wf=true:=WalkArith.wf_i64 (by omega);have HOWN:=Aa hown;clear hown;go_wp2_with fail;refine hcl.mono ?_;clear hcl;rintro e w1 ⟨rfl,hb1⟩;have hown1:BP w1 w.heap.size k D:=World.ownsMap.kept (HOWN.o.alloc _) ⟨hb1.os,hb1.tape,hb1.output,hb1.size,fun i hi _=>hb1.block i hi⟩ (by simp:some w.heap.size≠none);have hbb:vE w w1:=(hb.alloc hb.size _).trans (hb1.mono (by simp;omega));clear hb1;go_wp2_with (first|(at_mapUpdate;refine wpList_mapUpdate_own _ rfl _ _ _ 73 rfl 9 3 Ca underlying73 _ w.heap.size k D rfl hown1 (by unfold maxLen;omega) _ _ _ rfl rfl hkey _ [] (plainElem_int underlying3 hwf) ?_;intro w2 vM hgrow2)|go_in);have hb2:vE w w2:=hbb.grown hgrow2 hbb.size (fun j hj=>by cases hj;exact tL _);have xZ:PM (l.take (k+1)) (D.put (kl y) (.lit (.int .i64 k))):=by
    have:=HPM.o.snoc y;rw[List.length_take,Nat.min_eq_left hk]at this;rw[uG,HX.o];exact this
   have HO2:=Aa vM;have HP2:=Aa xZ;clear hown1 hgrow2 hbb vM xZ;go_wp2_with fail;go_roundg (l.length-(k+1))
   case measure=>omega
   case rel=>exact⟨k+1,by go_num,by omega,tL _,_,HO2.o,HP2.o,hb2⟩
  ·go_wp2_with fail
   go_ret;have hke:k=l.length:=by omega
   subst hke;exact⟨_,D,rfl,tL _,hown,by have:=HPM.o;rw[tW (tL _)]at this;exact this,hb⟩
theorem nX(w:World)(v:Value)(l:List vD)(h:Hd Nz w v 1 l)(hl:l.length<=100000)(hsz:∀x∈l,x.size<=4000):
 Calls prog 145 #[v] w fun e w'=>∃M D,e=.returned (.map (some M))/\w.heap.size<=M/\BP w' M l.length D/\PM l D/\vE w w':=by
 have hmm:=Nm;have H0:=Aa h;have HSZ:=Aa hsz;obtain⟨a,cap,rfl,_⟩:=h;clear hsz;go_enter func145,ntmps145;go_wp2_with fail;go_loopg [4,5,11] l.length (fun m v4 v5 v11 wr=>∃k:Nat,v11=.int .i64 k/\k<=l.length/\l.length-k<=m/\∃D,BP wr w.heap.size k D/\PM (l.take k) D/\vE w wr)
 case atStart=>exact⟨0,rfl,tU _,by omega,.map [],World.ownsMap_made _ _ _ _,PM.nil,(tM _ _).alloc (tL _) _⟩
 case round=>
  obtain⟨k,rfl,hk,hm,D,hown,hpm,hb⟩:=hrel;have HPM:=Aa hpm;clear hpm;by_cases hlt:k<l.length
  ·obtain⟨a',cap',e1,h3⟩:=H0.o.below hb
   cases e1;obtain⟨g,ha,h4⟩:∃g,a=some ⟨g,0,none⟩/\∀(j:Nat) (x:vD),l[j]?=some x->wr.cell? ⟨g,j*1,none⟩=some (.string x)/\∀k,0<k->k<1->∃u,wr.cell? ⟨g,j*1+k,none⟩=some u/\Nz k u:=by
    rcases h3 with e|e
    ·rw[e]at hlt;simp at hlt
    ·exact e
   subst ha;have hx:=tN hlt;obtain⟨hcell,hrest⟩:=h4 k _ hx;simp only[Nat.mul_one]at hcell;have hky:=HSZ.o _ (tO hx);have HX:=Aa hx;clear h4 hx hrest h3;generalize l[k]=y at*;have hkey:=Ho y hky;have wR:=fun W=>kF y W;have hcl:=JR (wr.alloc (.cells #[.string y] 164)) y;have hbs:=hb.size;have hwf:(Lit.int .i64 (k:Int)).wf=true:=WalkArith.wf_i64 (by omega);have HOWN:=Aa hown;clear hown;go_wp2_with fail;refine hcl.mono ?_;clear hcl;rintro e w1 ⟨rfl,hb1⟩;have hown1:BP w1 w.heap.size k D:=World.ownsMap.kept (HOWN.o.alloc _) ⟨hb1.os,hb1.tape,hb1.output,hb1.size,fun i hi _=>hb1.block i hi⟩ (by simp:some w.heap.size≠none);have hbb:vE w w1:=(hb.alloc hb.size _).trans (hb1.mono (by simp;omega));clear hb1;go_wp2_with (first|(at_mapUpdate;refine wpList_mapUpdate_own _ rfl _ _ _ 73 rfl 9 3 Ca underlying73 _ w.heap.size k D rfl hown1 (by unfold maxLen;omega) _ _ _ rfl rfl hkey _ [] (plainElem_int underlying3 hwf) ?_;intro w2 vM hgrow2)|go_in);have hb2:vE w w2:=hbb.grown hgrow2 hbb.size (fun j hj=>by cases hj;exact tL _);have xZ:PM (l.take (k+1)) (D.put (kl y) (.lit (.int .i64 k))):=by
    have:=HPM.o.snoc y;rw[List.length_take,Nat.min_eq_left hk]at this;rw[uG,HX.o];exact this
   have HO2:=Aa vM;have HP2:=Aa xZ;clear hown1 hgrow2 hbb vM xZ;go_wp2_with fail;go_roundg (l.length-(k+1))
   case measure=>omega
   case rel=>exact⟨k+1,by go_num,by omega,tL _,_,HO2.o,HP2.o,hb2⟩
  ·go_wp2_with fail
   go_ret;have hke:k=l.length:=by omega
   subst hke;exact⟨_,D,rfl,tL _,hown,by have:=HPM.o;rw[tW (tL _)]at this;exact this,hb⟩
theorem nV(w:World)(v:Value)(l:List vD)(h:Hd Ny w v 6 l)(hl:l.length<=100000)(hsz:∀x∈l,x.size<=4000):
 Calls prog 196 #[v] w fun e w'=>∃M D,e=.returned (.map (some M))/\w.heap.size<=M/\BP w' M l.length D/\PM l D/\vE w w':=by
 have hmm:=Nm;have H0:=Aa h;have HSZ:=Aa hsz;obtain⟨a,cap,rfl,_⟩:=h;clear hsz;go_enter func196,ntmps196;go_wp2_with fail;go_loopg [4,5,11] l.length (fun m v4 v5 v11 wr=>∃k:Nat,v11=.int .i64 k/\k<=l.length/\l.length-k<=m/\∃D,BP wr w.heap.size k D/\PM (l.take k) D/\vE w wr)
 case atStart=>exact⟨0,rfl,tU _,by omega,.map [],World.ownsMap_made _ _ _ _,PM.nil,(tM _ _).alloc (tL _) _⟩
 case round=>
  obtain⟨k,rfl,hk,hm,D,hown,hpm,hb⟩:=hrel;have HPM:=Aa hpm;clear hpm;by_cases hlt:k<l.length
  ·obtain⟨a',cap',e1,h3⟩:=H0.o.below hb
   cases e1;obtain⟨g,ha,h4⟩:∃g,a=some ⟨g,0,none⟩/\∀(j:Nat) (x:vD),l[j]?=some x->wr.cell? ⟨g,j*6,none⟩=some (.string x)/\∀k,0<k->k<6->∃u,wr.cell? ⟨g,j*6+k,none⟩=some u/\Ny k u:=by
    rcases h3 with e|e
    ·rw[e]at hlt;simp at hlt
    ·exact e
   subst ha;have hx:=tN hlt;obtain⟨hcell,hrest⟩:=h4 k _ hx;obtain⟨u1,hu1,hp1⟩:=hrest 1 (by decide) (by decide);obtain⟨fs1,rfl⟩:=hp1.1 (by decide);obtain⟨u2,hu2,hp2⟩:=hrest 2 (by decide) (by decide);obtain⟨fs2,rfl⟩:=hp2.1 (by decide);obtain⟨u3,hu3,hp3⟩:=hrest 3 (by decide) (by decide);obtain⟨fs3,rfl⟩:=hp3.1 (by decide);obtain⟨u4,hu4,hp4⟩:=hrest 4 (by decide) (by decide);obtain⟨fs4,rfl⟩:=hp4.1 (by decide);obtain⟨u5,hu5,hp5⟩:=hrest 5 (by decide) (by decide);obtain⟨fq5,rfl⟩:=hp5.2 rfl;clear hp1 hp2 hp3 hp4 hp5;have hky:=HSZ.o _ (tO hx);have HX:=Aa hx;clear h4 hx hrest h3;generalize l[k]=y at*;have hkey:=Ho y hky;have wR:=fun W=>VA y (.string fs1) (.string fs2) (.string fs3) (.string fs4) (.pointer fq5) W;have hcl:=JR (wr.alloc (.cells #[.string y,.string fs1,.string fs2,.string fs3,.string fs4,.pointer fq5] 248)) y;have hbs:=hb.size;have hwf:(Lit.int .i64 (k:Int)).wf=true:=WalkArith.wf_i64 (by omega);have HOWN:=Aa hown;clear hown;go_wp2_with fail;refine hcl.mono ?_;clear hcl;rintro e w1 ⟨rfl,hb1⟩;have hown1:BP w1 w.heap.size k D:=World.ownsMap.kept (HOWN.o.alloc _) ⟨hb1.os,hb1.tape,hb1.output,hb1.size,fun i hi _=>hb1.block i hi⟩ (by simp:some w.heap.size≠none);have hbb:vE w w1:=(hb.alloc hb.size _).trans (hb1.mono (by simp;omega));clear hb1;go_wp2_with (first|(at_mapUpdate;refine wpList_mapUpdate_own _ rfl _ _ _ 73 rfl 9 3 Ca underlying73 _ w.heap.size k D rfl hown1 (by unfold maxLen;omega) _ _ _ rfl rfl hkey _ [] (plainElem_int underlying3 hwf) ?_;intro w2 vM hgrow2)|go_in);have hb2:vE w w2:=hbb.grown hgrow2 hbb.size (fun j hj=>by cases hj;exact tL _);have xZ:PM (l.take (k+1)) (D.put (kl y) (.lit (.int .i64 k))):=by
    have:=HPM.o.snoc y;rw[List.length_take,Nat.min_eq_left hk]at this;rw[uG,HX.o];exact this
   have HO2:=Aa vM;have HP2:=Aa xZ;clear hown1 hgrow2 hbb vM xZ;go_wp2_with fail;go_roundg (l.length-(k+1))
   case measure=>omega
   case rel=>exact⟨k+1,by go_num,by omega,tL _,_,HO2.o,HP2.o,hb2⟩
  ·go_wp2_with fail
   go_ret;have hke:k=l.length:=by omega
   subst hke;exact⟨_,D,rfl,tL _,hown,by have:=HPM.o;rw[tW (tL _)]at this;exact this,hb⟩
theorem aZ(w:World)(v:Value)(l:List vD)(h:Hd Nz w v 1 l)(hl:l.length<=100000)(hsz:∀x∈l,x.size<=4000):
 Calls prog 102 #[v] w fun e w'=>e=.returned (.bool (Dh l))/\vE w w':=by
 have hc:=nX w v l h hl hsz;obtain⟨a,cap,rfl,_⟩:=h;go_enter func102,ntmps102;go_wp2_with fail;refine hc.mono ?_;clear hc;rintro e w1 ⟨M,D,rfl,hM,hown,hpm,hb⟩;have HQ:=Aa (show Dh l=decide (Maps.size D=l.length)from by rw[Bool.eq_iff_iff,Jy,<-hpm.eq];simp);have hle:=hpm.le;generalize hsd:Maps.size D=sd at*;clear hpm;by_cases hq:sd=l.length
 ·have t1:((sd:Int)==(l.length:Int))=true:=by simp;omega
  go_wp2_with (first|(at_len;refine wpList_len_own _ rfl _ 73 rfl 9 3 underlying73 _ M _ D rfl hown ?_;rw[hsd])|go_in);go_ret;exact⟨Ak (by rw[HQ.o];simp[hq]),hb⟩
 ·have t1:((sd:Int)==(l.length:Int))=false:=by simp;omega
  go_wp2_with (first|(at_len;refine wpList_len_own _ rfl _ 73 rfl 9 3 underlying73 _ M _ D rfl hown ?_;rw[hsd])|go_in);go_ret;exact⟨Ak (by rw[HQ.o];simp[hq]),hb⟩
theorem aX(w:World)(v:Value)(l:List vD)(h:Hd Ny w v 6 l)(hl:l.length<=100000)(hsz:∀x∈l,x.size<=4000):
 Calls prog 147 #[v] w fun e w'=>e=.returned (.bool (Dh l))/\vE w w':=by
 have hc:=nV w v l h hl hsz;obtain⟨a,cap,rfl,_⟩:=h;go_enter func147,ntmps147;go_wp2_with fail;refine hc.mono ?_;clear hc;rintro e w1 ⟨M,D,rfl,hM,hown,hpm,hb⟩;have HQ:=Aa (show Dh l=decide (Maps.size D=l.length)from by rw[Bool.eq_iff_iff,Jy,<-hpm.eq];simp);have hle:=hpm.le;generalize hsd:Maps.size D=sd at*;clear hpm;by_cases hq:sd=l.length
 ·have t1:((sd:Int)==(l.length:Int))=true:=by simp;omega
  go_wp2_with (first|(at_len;refine wpList_len_own _ rfl _ 73 rfl 9 3 underlying73 _ M _ D rfl hown ?_;rw[hsd])|go_in);go_ret;exact⟨Ak (by rw[HQ.o];simp[hq]),hb⟩
 ·have t1:((sd:Int)==(l.length:Int))=false:=by simp;omega
  go_wp2_with (first|(at_len;refine wpList_len_own _ rfl _ 73 rfl 9 3 underlying73 _ M _ D rfl hown ?_;rw[hsd])|go_in);go_ret;exact⟨Ak (by rw[HQ.o];simp[hq]),hb⟩
structure CM(l:List vD)(D:DataW Unit):Prop where
 tidy:Tidy D
 hasP:∀x,Maps.has D (kl x)=AS x l
 one:∀x,x∈l->∀z,D.atKey (kl x) z=.lit (.int .i64 1)
theorem CM.nil:CM [] (.map []):=⟨tidy_empty,fun x=>by simp[Maps.has,AS],fun x hx=>by simp at hx⟩
theorem CM.snoc{l:List vD}{D:DataW Unit}(h:CM l D)(x:vD):CM (l++[x]) (D.put (kl x) (.lit (.int .i64 1))):=by
 refine⟨h.tidy.put (Hq x) _,fun y=>?_,fun y hy=>?_⟩
 ·rw[Vy]
  by_cases e:y=x
  ·subst e;rw[has_put_same h.tidy.isMap (Hq y)];simp
  ·rw[has_put_other (fun h'=>e (KO h')),h.hasP y,tT (fun e'=>e e'.symm)];simp
 ·by_cases e:y=x
  ·subst e;intro z;exact atKey_put_same h.tidy.isMap (Hq y) _ z
  ·have hy':y∈l:=by simpa [e]using hy
   intro z;rw[atKey_put_other (fun h'=>e (KO h'))];exact h.one y hy' z
def Ea(kind:vD->Nat)(K:Nat)(l:List vD):Bool:=Dh l&&l.all fun x=>decide (kind x=K)
theorem lD(l:List vD)(k:Nat)(y:vD)(hy:l[k]?=some y)(h:AS y (l.take k)=true):Dh l=false:=by
 rw[Bool.eq_false_iff];intro hn;rw[Jy]at hn;rw[Fv]at h;have e:l=l.take k++y::l.drop (k+1):=by
  have hk:=(tP.1 hy);obtain⟨h1,h2⟩:=hk;rw[<-h2,<-uT h1,List.take_append_drop]
 rw[e,List.nodup_append]at hn;exact hn.2.2 y h y (by simp) rfl
theorem Te(w:World)(S:Nat)(vR vO vI vU vN:Value)(LR:List (At×Value))(LO:List (Ap×Value×Value×Value))(LI:List (As×Value))(LU:List (Au×Value))(names:List vD)(v:Value)(l:List vD)(K:Nat)(h:SV w S vR vO vI vU vN LR LO LI LU names)(hv:DK w v l)(hl:l.length<=100000)(hsz:∀x∈l,x.size<=4000):
 Calls prog 106 #[.pointer (some ⟨S,0,none⟩),v,.int .i64 K] w fun e w'=>e=.returned (.bool (Ea (AB (LO.map oN) (LI.map iN) (LU.map uN)) K l))/\vE w w':=by
 have hmm:=Nm;have H0:=Aa h;have HV:=Aa hv;have HSZ:=Aa hsz;obtain⟨a,cap,rfl,_⟩:=hv;have HQ:=Aa (show Ea (AB (LO.map oN) (LI.map iN) (LU.map uN)) K l=(Dh l&&l.all fun x=>decide ((AB (LO.map oN) (LI.map iN) (LU.map uN)) x=K))from rfl);generalize Ea (AB (LO.map oN) (LI.map iN) (LU.map uN)) K l=FF at*;clear h hsz;go_enter func106,ntmps106;go_wp2_with fail;go_loopg [9,15] l.length (fun m v9 v15 wr=>∃k:Nat,v15=.int .i64 k/\k<=l.length/\l.length-k<=m/\(∃D,BP wr w.heap.size k D/\CM (l.take k) D)/\vE w wr/\(l.take k).Nodup/\∀x∈l.take k,(AB (LO.map oN) (LI.map iN) (LU.map uN)) x=K)
 case atStart=>exact⟨0,rfl,tU _,by omega,⟨.map [],World.ownsMap_made _ _ _ _,CM.nil⟩,(tM _ _).alloc (tL _) _,by simp,by simp⟩
 case round=>
  obtain⟨k,rfl,hk,hm,⟨D,hown,hcm⟩,hb,hnd,hall⟩:=hrel;have HCM:=Aa hcm;have HND:=Aa hnd;have vX:=Aa hall;clear hcm hnd hall;by_cases hlt:k<l.length
  ·obtain⟨a',cap',e1,_,h3⟩:=HV.o.below hb
   cases e1;obtain⟨g,off,ha,h4⟩:∃g off,a=some ⟨g,off,none⟩/\∀(j:Nat) (x:vD),l[j]?=some x->wr.cell? ⟨g,off+j,none⟩=some (.string x):=by
    rcases h3 with e|e
    ·rw[e]at hlt;simp at hlt
    ·exact e
   subst ha;have hx:=tN hlt;have hcell:=h4 k _ hx;have hky:=HSZ.o _ (tO hx);have HX:=Aa hx;clear h4 hx h3;generalize l[k]=y at*;have hkey:=Ho y hky;obtain⟨c,hrun,hat,_⟩:=hown.lookup_int Ca underlying73 underlying3 (Gy _) hkey;have hbs:=hb.size;cases hmem:AS y (l.take k)
   ·have hc0:c=0:=by
     have:=atKey_of_not_has (D:=D) (k:=kl y) (by rw[HCM.o.hasP];exact hmem) (.lit (.int .i64 0));rw[this]at hat;simp only[DataW.lit.injEq,Lit.int.injEq,true_and]at hat;exact hat.symm
    subst hc0;clear hat;have HK:=Aa (fun w' hb'=>Ox w' S vR vO vI vU vN LR LO LI LU names y (H0.o.below hb'));have hny:¬y∈l.take k:=fun hin=>by rw[(Fv y _).2 hin]at hmem;cases hmem
    have HNY:=Aa hny;clear hny hmem;have hwf1:(Lit.int .i64 1).wf=true:=by decide
    by_cases hkk:(AB (LO.map oN) (LI.map iN) (LU.map uN)) y=K
    ·have t1:(((AB (LO.map oN) (LI.map iN) (LU.map uN)) y:Int)==(K:Int))=true:=by simp;omega
     have HKK:=Aa (show∀z,z=y->(AB (LO.map oN) (LI.map iN) (LU.map uN)) z=K from fun z hz=>by rw[hz];exact hkk);clear hkk;generalize (AB (LO.map oN) (LI.map iN) (LU.map uN)) y=kk at*;go_wp2_with (at_mapUpdate;refine wpList_mapUpdate_own _ rfl _ _ _ 73 rfl 9 3 Ca underlying73 _ w.heap.size k D rfl hown (by unfold maxLen;omega) _ _ _ rfl rfl hkey _ [] (plainElem_int underlying3 hwf1) ?_;intro w2 vM hgrow2;obtain⟨c2,xU,wT,_⟩:=vM.lookup_int Ca underlying73 underlying3 (Gy _) hkey;have hc2:c2=1:=(by rw[atKey_put_same HCM.o.tidy.isMap (Hq y)]at wT;simp only[DataW.lit.injEq,Lit.int.injEq,true_and]at wT;exact wT.symm);subst hc2;clear wT);have hb2:vE w w2:=hb.grown hgrow2 hb.size (fun j hj=>by cases hj;exact tL _);refine(HK.o w2 hb2).mono ?_;rintro e w3 ⟨rfl,hb3⟩;have wC:BP w3 w.heap.size (k+1) _:=World.ownsMap.kept vM ⟨hb3.os,hb3.tape,hb3.output,hb3.size,fun i hi _=>hb3.block i hi⟩ (by simp:some w.heap.size≠none);have hb23:vE w w3:=hb2.trans (hb3.mono hb2.size);have HO3:=Aa wC;clear vM hgrow2 hb2 hb3 wC xU HK;go_wp2_with fail;go_roundg (l.length-(k+1))
     case measure=>omega
     case rel=>exact⟨k+1,by go_num,by omega,tL _,⟨_,HO3.o,by rw[uG,HX.o];exact HCM.o.snoc y⟩,hb23,by
      rw[uG,HX.o];exact(OM _ y).2 ⟨HND.o,HNY.o⟩,by
      rw[uG,HX.o];intro x hx;rcases uZ.1 hx with hx|hx
      ·exact vX.o x hx
      ·exact HKK.o x (by simpa using hx)⟩
    ·have t1:(((AB (LO.map oN) (LI.map iN) (LU.map uN)) y:Int)==(K:Int))=false:=by simp;omega
     have HE:=Aa (show FF=false from by
      rw[HQ.o,Bool.and_eq_false_iff];right;rw[Bool.eq_false_iff];intro hT;rw[uK]at hT;have:=hT y (tO HX.o);simp only[uF]at this;exact hkk this)
     clear hkk HQ;generalize (AB (LO.map oN) (LI.map iN) (LU.map uN)) y=kk at*;go_wp2_with (at_mapUpdate;refine wpList_mapUpdate_own _ rfl _ _ _ 73 rfl 9 3 Ca underlying73 _ w.heap.size k D rfl hown (by unfold maxLen;omega) _ _ _ rfl rfl hkey _ [] (plainElem_int underlying3 hwf1) ?_;intro w2 vM hgrow2;obtain⟨c2,xU,wT,_⟩:=vM.lookup_int Ca underlying73 underlying3 (Gy _) hkey;have hc2:c2=1:=(by rw[atKey_put_same HCM.o.tidy.isMap (Hq y)]at wT;simp only[DataW.lit.injEq,Lit.int.injEq,true_and]at wT;exact wT.symm);subst hc2;clear wT);have hb2:vE w w2:=hb.grown hgrow2 hb.size (fun j hj=>by cases hj;exact tL _);refine(HK.o w2 hb2).mono ?_;rintro e w3 ⟨rfl,hb3⟩;have hb23:vE w w3:=hb2.trans (hb3.mono hb2.size);clear vM hgrow2 hb2 hb3 xU HK;go_wp2_with fail;go_ret;exact⟨Ak (by rw[HE.o]),hb23⟩
   ·have hc1:c=1:=by
     have:=HCM.o.one y ((Fv y _).1 hmem) (.lit (.int .i64 0));rw[this]at hat;simp only[DataW.lit.injEq,Lit.int.injEq,true_and]at hat;exact hat.symm
    subst hc1;have HE:=Aa (show FF=false from by rw[HQ.o,lD l k y HX.o hmem];rfl);have hwf2:(Lit.int .i64 2).wf=true:=by decide
    clear hat hmem HQ;go_wp2_with (at_mapUpdate;refine wpList_mapUpdate_own _ rfl _ _ _ 73 rfl 9 3 Ca underlying73 _ w.heap.size k D rfl hown (by unfold maxLen;omega) _ _ _ rfl rfl hkey _ [] (plainElem_int underlying3 hwf2) ?_;intro w2 vM hgrow2;obtain⟨c2,xU,wT,_⟩:=vM.lookup_int Ca underlying73 underlying3 (Gy _) hkey;have hc2:c2=2:=(by rw[atKey_put_same HCM.o.tidy.isMap (Hq y)]at wT;simp only[DataW.lit.injEq,Lit.int.injEq,true_and]at wT;exact wT.symm);subst hc2;clear wT);have hb2:vE w w2:=hb.grown hgrow2 hb.size (fun j hj=>by cases hj;exact tL _);go_ret;exact⟨Ak (by rw[HE.o]),hb2⟩
  ·go_wp2_with fail
   go_ret;have hke:l.take k=l:=tW (by omega);exact⟨Ak (by
    rw[HQ.o];have h1:=HND.o;have h2:=vX.o;rw[hke]at h1 h2;rw[(Jy l).2 h1];simp only[Bool.true_and];symm;rw[uK];intro x hx;simp[h2 x hx]),hb⟩
def DV(roles:List vD)(kind:vD->Nat)(l:List Al):Bool:=l.all (Hk roles kind)&&Dh (l.map Al.name)
theorem Dq.shaped{w:World}{B:Nat}{v:Value}{L:List (Al×Value)}(h:BS w B 248 6 v MV (OU B) L):Hd Ny w v 6 (L.map fN):=
 h.shaped Ny fN (fun _=>rfl) (fun _=>rfl) (fun x hx k u hk hu=>by
  obtain⟨q,hq⟩:=(h.ok x hx).ptr;have:MV x=[.string x.1.name,.string x.1.auth,.string x.1.hide_,.string x.1.arg,.string x.1.scalar,x.2]:=rfl;rw[this]at hu
  match k,hk,hu with
  |1,_,hu=>simp at hu;exact⟨fun _=>⟨_,hu.symm⟩,fun e=>by omega⟩
  |2,_,hu=>simp at hu;exact⟨fun _=>⟨_,hu.symm⟩,fun e=>by omega⟩
  |3,_,hu=>simp at hu;exact⟨fun _=>⟨_,hu.symm⟩,fun e=>by omega⟩
  |4,_,hu=>simp at hu;exact⟨fun _=>⟨_,hu.symm⟩,fun e=>by omega⟩
  |5,_,hu=>simp at hu;exact⟨fun e=>by omega,fun _=>⟨_,by rw[<-hu];exact hq⟩⟩
  |k+6,_,hu=>simp at hu)
theorem Uc(w:World)(S:Nat)(vR vO vI vU vN:Value)(LR:List (At×Value))(LO:List (Ap×Value×Value×Value))(LI:List (As×Value))(LU:List (Au×Value))(names:List vD)(v:Value)(B:Nat)(l:List Al)(h:SV w S vR vO vI vU vN LR LO LI LU names)(hF:Dq w B v l)(hl:l.length<=100000)(hsz:∀f∈l,f.name.size<=4000):
 Calls prog 103 #[.pointer (some ⟨S,0,none⟩),v] w fun e w'=>e=.returned (.bool (DV (LR.map rN) (AB (LO.map oN) (LI.map iN) (LU.map uN)) l))/\vE w w':=by
 obtain⟨L,hL,hrow⟩:=hF.row;have hlen:L.length=l.length:=by rw[<-hL];simp
 have H0:=Aa h;have yO:=Aa hrow;have HSZ:=Aa hsz;have HL:=Aa hL;have hLl:L.length<=100000:=by omega
 obtain⟨a,cap,rfl⟩:=An hrow.own;have HQ:=Aa (show DV (LR.map rN) (AB (LO.map oN) (LI.map iN) (LU.map uN)) l=(l.all (Hk (LR.map rN) (AB (LO.map oN) (LI.map iN) (LU.map uN)))&&Dh (l.map Al.name))from rfl);generalize DV (LR.map rN) (AB (LO.map oN) (LI.map iN) (LU.map uN)) l=FF at*;clear h hF hsz hrow hL hlen;go_enter func103,ntmps103;go_wp2_with fail;go_loopg [5,8] L.length (fun m v5 v8 wr=>∃k:Nat,v8=.int .i64 k/\k<=L.length/\L.length-k<=m/\vE w wr/\(L.take k).all (fun x=>Hk (LR.map rN) (AB (LO.map oN) (LI.map iN) (LU.map uN)) x.1)=true)
 case atStart=>exact⟨0,rfl,tU _,by omega,tM _ _,by simp⟩
 case round=>
  obtain⟨k,rfl,hk,hm,hb,hall⟩:=hrel;have vX:=Aa hall;clear hall;by_cases hlt:k<L.length
  ·have hx:=tN hlt
   obtain⟨g,cap',hv,hfa,hta⟩:=yO.o.fldAt k _ hx;cases hv;have hc:=dC wr S _ _ _ _ _ LR LO LI LU names g (k*6) B _ _ (H0.o.below hb) (hfa.below hb) (hta.stays (Ao.of_below hb));have HX:=Aa hx;clear hx hfa hta;generalize L[k]=y at*;have HXJ:=Aa (show(L.take (k+1)).all (fun x=>Hk (LR.map rN) (AB (LO.map oN) (LI.map iN) (LU.map uN)) x.1)=Hk (LR.map rN) (AB (LO.map oN) (LI.map iN) (LU.map uN)) y.1 from by
    rw[uG,HX.o,List.all_append,vX.o];simp)
   cases hq:Hk (LR.map rN) (AB (LO.map oN) (LI.map iN) (LU.map uN)) y.1
   ·rw[hq]at hc
    have HE:=Aa (show FF=false from by
     rw[HQ.o,Bool.and_eq_false_iff];left;rw[Bool.eq_false_iff];intro hT;rw[uK]at hT;have:=hT y.1 (by rw[<-HL.o];exact List.mem_map_of_mem (tO HX.o));rw[hq]at this;cases this)
    clear hq HXJ;go_wp2_with fail;refine hc.mono ?_;clear hc;rintro e w1 ⟨rfl,hb1⟩;have hbb:=hb.trans (hb1.mono hb.size);clear hb1;go_wp2_with fail;go_ret;exact⟨Ak (by rw[HE.o]),hbb⟩
   ·rw[hq]at hc HXJ
    clear hq;go_wp2_with fail;refine hc.mono ?_;clear hc;rintro e w1 ⟨rfl,hb1⟩;have hbb:=hb.trans (hb1.mono hb.size);clear hb1;go_wp2_with fail;go_roundg (L.length-(k+1))
    case measure=>omega
    case rel=>exact⟨k+1,by go_num,by omega,tL _,hbb,HXJ.o⟩
  ·have hc:=aX wr _ (L.map fN) ((Dq.shaped yO.o).below hb) (by simpa using hLl) (by
    intro x hx;rw[Ke L l HL.o]at hx;obtain⟨f,hf,rfl⟩:=List.mem_map.1 hx;exact HSZ.o f hf)
   have HE:=Aa (show FF=Dh (L.map fN)from by
    rw[HQ.o,Ke L l HL.o];have:l.all (Hk (LR.map rN) (AB (LO.map oN) (LI.map iN) (LU.map uN)))=true:=by
     have h1:=vX.o;rw[tW (by omega)]at h1;rw[<-HL.o,List.all_map];exact h1
    rw[this];rfl)
   generalize Dh (L.map fN)=GG at*;go_wp2_with fail;refine hc.mono ?_;clear hc;rintro e w1 ⟨rfl,hb1⟩;go_wp2_with fail;go_ret;exact⟨Ak (by rw[HE.o]),hb.trans (hb1.mono hb.size)⟩
theorem fP(w:World)(S:Nat)(vR vO vI vU vN:Value)(LR:List (At×Value))(LO:List (Ap×Value×Value×Value))(LI:List (As×Value))(LU:List (Au×Value))(names:List vD)(h:SV w S vR vO vI vU vN LR LO LI LU names)(hsz:∀x∈LI,∀f∈x.1.fields,f.name.size<=4000):
 Calls prog 58 #[.pointer (some ⟨S,0,none⟩)] w fun e w'=>e=.returned (.bool (LI.all fun x=>DV (LR.map rN) (AB (LO.map oN) (LI.map iN) (LU.map uN)) x.1.fields))/\vE w w':=by
 have H0:=Aa h;have HSZ:=Aa hsz;have hli:=h.li;obtain⟨a,cap,hv⟩:=An h.i.own;subst hv;have c0:w.cell? ⟨S,2,none⟩=some (.slice a LI.length cap):=Ac h.sc 2;generalize hFF:(LI.all fun x=>DV (LR.map rN) (AB (LO.map oN) (LI.map iN) (LU.map uN)) x.1.fields)=FF at*;have HFF:=Aa hFF;clear h hsz hFF;go_enter func58,ntmps58;go_wp2_with fail;go_loopg [4,10] LI.length (fun m v4 v10 wr=>∃k:Nat,v10=.int .i64 k/\k<=LI.length/\LI.length-k<=m/\vE w wr/\((LI.take k).all fun x=>DV (LR.map rN) (AB (LO.map oN) (LI.map iN) (LU.map uN)) x.1.fields)=true)
 case atStart=>exact⟨0,rfl,tU _,by omega,tM _ _,by simp⟩
 case round=>
  obtain⟨k,rfl,hk,hm,hb,hall⟩:=hrel;have vX:=Aa hall;clear hall;by_cases hlt:k<LI.length
  ·have hx:=tN hlt
   have hsv:=H0.o.below hb;obtain⟨g,cap',hv,hcc⟩:=hsv.i.cell (fun _=>rfl) k _ hx;cases hv;have hok:=hsv.i.ok _ (tO hx);have d0:wr.cell? ⟨g,k*2,none⟩=some (.string LI[k].1.name):=by simpa using hcc 0 _ rfl
   have d1:wr.cell? ⟨g,k*2+1,none⟩=some LI[k].2:=hcc 1 _ rfl;have hsz:=HSZ.o _ (tO hx);have HX:=Aa hx;clear hx hcc;generalize LI[k]=y at*;obtain⟨⟨yn,yf⟩,yv⟩:=y;obtain⟨hfl,hyl⟩:=hok;simp only[]at*;obtain⟨aY,cY,rfl⟩:=hfl.slice;have hc:=Uc (wr.alloc (.cells #[.string yn,.slice aY yf.length cY] 223)) S _ _ _ _ _ LR LO LI LU names _ S yf (hsv.below ((tM _ _).alloc (tL _) _)) (hfl.stays (Ao.alloc _) (Ao.alloc _)) (by omega) hsz;clear hsv hfl;have HXJ:=Aa (show((LI.take (k+1)).all fun x=>DV (LR.map rN) (AB (LO.map oN) (LI.map iN) (LU.map uN)) x.1.fields)=DV (LR.map rN) (AB (LO.map oN) (LI.map iN) (LU.map uN)) yf from by
    rw[uG,HX.o,List.all_append,vX.o];simp)
   cases hq:DV (LR.map rN) (AB (LO.map oN) (LI.map iN) (LU.map uN)) yf
   ·rw[hq]at hc
    have HE:=Aa (show FF=false from by
     rw[<-HFF.o,Bool.eq_false_iff];intro hT;rw[uK]at hT;have:=hT _ (tO HX.o);simp only[]at this;rw[hq]at this;cases this)
    clear hq HXJ;go_wp2_with fail;refine hc.mono ?_;clear hc;rintro e w1 ⟨rfl,hb1⟩;have hbb:vE w w1:=(hb.alloc hb.size _).trans (hb1.mono (by have:=hb.size;simp;omega));clear hb1;go_wp2_with fail;go_ret;exact⟨Ak (by rw[HE.o]),hbb⟩
   ·rw[hq]at hc HXJ
    clear hq;go_wp2_with fail;refine hc.mono ?_;clear hc;rintro e w1 ⟨rfl,hb1⟩;have hbb:vE w w1:=(hb.alloc hb.size _).trans (hb1.mono (by have:=hb.size;simp;omega));clear hb1;go_wp2_with fail;go_roundg (LI.length-(k+1))
    case measure=>omega
    case rel=>exact⟨k+1,by go_num,by omega,tL _,hbb,HXJ.o⟩
  ·go_wp2_with fail
   go_ret;exact⟨Ak (by
    rw[<-HFF.o];have h1:=vX.o;rw[tW (by omega)]at h1;exact h1.symm),hb⟩
theorem sJ(w:World)(S:Nat)(vR vO vI vU vN:Value)(LR:List (At×Value))(LO:List (Ap×Value×Value×Value))(LI:List (As×Value))(LU:List (Au×Value))(names:List vD)(h:SV w S vR vO vI vU vN LR LO LI LU names)(hsz:∀x∈LU,∀y∈x.1.members,y.size<=4000):
 Calls prog 59 #[.pointer (some ⟨S,0,none⟩)] w fun e w'=>e=.returned (.bool (LU.all fun x=>Ea (AB (LO.map oN) (LI.map iN) (LU.map uN)) 2 x.1.members))/\vE w w':=by
 have H0:=Aa h;have HSZ:=Aa hsz;have hlu:=h.lu;obtain⟨a,cap,hv⟩:=An h.u.own;subst hv;have c0:w.cell? ⟨S,3,none⟩=some (.slice a LU.length cap):=Ac h.sc 3;generalize hFF:(LU.all fun x=>Ea (AB (LO.map oN) (LI.map iN) (LU.map uN)) 2 x.1.members)=FF at*;have HFF:=Aa hFF;clear h hsz hFF;go_enter func59,ntmps59;go_wp2_with fail;go_loopg [4,10] LU.length (fun m v4 v10 wr=>∃k:Nat,v10=.int .i64 k/\k<=LU.length/\LU.length-k<=m/\vE w wr/\((LU.take k).all fun x=>Ea (AB (LO.map oN) (LI.map iN) (LU.map uN)) 2 x.1.members)=true)
 case atStart=>exact⟨0,rfl,tU _,by omega,tM _ _,by simp⟩
 case round=>
  obtain⟨k,rfl,hk,hm,hb,hall⟩:=hrel;have vX:=Aa hall;clear hall;by_cases hlt:k<LU.length
  ·have hx:=tN hlt
   have hsv:=H0.o.below hb;obtain⟨g,cap',hv,hcc⟩:=hsv.u.cell (fun _=>rfl) k _ hx;cases hv;have hok:=hsv.u.ok _ (tO hx);have d0:wr.cell? ⟨g,k*2,none⟩=some (.string LU[k].1.name):=by simpa using hcc 0 _ rfl
   have d1:wr.cell? ⟨g,k*2+1,none⟩=some LU[k].2:=hcc 1 _ rfl;have hsz:=HSZ.o _ (tO hx);have HX:=Aa hx;clear hx hcc;generalize LU[k]=y at*;obtain⟨⟨yn,ym⟩,yv⟩:=y;obtain⟨hfl,hyl⟩:=hok;simp only[]at*;obtain⟨aY,cY,rfl⟩:=An hfl;have hc:=Te (wr.alloc (.cells #[.string yn,.slice aY ym.length cY] 226)) S _ _ _ _ _ LR LO LI LU names _ ym 2 (hsv.below ((tM _ _).alloc (tL _) _)) ((DK.of_own hfl).below ((tM _ _).alloc (tL _) _)) (by omega) hsz;clear hsv hfl;have HXJ:=Aa (show((LU.take (k+1)).all fun x=>Ea (AB (LO.map oN) (LI.map iN) (LU.map uN)) 2 x.1.members)=Ea (AB (LO.map oN) (LI.map iN) (LU.map uN)) 2 ym from by
    rw[uG,HX.o,List.all_append,vX.o];simp)
   cases hq:Ea (AB (LO.map oN) (LI.map iN) (LU.map uN)) 2 ym
   ·rw[hq]at hc
    have HE:=Aa (show FF=false from by
     rw[<-HFF.o,Bool.eq_false_iff];intro hT;rw[uK]at hT;have:=hT _ (tO HX.o);simp only[]at this;rw[hq]at this;cases this)
    clear hq HXJ;go_wp2_with fail;refine hc.mono ?_;clear hc;rintro e w1 ⟨rfl,hb1⟩;have hbb:vE w w1:=(hb.alloc hb.size _).trans (hb1.mono (by have:=hb.size;simp;omega));clear hb1;go_wp2_with fail;go_ret;exact⟨Ak (by rw[HE.o]),hbb⟩
   ·rw[hq]at hc HXJ
    clear hq;go_wp2_with fail;refine hc.mono ?_;clear hc;rintro e w1 ⟨rfl,hb1⟩;have hbb:vE w w1:=(hb.alloc hb.size _).trans (hb1.mono (by have:=hb.size;simp;omega));clear hb1;go_wp2_with fail;go_roundg (LU.length-(k+1))
    case measure=>omega
    case rel=>exact⟨k+1,by go_num,by omega,tL _,hbb,HXJ.o⟩
  ·go_wp2_with fail
   go_ret;exact⟨Ak (by
    rw[<-HFF.o];have h1:=vX.o;rw[tW (by omega)]at h1;exact h1.symm),hb⟩
def KT(l:List vD):Bool:=(l.all fun x=>!Ef x)&&Dh l
theorem SV.shapedN{w:World}{S:Nat}{vR vO vI vU vN:Value}{LR:List (At×Value)}{LO:List (Ap×Value×Value×Value)}{LI:List (As×Value)}{LU:List (Au×Value)}{names:List vD}(h:SV w S vR vO vI vU vN LR LO LI LU names):Hd Nz w vN 1 names:=by
 obtain⟨a,cap,hv⟩:=An h.n;refine⟨a,cap,hv,?_⟩;rcases h.n.2 with⟨e,e0⟩|⟨g,cap',cur,hv',_⟩
 ·left;exact tZ e0
 ·right
  rw[hv]at hv';cases hv';refine⟨g,rfl,fun j x hx=>⟨?_,fun k h1 h2=>by omega⟩⟩;have hn:=h.n;rw[hv]at hn;have hj:=(tP.1 hx).1;have:=hn.cellAt j (by omega);rw[Nat.mul_one];simpa [Bi,hx]using this
theorem kX(w:World)(S:Nat)(vR vO vI vU vN:Value)(LR:List (At×Value))(LO:List (Ap×Value×Value×Value))(LI:List (As×Value))(LU:List (Au×Value))(names:List vD)(h:SV w S vR vO vI vU vN LR LO LI LU names)(hsz:∀x∈names,x.size<=4000):
 Calls prog 56 #[.pointer (some ⟨S,0,none⟩)] w fun e w'=>e=.returned (.bool (KT names))/\vE w w':=by
 have H0:=Aa h;have HSZ:=Aa hsz;have hln:=h.ln;obtain⟨a,cap,hv⟩:=An h.n;subst hv;have c0:w.cell? ⟨S,4,none⟩=some (.slice a names.length cap):=Ac h.sc 4;have HQ:=Aa (show KT names=((names.all fun x=>!Ef x)&&Dh names)from rfl);generalize KT names=FF at*;clear h hsz;go_enter func56,ntmps56;go_wp2_with fail;go_loopg [4,10] names.length (fun m v4 v10 wr=>∃k:Nat,v10=.int .i64 k/\k<=names.length/\names.length-k<=m/\vE w wr/\((names.take k).all fun x=>!Ef x)=true)
 case atStart=>exact⟨0,rfl,tU _,by omega,tM _ _,by simp⟩
 case round=>
  obtain⟨k,rfl,hk,hm,hb,hall⟩:=hrel;have vX:=Aa hall;clear hall;have hsv:=H0.o.below hb;have c0r:wr.cell? ⟨S,4,none⟩=some (.slice a names.length cap):=Ac hsv.sc 4;by_cases hlt:k<names.length
  ·have hx:=tN hlt
   obtain⟨a',cap',e1,h3⟩:=hsv.shapedN;cases e1;obtain⟨g,ha,h4⟩:∃g,a=some ⟨g,0,none⟩/\∀(j:Nat) (x:vD),names[j]?=some x->wr.cell? ⟨g,j*1,none⟩=some (.string x)/\∀k,0<k->k<1->∃u,wr.cell? ⟨g,j*1+k,none⟩=some u/\Nz k u:=by
    rcases h3 with e|e
    ·rw[e]at hlt;simp at hlt
    ·exact e
   subst ha;have hcell:=(h4 k _ hx).1;simp only[Nat.mul_one]at hcell;have HX:=Aa hx;clear hx h4 h3 hsv;generalize names[k]=y at*;have hs:=Nb y;have HXJ:=Aa (show((names.take (k+1)).all fun x=>!Ef x)=!Ef y from by
    rw[uG,HX.o,List.all_append,vX.o];simp)
   cases hq:Ef y
   ·rw[hq]at hs HXJ
    clear hq;go_wp2_with fail;refine(hs _).mono ?_;rintro e w1 ⟨rfl,hw1⟩;have hw1:=hw1.symm;subst hw1;have hbb:vE w (wr.alloc (.cells #[.string y] 164)):=hb.alloc hb.size _;go_wp2_with fail;go_roundg (names.length-(k+1))
    case measure=>omega
    case rel=>exact⟨k+1,by go_num,by omega,tL _,hbb,HXJ.o⟩
   ·rw[hq]at hs
    have HE:=Aa (show FF=false from by
     rw[HQ.o,Bool.and_eq_false_iff];left;rw[Bool.eq_false_iff];intro hT;rw[uK]at hT;have:=hT _ (tO HX.o);rw[hq]at this;cases this)
    clear hq HXJ;go_wp2_with fail;refine(hs _).mono ?_;rintro e w1 ⟨rfl,hw1⟩;have hw1:=hw1.symm;subst hw1;go_wp2_with fail;go_ret;exact⟨Ak (by rw[HE.o]),hb.alloc hb.size _⟩
  ·have hc:=aZ wr _ names hsv.shapedN (by omega) HSZ.o
   have HE:=Aa (show FF=Dh names from by
    rw[HQ.o];have h1:=vX.o;rw[tW (by omega)]at h1;rw[h1];rfl)
   generalize Dh names=GG at*;clear hsv;go_wp2_with fail;refine hc.mono ?_;clear hc;rintro e w1 ⟨rfl,hb1⟩;go_wp2_with fail;go_ret;exact⟨Ak (by rw[HE.o]),hb.trans (hb1.mono hb.size)⟩
def Ig:vD:=⟨#[81,117,101,114,121]⟩
def Ix(l:List Ap):Bool:=if Ae (l.map Ap.name) Ig<0 then false else match l[(Ae (l.map Ap.name) Ig).toNat]? with
 |some o=>o.rule.isNone
 |none=>false
theorem pH(w:World)(S:Nat)(vR vO vI vU vN:Value)(LR:List (At×Value))(LO:List (Ap×Value×Value×Value))(LI:List (As×Value))(LU:List (Au×Value))(names:List vD)(h:SV w S vR vO vI vU vN LR LO LI LU names):
 Calls prog 60 #[.pointer (some ⟨S,0,none⟩)] w fun e w'=>e=.returned (.bool (Ix (LO.map Prod.fst)))/\vE w w':=by
 have hc:=Nx w S vR vO vI vU vN LR LO LI LU names Ig h;have hn:=GO h.rowObject Ig;have hmap:(LO.map Prod.fst).map Ap.name=LO.map oN:=by rw[List.map_map];rfl
 have hbd:=Hn (LO.map oN) Ig;by_cases hq:Ae (LO.map oN) Ig<0
 ·rw[hn.1 hq]at hc
  have HE:=Aa (show Ix (LO.map Prod.fst)=false from by unfold Ix;rw[hmap,uC hq]);generalize Ix (LO.map Prod.fst)=FF at*;clear h hn hmap hbd hq;go_enter func60,ntmps60;go_wp2_with fail;refine hc.mono ?_;clear hc;rintro e w1 ⟨rfl,hb1⟩;go_wp2_with fail;go_ret;exact⟨Ak (by rw[HE.o]),hb1⟩
 ·obtain⟨j,hj⟩:∃j:Nat,Ae (LO.map oN) Ig=j:=⟨(Ae (LO.map oN) Ig).toNat,by omega⟩
  have hjl:j<LO.length:=by rw[hj]at hbd;simp at hbd;omega
  have hx:=tN hjl;obtain⟨g,cap,hv,hcc⟩:=h.o.cell (fun _=>rfl) j _ hx;have d3:w.cell? ⟨g,j*4+3,none⟩=some LO[j].2.2.2:=hcc 3 _ rfl;have hok:=h.o.ok _ (tO hx);have hru:=hok.2.2.2.2;have HE:=Aa (show Ix (LO.map Prod.fst)=LO[j].1.rule.isNone from by
   unfold Ix;rw[hmap,uB hq,hj];simp only[uO];rw[uD,hx];rfl)
  rw[show AC vO 4 (Ae (LO.map oN) Ig)=.pointer (some ⟨g,j*4,none⟩)from by unfold AC;rw[uB hq,hj,hv];simp]at hc;generalize Ix (LO.map Prod.fst)=FF at*;clear h hn hmap hbd hq hcc hv hx hok hj;generalize LO[j]=y at*;obtain⟨⟨yn,yf,yi,yr⟩,y1,y2,y3⟩:=y;simp only[]at*;cases yr with
  |none=>
   have e3:y3=.pointer none:=hru;subst e3;clear hru;go_enter func60,ntmps60;go_wp2_with fail;refine hc.mono ?_;clear hc;rintro e w1 ⟨rfl,hb1⟩;have d3':=Ah hb1 d3;go_wp2_with fail;go_ret;exact⟨Ak (by rw[HE.o];rfl),hb1⟩
  |some ls=>
   obtain⟨kk,e3⟩:=BC.ptr (And.left hru);subst e3;clear hru;go_enter func60,ntmps60;go_wp2_with fail;refine hc.mono ?_;clear hc;rintro e w1 ⟨rfl,hb1⟩;have d3':=Ah hb1 d3;go_wp2_with fail;go_ret;exact⟨Ak (by rw[HE.o];rfl),hb1⟩
theorem rC:∀(t u:Bo) (w:World) (B C:Nat) (v v':Value),Bu w B v t->Bu w C v' u->
 Calls prog 198 #[v,v'] w fun e w'=>e=.returned (.bool (Eu t u))/\∃m,w'=w.drewN m:=by
 intro t
 induction t with
 |one n s=>
  intro u w B C v v' ht hu;obtain⟨k,rfl,_,hb⟩:=ht;have c0:w.cell? ⟨k,0,none⟩=some (.string n):=Ac hb 0;have c1:w.cell? ⟨k,1,none⟩=some (.int .i64 0):=Ac hb 1;have c3:w.cell? ⟨k,3,none⟩=some (.bool s):=Ac hb 3;clear hb;cases u with
  |one m r=>
   obtain⟨k',rfl,_,hb'⟩:=hu;have d0:w.cell? ⟨k',0,none⟩=some (.string m):=Ac hb' 0;have d1:w.cell? ⟨k',1,none⟩=some (.int .i64 0):=Ac hb' 1;have d3:w.cell? ⟨k',3,none⟩=some (.bool r):=Ac hb' 3;clear hb';have HQ:=Aa (show Eu (.one n s) (.one m r)=((s==r)&&(n.toList==m.toList))from by rw[Eu,Cr]);generalize Eu (.one n s) (.one m r)=FF at*;cases s<;>cases r;all_goals(
    go_enter func198,ntmps198;go_wp2_with fail;go_quiet (fail);go_wp2_with fail;try(go_quiet (fail);go_wp2_with fail)
    go_ret;exact⟨Ak (by rw[HQ.o];simp),by first|exact⟨_,World.drewN_drewN _ _ _⟩|exact⟨_,rfl⟩⟩)
  |list b r=>
   obtain⟨k',u1,rfl,_,hb',_⟩:=hu;have d1:w.cell? ⟨k',1,none⟩=some (.int .i64 1):=Ac hb' 1;have d3:w.cell? ⟨k',3,none⟩=some (.bool r):=Ac hb' 3;clear hb';rw[show Eu (.one n s) (.list b r)=false from rfl];go_enter func198,ntmps198;go_wp2_with fail;go_quiet (fail);go_wp2_with fail;go_ret;exact⟨rfl,_,rfl⟩
 |list a s ih=>
  intro u w B C v v' ht hu;obtain⟨k,ua,rfl,_,hb,hta⟩:=ht;obtain⟨ka,rfl⟩:=hta.ptr;have c1:w.cell? ⟨k,1,none⟩=some (.int .i64 1):=Ac hb 1;have c2:w.cell? ⟨k,2,none⟩=some (.pointer (some ⟨ka,0,none⟩)):=Ac hb 2;have c3:w.cell? ⟨k,3,none⟩=some (.bool s):=Ac hb 3;clear hb;cases u with
  |one m r=>
   obtain⟨k',rfl,_,hb'⟩:=hu;have d1:w.cell? ⟨k',1,none⟩=some (.int .i64 0):=Ac hb' 1;have d3:w.cell? ⟨k',3,none⟩=some (.bool r):=Ac hb' 3;clear hb';rw[show Eu (.list a s) (.one m r)=false from rfl];go_enter func198,ntmps198;go_wp2_with fail;go_quiet (fail);go_wp2_with fail;go_ret;exact⟨rfl,_,rfl⟩
  |list b r=>
   obtain⟨k',ub,rfl,_,hb',htb⟩:=hu;obtain⟨kb,rfl⟩:=htb.ptr;have d1:w.cell? ⟨k',1,none⟩=some (.int .i64 1):=Ac hb' 1;have d2:w.cell? ⟨k',2,none⟩=some (.pointer (some ⟨kb,0,none⟩)):=Ac hb' 2;have d3:w.cell? ⟨k',3,none⟩=some (.bool r):=Ac hb' 3;clear hb';have HC:=Aa (fun(n m:Nat)=>ih b ((w.drewN n).drewN m) B C _ _ (hta.stays (Ao.of_below (below_drewN (below_drewN (tM _ _) n) m))) (htb.stays (Ao.of_below (below_drewN (below_drewN (tM _ _) n) m))));have HQ:=Aa (show Eu (.list a s) (.list b r)=((s==r)&&Eu a b)from rfl);generalize Eu (.list a s) (.list b r)=FF at*;generalize Eu a b=GG at*;clear ih hta htb;cases s<;>cases r
   ·go_enter func198,ntmps198
    go_wp2_with fail;go_quiet (fail);go_wp2_with fail;have c2q:=Ah (below_drewN (tM _ _) nq) c2;have d2q:=Ah (below_drewN (tM _ _) nq) d2;have HCq:=Aa (fun m=>HC.o nq m);have HWQ:=Aa (show∀m,∃m',(w.drewN nq).drewN m=w.drewN m' from fun m=>⟨_,World.drewN_drewN _ _ _⟩);clear HC;generalize w.drewN nq=W0 at*;go_quiet (first|(go_at_call 198;refine Calls.quiet_of (HCq.o _)));go_wp2_with fail;go_ret;exact⟨Ak (by rw[HQ.o];simp),HWQ.o _⟩
   ·go_enter func198,ntmps198
    go_wp2_with fail;go_quiet (fail);go_wp2_with fail;go_ret;exact⟨Ak (by rw[HQ.o];simp),_,rfl⟩
   ·go_enter func198,ntmps198
    go_wp2_with fail;go_quiet (fail);go_wp2_with fail;go_ret;exact⟨Ak (by rw[HQ.o];simp),_,rfl⟩
   ·go_enter func198,ntmps198
    go_wp2_with fail;go_quiet (fail);go_wp2_with fail;have c2q:=Ah (below_drewN (tM _ _) nq) c2;have d2q:=Ah (below_drewN (tM _ _) nq) d2;have HCq:=Aa (fun m=>HC.o nq m);have HWQ:=Aa (show∀m,∃m',(w.drewN nq).drewN m=w.drewN m' from fun m=>⟨_,World.drewN_drewN _ _ _⟩);clear HC;generalize w.drewN nq=W0 at*;go_quiet (first|(go_at_call 198;refine Calls.quiet_of (HCq.o _)));go_wp2_with fail;go_ret;exact⟨Ak (by rw[HQ.o];simp),HWQ.o _⟩
def Lw(f g:Al):Bool:=(f.name.toList==g.name.toList)&&((f.auth.toList==g.auth.toList)&&((f.hide_.toList==g.hide_.toList)&&((f.arg.toList==g.arg.toList)&&((f.scalar.toList==g.scalar.toList)&&Eu f.ty g.ty))))
theorem dR(w:World)(g o g' o' B C:Nat)(f f':Al)(u u':Value)(hf:Ce w g o f u)(hf':Ce w g' o' f' u')(ht:Bu w B u f.ty)(ht':Bu w C u' f'.ty):
 Calls prog 149 #[.pointer (some ⟨g,o,none⟩),.pointer (some ⟨g',o',none⟩)] w fun e w'=>e=.returned (.bool (Lw f f'))/\vE w w':=by
 obtain⟨c0,c1,c2,c3,c4,c5⟩:=hf;obtain⟨d0,d1,d2,d3,d4,d5⟩:=hf';have HC:=Aa (fun(n:Nat)=>rC f.ty f'.ty (w.drewN n) B C u u' (ht.stays (Ao.of_below (below_drewN (tM _ _) n))) (ht'.stays (Ao.of_below (below_drewN (tM _ _) n))));obtain⟨ku,rfl⟩:=ht.ptr;obtain⟨ku',rfl⟩:=ht'.ptr;have HQ:=Aa (show Lw f f'=((f.name.toList==f'.name.toList)&&((f.auth.toList==f'.auth.toList)&&((f.hide_.toList==f'.hide_.toList)&&((f.arg.toList==f'.arg.toList)&&((f.scalar.toList==f'.scalar.toList)&&Eu f.ty f'.ty)))))from rfl);generalize Lw f f'=FF at*;clear ht ht';obtain⟨fn,fa,fh,fx,fs,ft⟩:=f;obtain⟨gn,ga,gh,gx,gs,gt⟩:=f';simp only[]at*;generalize Eu ft gt=GG at*;cases t1:(fn.toList==gn.toList)
 ·rw[t1]at HQ
  go_enter func149,ntmps149;go_wp2_with fail;go_quiet (fail);go_wp2_with fail;go_ret;exact⟨Ak (by rw[HQ.o];rfl),below_drewN (tM _ _) _⟩
 ·skip
  cases t2:(fa.toList==ga.toList)
  ·rw[t1,t2]at HQ
   go_enter func149,ntmps149;go_wp2_with fail;go_quiet (fail);go_wp2_with fail;go_ret;exact⟨Ak (by rw[HQ.o];rfl),below_drewN (tM _ _) _⟩
  ·skip
   cases t3:(fh.toList==gh.toList)
   ·rw[t1,t2,t3]at HQ
    go_enter func149,ntmps149;go_wp2_with fail;go_quiet (fail);go_wp2_with fail;go_ret;exact⟨Ak (by rw[HQ.o];rfl),below_drewN (tM _ _) _⟩
   ·skip
    cases t4:(fx.toList==gx.toList)
    ·rw[t1,t2,t3,t4]at HQ
     go_enter func149,ntmps149;go_wp2_with fail;go_quiet (fail);go_wp2_with fail;go_ret;exact⟨Ak (by rw[HQ.o];rfl),below_drewN (tM _ _) _⟩
    ·skip
     cases t5:(fs.toList==gs.toList)
     ·rw[t1,t2,t3,t4,t5]at HQ
      go_enter func149,ntmps149;go_wp2_with fail;go_quiet (fail);go_wp2_with fail;go_ret;exact⟨Ak (by rw[HQ.o];rfl),below_drewN (tM _ _) _⟩
     ·skip
      rw[t1,t2,t3,t4,t5]at HQ;go_enter func149,ntmps149;go_wp2_with fail;go_quiet (first|(go_at_call 198;refine Calls.quiet_of (HC.o _)));go_wp2_with fail;go_ret;exact⟨Ak (by rw[HQ.o];simp),below_drewN (tM _ _) _⟩
def Ju(ifs:List As)(n:vD):List Al:=match ifs[(Ae (ifs.map As.name) n).toNat]? with
 |some i=>i.fields
 |none=>[]
def Fc(l:List Al)(f:Al):Bool:=if Ae (l.map Al.name) f.name<0 then false else match l[(Ae (l.map Al.name) f.name).toNat]? with
 |some g=>Lw f g
 |none=>false
def Jv(kind:vD->Nat)(ifs:List As)(impl:List vD)(l:List Al):Bool:=Ea kind 3 impl&&impl.all fun n=>(Ju ifs n).all (Fc l)
theorem UJ{objs ifs uns:List vD}{x:vD}(h:AB objs ifs uns x=3):¬Ae ifs x<0:=by
 unfold AB at h;split at h
 ·cases h
 ·split at h
  ·cases h
  ·split at h
   ·rename_i hh;unfold has at hh;simpa using hh
   ·split at h<;>cases h
theorem rB(w:World)(B:Nat)(vF:Value)(L:List (Al×Value))(l:List Al)(hL:L.map Prod.fst=l)(hrow:BS w B 248 6 vF MV (OU B) L)(f:Al):
 (AC vF 6 (Ae (l.map Al.name) f.name)=.pointer none/\Fc l f=false)\/∃g o gf u,AC vF 6 (Ae (l.map Al.name) f.name)=.pointer (some ⟨g,o,none⟩)/\Ce w g o gf u/\Bu w B u gf.ty/\Fc l f=Lw f gf:=by
 have hrd:CT w vF 6 (l.map Al.name):=by rw[<-Ke L l hL];exact hrow.rowed fN (fun _=>rfl) (fun _=>rfl)
 have hlen:L.length=l.length:=by rw[<-hL];simp
 by_cases hq:Ae (l.map Al.name) f.name<0
 ·left;exact⟨(GO hrd f.name).1 hq,by unfold Fc;rw[uC hq]⟩
 ·right
  have hbd:=Hn (l.map Al.name) f.name;obtain⟨j,hj⟩:∃j:Nat,Ae (l.map Al.name) f.name=j:=⟨(Ae (l.map Al.name) f.name).toNat,by omega⟩;have hjl:j<L.length:=by rw[hj]at hbd;simp at hbd;omega
  have hx:=tN hjl;obtain⟨g,cap,hv,hfa,hta⟩:=hrow.fldAt j _ hx;have hlj:l[j]?=some L[j].1:=by rw[<-hL,uD,hx];rfl
  refine⟨g,j*6,L[j].1,L[j].2,?_,hfa,hta,?_⟩
  ·unfold AC;rw[uB hq,hj,hv];simp
  ·unfold Fc;rw[uB hq,hj];simp only[uO];rw[hlj]
theorem fB(w:World)(S:Nat)(vR vO vI vU vN:Value)(LR:List (At×Value))(LO:List (Ap×Value×Value×Value))(LI:List (As×Value))(LU:List (Au×Value))(names:List vD)(gO oO:Nat)(vF vA:Value)(l:List Al)(impl:List vD)(h:SV w S vR vO vI vU vN LR LO LI LU names)(hcF:w.cell? ⟨gO,oO+1,none⟩=some vF)(hcA:w.cell? ⟨gO,oO+2,none⟩=some vA)(hF:Dq w S vF l)(hA:w.ownsRow S 9 1 vA impl.length (Bi impl))(hl:l.length<=802)(hil:impl.length<=803)(hsz:∀x∈impl,x.size<=4000):
 Calls prog 104 #[.pointer (some ⟨S,0,none⟩),.pointer (some ⟨gO,oO,none⟩)] w fun e w'=>e=.returned (.bool (Jv (AB (LO.map oN) (LI.map iN) (LU.map uN)) (LI.map Prod.fst) impl l))/\vE w w':=by
 have H0:=Aa h;obtain⟨L,hL,hrow⟩:=hF.row;have HL:=Aa hL;have yO:=Aa hrow;have HSTR:=Aa (DK.of_own hA);have hk:=Te w S vR vO vI vU vN LR LO LI LU names vA impl 3 h (DK.of_own hA) (by omega) hsz;obtain⟨aA,cA,rfl⟩:=An hA;have HQ:=Aa (show Jv (AB (LO.map oN) (LI.map iN) (LU.map uN)) (LI.map Prod.fst) impl l=(Ea (AB (LO.map oN) (LI.map iN) (LU.map uN)) 3 impl&&impl.all fun n=>(Ju (LI.map Prod.fst) n).all (Fc l))from rfl);generalize Jv (AB (LO.map oN) (LI.map iN) (LU.map uN)) (LI.map Prod.fst) impl l=FF at*;have HK3:=Aa (show Ea (AB (LO.map oN) (LI.map iN) (LU.map uN)) 3 impl=true->∀x∈impl,(AB (LO.map oN) (LI.map iN) (LU.map uN)) x=3 from fun hT x hx=>by
  unfold Ea at hT;rw[uL,uK]at hT;simpa using hT.2 x hx)
 have HCF:=Aa hcF;have HCA:=Aa hcA;clear h hF hA hsz hrow hL;cases hq:Ea (AB (LO.map oN) (LI.map iN) (LU.map uN)) 3 impl
 ·rw[hq]at hk HQ
  clear HK3 hq;go_enter func104,ntmps104;go_wp2_with fail;refine hk.mono ?_;clear hk;rintro e w1 ⟨rfl,hb1⟩;go_wp2_with fail;go_ret;exact⟨Ak (by rw[HQ.o];rfl),hb1⟩
 ·rw[hq]at hk HQ
  have HK3':=Aa (HK3.o hq);clear HK3 hq;go_enter func104,ntmps104;go_wp2_with fail;refine hk.mono ?_;clear hk;rintro e w1 ⟨rfl,hb1⟩;have hcA1:=Ah hb1 HCA.o;go_wp2_with fail;go_loopg [6,8,9,22,32,33,34] impl.length (fun m v6 v8 v9 v22 v32 v33 v34 wr=>∃k:Nat,v22=.int .i64 k/\k<=impl.length/\impl.length-k<=m/\vE w wr/\((impl.take k).all fun n=>(Ju (LI.map Prod.fst) n).all (Fc l))=true)
  case atStart=>exact⟨0,rfl,tU _,by omega,hb1,by simp⟩
  case round=>
   clear hb1 hcA1;obtain⟨wo,rfl⟩:∃wo:World,wo=wr:=⟨_,rfl⟩;obtain⟨k,rfl,hk,hm,hb,hall⟩:=hrel;have vX:=Aa hall;clear hall;by_cases hlt:k<impl.length
   ·have hx:=tN hlt
    obtain⟨a',cap',e1,_,h3⟩:=HSTR.o.below hb;cases e1;obtain⟨g,off,ha,h4⟩:∃g off,aA=some ⟨g,off,none⟩/\∀(j:Nat) (x:vD),impl[j]?=some x->wo.cell? ⟨g,off+j,none⟩=some (.string x):=by
     rcases h3 with e|e
     ·rw[e]at hlt;simp at hlt
     ·exact e
    subst ha;have hcell:=h4 k _ hx;have hk3:=HK3'.o _ (tO hx);have HX:=Aa hx;clear hx h4 h3;generalize impl[k]=y at*;have hsv:=H0.o.below hb;have hif:=RY wo S vR vO vI vU vN LR LO LI LU names y hsv;have hni:=UJ hk3;have hbd:=Hn (LI.map iN) y;obtain⟨j,hj⟩:∃j:Nat,Ae (LI.map iN) y=j:=⟨(Ae (LI.map iN) y).toNat,by omega⟩;have hjl:j<LI.length:=by rw[hj]at hbd;simp at hbd;omega
    have hxi:=tN hjl;obtain⟨gi,capi,hvi,hcc⟩:=hsv.i.cell (fun _=>rfl) j _ hxi;have hoki:=hsv.i.ok _ (tO hxi);rw[show AC vI 2 (Ae (LI.map iN) y)=.pointer (some ⟨gi,j*2,none⟩)from by unfold AC;rw[uB hni,hj,hvi];simp]at hif;have di1:wo.cell? ⟨gi,j*2+1,none⟩=some LI[j].2:=hcc 1 _ rfl;have HFI:=Aa (show Ju (LI.map Prod.fst) y=LI[j].1.fields from by
     unfold Ju;rw[show(LI.map Prod.fst).map As.name=LI.map iN from by rw[List.map_map];rfl,hj];simp only[uO];rw[uD,hxi];rfl)
    clear hcc hxi hni hk3 hj hbd;generalize LI[j]=z at*;obtain⟨⟨zn,zf⟩,zv⟩:=z;obtain⟨hzF,hzl⟩:=hoki;simp only[]at*;obtain⟨Lz,hLz,hrz⟩:=hzF.row;have hlz:Lz.length=zf.length:=by rw[<-hLz];simp
    obtain⟨az,cz,rfl⟩:=An hrz.own;have HLZ:=Aa hLz;have HRZ:=Aa hrz;have HXJ:=Aa (show((impl.take (k+1)).all fun n=>(Ju (LI.map Prod.fst) n).all (Fc l))=zf.all (Fc l)from by
     rw[uG,HX.o,List.all_append,vX.o];simp[HFI.o])
    clear hzF hLz hrz hsv;go_wp2_with fail;refine hif.mono ?_;clear hif;rintro e w2 ⟨rfl,hb2⟩;have di2:=Ah hb2 di1;have xF:vE w w2:=hb.trans (hb2.mono hb.size);go_wp2_with fail;go_loopg [8,9,34] Lz.length (fun m v8 v9 v34 wr=>∃i:Nat,v34=.int .i64 i/\i<=Lz.length/\Lz.length-i<=m/\vE wo wr/\((Lz.take i).all fun x=>Fc l x.1)=true)
    case atStart=>exact⟨0,rfl,tU _,by omega,hb2,by simp⟩
    case round=>
     obtain⟨i,rfl,hi,hmi,hbi,wO⟩:=hrel;have wP:=Aa wO;clear wO;have hbw2:vE w wr:=hb.trans (hbi.mono hb.size);clear hb2 xF di1 di2;by_cases hlti:i<Lz.length
     ·have hxz:=tN hlti
      obtain⟨gz,capz,hvz,hfz,htz⟩:=HRZ.o.fldAt i _ hxz;cases hvz;have hfz2:=hfz.below hbi;have htz2:=htz.stays (Ao.of_below hbi);have HXZ:=Aa hxz;clear hxz hfz htz;generalize Lz[i]=q at*;obtain⟨⟨qn,qa,qh,qx,qs,qt⟩,qu⟩:=q;simp only[]at*;obtain⟨kq,rfl⟩:=htz2.ptr;obtain⟨e0,e1,e2,e3,e4,e5⟩:=hfz2;simp only[]at*;have hFf:Ce (wr.alloc (.cells #[.string qn,.string qa,.string qh,.string qx,.string qs,.pointer (some ⟨kq,0,none⟩)] 248)) wr.heap.size 0 ⟨qn,qa,qh,qx,qs,qt⟩ (.pointer (some ⟨kq,0,none⟩)):=⟨by simp,by simp,by simp,by simp,by simp,by simp⟩;have hTf:=htz2.stays (Ao.alloc (.cells #[.string qn,.string qa,.string qh,.string qx,.string qs,.pointer (some ⟨kq,0,none⟩)] 248));have hbf:vE w (wr.alloc (.cells #[.string qn,.string qa,.string qh,.string qx,.string qs,.pointer (some ⟨kq,0,none⟩)] 248)):=hbw2.alloc hbw2.size _;have hbrf:vE wo (wr.alloc (.cells #[.string qn,.string qa,.string qh,.string qx,.string qs,.pointer (some ⟨kq,0,none⟩)] 248)):=hbi.alloc hbi.size _;have hrd:CT w vF 6 (l.map Al.name):=by rw[<-Ke L l HL.o];exact yO.o.rowed fN (fun _=>rfl) (fun _=>rfl)
      have HC1:=Aa (show∀W,Below (wr.alloc (.cells #[.string qn,.string qa,.string qh,.string qx,.string qs,.pointer (some ⟨kq,0,none⟩)] 248)).heap.size (wr.alloc (.cells #[.string qn,.string qa,.string qh,.string qx,.string qs,.pointer (some ⟨kq,0,none⟩)] 248)) W->Calls prog 108 #[.pointer (some ⟨gO,oO,none⟩),.string qn] W fun e w'=>e=.returned (AC vF 6 (Ae (l.map Al.name) qn))/\Below (wr.alloc (.cells #[.string qn,.string qa,.string qh,.string qx,.string qs,.pointer (some ⟨kq,0,none⟩)] 248)).heap.size (wr.alloc (.cells #[.string qn,.string qa,.string qh,.string qx,.string qs,.pointer (some ⟨kq,0,none⟩)] 248)) w' from fun W hW=>
       (Oj W gO oO vF qn (l.map Al.name) (Ah (hbf.trans (hW.mono hbf.size)) HCF.o) (hrd.below (hbf.trans (hW.mono hbf.size))) (by simp;omega)).mono (fun e w' ⟨a1,a2⟩=>⟨a1,hW.trans (a2.mono hW.size)⟩))
      have hspec:=rB w S vF L l HL.o yO.o ⟨qn,qa,qh,qx,qs,qt⟩;simp only[]at hspec;have HXI:=Aa (show((Lz.take (i+1)).all fun x=>Fc l x.1)=Fc l ⟨qn,qa,qh,qx,qs,qt⟩from by
       rw[uG,HXZ.o,List.all_append,wP.o];simp)
      have vQ:=Aa (show Fc l ⟨qn,qa,qh,qx,qs,qt⟩=false->FF=false from fun hF=>by
       rw[HQ.o,Bool.true_and,Bool.eq_false_iff];intro hT;rw[uK]at hT;have h1:=hT y (tO HX.o);rw[HFI.o,uK]at h1;have h2:=h1 ⟨qn,qa,qh,qx,qs,qt⟩ (by rw[<-HLZ.o];exact List.mem_map_of_mem (tO HXZ.o));rw[hF]at h2;cases h2)
      have HBF:=Aa hbf;have HBRF:=Aa hbrf;have HFf:=Aa hFf;have HTf:=Aa hTf;clear hbf hbrf hFf hTf hrd htz2;rcases hspec with⟨hp,hs⟩|⟨gg,og,gf,gu,hp,hgf,hgt,hs⟩
      ·rw[hp]at HC1
       have HE:=Aa (vQ.o hs);clear hp hs vQ HXI;go_wp2_with fail;go_region_with (go_at_call 108;refine(HC1.o _ ?_).mono ?_;(first|exact(tM _ _).drew|exact tM _ _);rintro e w3 ⟨rfl,hb3⟩);all_goals(
        go_wp2_with fail;go_ret;exact⟨Ak (by rw[HE.o]),HBF.o.trans (hb3.mono HBF.o.size)⟩)
      ·rw[hp]at HC1
       have HC2:=Aa (show∀W,Below (wr.alloc (.cells #[.string qn,.string qa,.string qh,.string qx,.string qs,.pointer (some ⟨kq,0,none⟩)] 248)).heap.size (wr.alloc (.cells #[.string qn,.string qa,.string qh,.string qx,.string qs,.pointer (some ⟨kq,0,none⟩)] 248)) W->Calls prog 149 #[.pointer (some ⟨wr.heap.size,0,none⟩),.pointer (some ⟨gg,og,none⟩)] W fun e w'=>e=.returned (.bool (Fc l ⟨qn,qa,qh,qx,qs,qt⟩))/\Below (wr.alloc (.cells #[.string qn,.string qa,.string qh,.string qx,.string qs,.pointer (some ⟨kq,0,none⟩)] 248)).heap.size (wr.alloc (.cells #[.string qn,.string qa,.string qh,.string qx,.string qs,.pointer (some ⟨kq,0,none⟩)] 248)) w' from fun W hW=>by
        rw[hs];exact(dR W wr.heap.size 0 gg og S S ⟨qn,qa,qh,qx,qs,qt⟩ gf _ gu (HFf.o.below hW) (hgf.below (HBF.o.trans (hW.mono HBF.o.size))) (HTf.o.stays (Ao.of_below hW)) (hgt.stays (Ao.of_below (HBF.o.trans (hW.mono HBF.o.size))))).mono (fun e w' ⟨a1,a2⟩=>⟨a1,hW.trans (a2.mono hW.size)⟩))
       clear hp hs hgf hgt;cases hsa:Fc l ⟨qn,qa,qh,qx,qs,qt⟩
       ·rw[hsa]at HC2
        have HE:=Aa (vQ.o hsa);clear hsa vQ HXI;go_wp2_with fail;go_region_with (go_at_call 108;refine(HC1.o _ ?_).mono ?_;(first|exact(tM _ _).drew|exact tM _ _);rintro e w3 ⟨rfl,hb3⟩);all_goals(
         go_wp2_with fail;refine(HC2.o w3 hb3).mono ?_;rintro e w4 ⟨rfl,hb4⟩;go_wp2_with fail;go_ret;exact⟨Ak (by rw[HE.o]),HBF.o.trans (hb4.mono HBF.o.size)⟩)
       ·rw[hsa]at HC2 HXI
        clear hsa vQ;go_wp2_with fail;go_region_with (go_at_call 108;refine(HC1.o _ ?_).mono ?_;(first|exact(tM _ _).drew|exact tM _ _);rintro e w3 ⟨rfl,hb3⟩);all_goals(
         go_wp2_with fail;refine(HC2.o w3 hb3).mono ?_;rintro e w4 ⟨rfl,hb4⟩;have hbn:=HBRF.o.trans (hb4.mono HBRF.o.size);clear hb3 hb4;go_wp2_with fail;go_roundg (Lz.length-(i+1))
         case measure=>omega
         case rel=>exact⟨i+1,by go_num,by omega,tL _,hbn,HXI.o⟩)
     ·have HXE:=Aa (show((impl.take (k+1)).all fun n=>(Ju (LI.map Prod.fst) n).all (Fc l))=true from by
       rw[HXJ.o,<-HLZ.o,List.all_map];have h1:=wP.o;rw[tW (by omega)]at h1;exact h1)
      go_wp2_with fail;go_roundg (impl.length-(k+1))
      case measure=>omega
      case rel=>exact⟨k+1,by go_num,by omega,tL _,hbw2,HXE.o⟩
   ·go_wp2_with fail
    go_ret;exact⟨Ak (by
     rw[HQ.o];have h1:=vX.o;rw[tW (by omega)]at h1;rw[h1];rfl),hb⟩
def Nv(roles:List vD)(l:List Al):Option (List Cq)->Bool
 |none=>true
 |some ls=>ls.all (EF roles l)
def FQ(roles:List vD)(kind:vD->Nat)(ifs:List As)(o:Ap):Bool:=DV roles kind o.fields&&(Jv kind ifs o.impl o.fields&&Nv roles o.fields o.rule)
theorem mA(w:World)(S:Nat)(vR vO vI vU vN:Value)(LR:List (At×Value))(LO:List (Ap×Value×Value×Value))(LI:List (As×Value))(LU:List (Au×Value))(names:List vD)(h:SV w S vR vO vI vU vN LR LO LI LU names)(hsz:∀x∈LO,(∀f∈x.1.fields,f.name.size<=4000)/\∀y∈x.1.impl,y.size<=4000):
 Calls prog 57 #[.pointer (some ⟨S,0,none⟩)] w fun e w'=>e=.returned (.bool (LO.all fun x=>FQ (LR.map rN) (AB (LO.map oN) (LI.map iN) (LU.map uN)) (LI.map Prod.fst) x.1))/\vE w w':=by
 have H0:=Aa h;have HSZ:=Aa hsz;have hlo:=h.lo;obtain⟨a,cap,hv⟩:=An h.o.own;subst hv;have c0:w.cell? ⟨S,1,none⟩=some (.slice a LO.length cap):=Ac h.sc 1;generalize hFF:(LO.all fun x=>FQ (LR.map rN) (AB (LO.map oN) (LI.map iN) (LU.map uN)) (LI.map Prod.fst) x.1)=FF at*;have HFF:=Aa hFF;clear h hsz hFF;go_enter func57,ntmps57;go_wp2_with fail;go_loopg [3,4,10] LO.length (fun m v3 v4 v10 wr=>∃k:Nat,v10=.int .i64 k/\k<=LO.length/\LO.length-k<=m/\vE w wr/\((LO.take k).all fun x=>FQ (LR.map rN) (AB (LO.map oN) (LI.map iN) (LU.map uN)) (LI.map Prod.fst) x.1)=true)
 case atStart=>exact⟨0,rfl,tU _,by omega,tM _ _,by simp⟩
 case round=>
  obtain⟨k,rfl,hk,hm,hb,hall⟩:=hrel;have vX:=Aa hall;clear hall;by_cases hlt:k<LO.length
  ·have hx:=tN hlt
   have hsv:=H0.o.below hb;have cS:wr.cell? ⟨S,1,none⟩=some (.slice a LO.length cap):=Ac hsv.sc 1;obtain⟨g,cap',hv,hcc⟩:=hsv.o.cell (fun _=>rfl) k _ hx;cases hv;have hok:=hsv.o.ok _ (tO hx);have c1:wr.cell? ⟨g,k*4+1,none⟩=some LO[k].2.1:=hcc 1 _ rfl;have c2:wr.cell? ⟨g,k*4+2,none⟩=some LO[k].2.2.1:=hcc 2 _ rfl;have c3:wr.cell? ⟨g,k*4+3,none⟩=some LO[k].2.2.2:=hcc 3 _ rfl;have hsz:=HSZ.o _ (tO hx);have HX:=Aa hx;clear hx hcc;generalize LO[k]=y at*;obtain⟨⟨yn,yf,yi,yr⟩,y1,y2,y3⟩:=y;obtain⟨hfl,hfn,hil,hin,hru⟩:=hok;simp only[]at*;have HXJ:=Aa (show((LO.take (k+1)).all fun x=>FQ (LR.map rN) (AB (LO.map oN) (LI.map iN) (LU.map uN)) (LI.map Prod.fst) x.1)=(DV (LR.map rN) (AB (LO.map oN) (LI.map iN) (LU.map uN)) yf&&(Jv (AB (LO.map oN) (LI.map iN) (LU.map uN)) (LI.map Prod.fst) yi yf&&Nv (LR.map rN) yf yr))from by
    rw[uG,HX.o,List.all_append,vX.o];simp[FQ])
   have vQ:=Aa (show(DV (LR.map rN) (AB (LO.map oN) (LI.map iN) (LU.map uN)) yf&&(Jv (AB (LO.map oN) (LI.map iN) (LU.map uN)) (LI.map Prod.fst) yi yf&&Nv (LR.map rN) yf yr))=false->FF=false from fun hF=>by
    rw[<-HFF.o,Bool.eq_false_iff];intro hT;rw[uK]at hT;have:=hT _ (tO HX.o);simp only[FQ]at this;rw[hF]at this;cases this)
   have h1:=Uc wr S _ _ _ _ _ LR LO LI LU names y1 S yf hsv hfl (by omega) hsz.1;have H2:=Aa (fun w' (hb':vE wr w')=>fB w' S _ _ _ _ _ LR LO LI LU names g (k*4) y1 y2 yf yi (hsv.below hb') (Ah hb' c1) (Ah hb' c2) (hfl.stays (Ao.of_below hb') (Ao.of_below hb')) (AT hil hb') hfn hin hsz.2);obtain⟨aF,cF,rfl⟩:=hfl.slice;generalize DV (LR.map rN) (AB (LO.map oN) (LI.map iN) (LU.map uN)) yf=q1 at*;generalize Jv (AB (LO.map oN) (LI.map iN) (LU.map uN)) (LI.map Prod.fst) yi yf=q2 at*;cases q1
   ·have HE:=Aa (vQ.o rfl)
    clear vQ HXJ hsv hfl hil hru H2;go_wp2_with fail;refine h1.mono ?_;clear h1;rintro e w1 ⟨rfl,hb1⟩;have hb01:=hb.trans (hb1.mono hb.size);go_wp2_with fail;go_ret;exact⟨Ak (by rw[HE.o]),hb01⟩
   ·cases q2
    ·have HE:=Aa (vQ.o rfl)
     clear vQ HXJ hsv hfl hil hru;go_wp2_with fail;refine h1.mono ?_;clear h1;rintro e w1 ⟨rfl,hb1⟩;have hb01:=hb.trans (hb1.mono hb.size);have r3:=Ah hb1 c3;go_wp2_with fail;refine(H2.o w1 hb1).mono ?_;rintro e w2 ⟨rfl,hb2⟩;have vW:=hb1.trans (hb2.mono hb1.size);have xF:=hb.trans (vW.mono hb.size);have r3':=Ah vW c3;go_wp2_with fail;go_ret;exact⟨Ak (by rw[HE.o]),xF⟩
    ·cases yr with
     |none=>
      have e3:y3=.pointer none:=hru;subst e3;have HXJ2:=Aa (HXJ.o.trans (by rfl:_=true));clear vQ HXJ hsv hfl hil hru;have HXJ:=HXJ2;clear HXJ2;go_wp2_with fail;refine h1.mono ?_;clear h1;rintro e w1 ⟨rfl,hb1⟩;have hb01:=hb.trans (hb1.mono hb.size);have r3:=Ah hb1 c3;go_wp2_with fail;refine(H2.o w1 hb1).mono ?_;rintro e w2 ⟨rfl,hb2⟩;have vW:=hb1.trans (hb2.mono hb1.size);have xF:=hb.trans (vW.mono hb.size);have r3':=Ah vW c3;go_wp2_with fail;go_roundg (LO.length-(k+1))
      case measure=>omega
      case rel=>exact⟨k+1,by go_num,by omega,tL _,xF,HXJ.o⟩
     |some ls=>
      have hru':JJ wr (fun k=>S<=k) y3 ls:=by rw[<-And.right hru];exact BC.leaves (And.left hru)
      obtain⟨kr,e3⟩:=BC.ptr (And.left hru);subst e3;have H3:=Aa (fun W (hW:vE wr W)=>qP wr S _ _ _ _ _ LR LO LI LU names g (k*4) S _ yf (fun k=>S<=k) hsv c1 hfl (by omega) _ ls hru' W hW);have HXJ2:=Aa (HXJ.o.trans (by simp[Nv]:_=ls.all (EF (LR.map rN) yf)));have HF2:=Aa (show ls.all (EF (LR.map rN) yf)=false->FF=false from fun hF=>vQ.o (by simp only[Nv,hF];rfl));clear vQ HXJ hsv hfl hil hru hru';generalize ls.all (EF (LR.map rN) yf)=q3 at*;have HXJ:=HXJ2;clear HXJ2;cases q3
      ·have HE:=Aa (HF2.o rfl)
       clear HF2 HXJ;go_wp2_with fail;refine h1.mono ?_;clear h1;rintro e w1 ⟨rfl,hb1⟩;have hb01:=hb.trans (hb1.mono hb.size);have r3:=Ah hb1 c3;go_wp2_with fail;refine(H2.o w1 hb1).mono ?_;rintro e w2 ⟨rfl,hb2⟩;have vW:=hb1.trans (hb2.mono hb1.size);have xF:=hb.trans (vW.mono hb.size);have r3':=Ah vW c3;go_wp2_with fail;refine(H3.o w2 vW).mono ?_;rintro e w3 ⟨rfl,hb3⟩;have hb03:=xF.trans (hb3.mono xF.size);go_wp2_with fail;go_ret;exact⟨Ak (by rw[HE.o]),hb03⟩
      ·clear HF2
       go_wp2_with fail;refine h1.mono ?_;clear h1;rintro e w1 ⟨rfl,hb1⟩;have hb01:=hb.trans (hb1.mono hb.size);have r3:=Ah hb1 c3;go_wp2_with fail;refine(H2.o w1 hb1).mono ?_;rintro e w2 ⟨rfl,hb2⟩;have vW:=hb1.trans (hb2.mono hb1.size);have xF:=hb.trans (vW.mono hb.size);have r3':=Ah vW c3;go_wp2_with fail;refine(H3.o w2 vW).mono ?_;rintro e w3 ⟨rfl,hb3⟩;have hb03:=xF.trans (hb3.mono xF.size);go_wp2_with fail;go_roundg (LO.length-(k+1))
       case measure=>omega
       case rel=>exact⟨k+1,by go_num,by omega,tL _,hb03,HXJ.o⟩
  ·go_wp2_with fail
   go_ret;exact⟨Ak (by
    rw[<-HFF.o];have h1:=vX.o;rw[tW (by omega)]at h1;exact h1.symm),hb⟩
end Go.Proofs.YtadneapobijejaaGreatDoor
