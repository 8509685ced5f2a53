import Derived.Test.YtgbloieahmkcjaaGreatC36
import Derived.Test.YtgbloieahmkcjaaGreatC31
namespace Go.Proofs.YtgbloieahmkcjaaGreat
set_option maxHeartbeats 20000000
set_option maxRecDepth 100000
open Go.RowKit Tryz
theorem yT{Lu:List aj}(hK:∀r∈Lu,∀y∈r.LA,y∈Lu.map aj.name)(i j:Nat):(dV Lu (2*Lu.length+1) ([i],List.replicate Lu.length false)).getD j false=true↔∃k,Reach (jl Lu) i k/\jl Lu k j:=by
 have hin:∀i,∀y∈kx Lu i,(ah (Lu.map aj.name) y).toNat<Lu.length:=by
  intro i y hy;cases hr:Lu[i]? with
  |none=>unfold kx at hy;rw[hr]at hy;simp at hy
  |some r=>
   rw[pC Lu i r hr]at hy;obtain⟨k,rc,h1,h2,h3,h4⟩:=j3 aj.name Lu y ((iT _ _).2 (hK r (KN hr) y hy));rw[h1,Lk];exact h4
 have hfr:∀j,(List.replicate Lu.length false).getD j false=false:=by
  intro j;rw[List.getD_eq_getElem?_getD,List.getElem?_replicate];split<;>rfl
 refine wD Lu i hin _ _ ?_ (by simp) ?_ ?_ ?_ j
 ·unfold fe pr
  simp[List.countP_replicate]
 ·intro j hj
  rw[hfr j]at hj;cases hj
 ·intro j hj
  simp at hj;subst hj;exact Reach.refl _
 ·intro k hk
  rcases hk with e|e
  ·left;simp[e]
  ·rw[hfr k]at e;cases e
theorem y6:∀(ns:List Ls) (F:List Bool) (y:Ls),y∈ma (ns.zip F)↔∃j,ns[j]?=some y/\F.getD j false=true
 |[],F,y=>by simp[ma]
 |n::ns,[],y=>by simp[ma]
 |n::ns,b::F,y=>by
  have ih:=y6 ns F y;have e:y∈ma ((n::ns).zip (b::F))↔(b=true/\y=n)\/y∈ma (ns.zip F):=by
   unfold ma;rw[List.zip_cons_cons,List.filter_cons];cases b<;>simp
  rw[e,ih];constructor
  ·rintro(⟨h1,h2⟩|⟨j,h1,h2⟩)
   ·exact⟨0,by rw[h2];rfl,h1⟩
   ·exact⟨j+1,by simpa using h1,by simpa using h2⟩
  ·rintro⟨j,h1,h2⟩
   cases j with
   |zero=>left;simp at h1 h2;exact⟨h2,h1.symm⟩
   |succ j=>right;exact⟨j,by simpa using h1,by simpa using h2⟩
theorem BQ{Lu:List aj}(hok:rX Lu){LK:Ls}(hr:¬ah (Lu.map aj.name) LK<0)(y:Ls):ba y (fW Lu LK)=ba y (iE Lu LK):=by
 have hK:∀r∈Lu,∀y∈r.LA,y∈Lu.map aj.name:=fun r h y hy=>(hok.i r h y hy).1;obtain⟨i,r,e1,e2,e3,e4⟩:=j3 aj.name Lu LK hr;rw[Bool.eq_iff_iff,ii,ii,vg];unfold fW;rw[K8 hr,List.mem_cons,y6,e1,Lk];constructor
 ·rintro(e|⟨j,h1,h2⟩)
  ·rw[e];exact Reach.refl _
  ·obtain⟨k,h3,h4⟩:=(yT hK i j).1 h2
   obtain⟨r',h5,h6⟩:=CE Lu hok.n hK e2 (Reach.step h3 h4);rw[La,h5]at h1;cases h1;rw[e3]at h6;exact h6
 ·intro h
  cases h with
  |refl=>left;rfl
  | @step b _ hb he=>
    right;have hm:LK∈Lu.map aj.name:=(iT _ _).1 hr;obtain⟨q1,q2⟩:=vh Lu hK hm (Reach.step hb he);obtain⟨q3,q4⟩:=vh Lu hK hm hb;obtain⟨kb,rb,h1,h2,h3,_⟩:=j3 aj.name Lu b ((iT _ _).2 q3);obtain⟨ky,ry,g1,g2,g3,_⟩:=j3 aj.name Lu y ((iT _ _).2 q1);refine⟨ky,by rw[La,g2,<-g3];rfl,(yT hK i ky).2 ⟨kb,?_,y,?_,?_⟩⟩
    ·rw[e1,h1,Lk,Lk]at q4;exact q4
    ·rw[pC Lu kb rb h2,<-vr Lu kb rb b h1 h2];exact he
    ·rw[g1,Lk]
theorem Bf{Lu:List aj}{LK:Ls}:fW Lu LK=[]↔ah (Lu.map aj.name) LK<0:=by
 unfold fW;split<;>simp_all
theorem Ar{Lu:List aj}(hok:rX Lu){LK:Ls}(hr:¬ah (Lu.map aj.name) LK<0)(y:Ls):jd (fW Lu LK) y=ic Lu LK y:=by
 unfold jd ic;rw[BQ hok hr]
theorem Iy{Lu:List aj}(hok:rX Lu){LK:Ls}(hr:¬ah (Lu.map aj.name) LK<0)(LS:List ax)(n:Ls):o9 (fW Lu LK) LS n=mN Lu LK (LS.map dg) n:=by
 have e:(LS.map dg).map bj.name=LS.map ax.name:=by rw[List.map_map];rfl
 unfold o9 mN;rw[e,La];cases LS[(ah (LS.map ax.name) n).toNat]? with
 |none=>rfl
 |some f=>show qB _ _=_;unfold qB;rw[Ar hok hr,Ar hok hr];rfl
theorem CW(c:b9)(s:St)(hw:jc s)(hc:∀n∈c.names,jF n)(hs:(bX c s).2≠none):∀n∈(bX c s).1.names,jF n:=by
 have w1:=(dY s).wd hw;have key:ab (ab s)≠none->∀n∈c.names++[nm (ab s)],jF n:=fun h n hn=>by
  rcases List.mem_append.1 hn with e|e
  ·exact hc n e
  ·rw[List.mem_singleton]at e;rw[e];exact zd _ w1 h
 unfold bX at hs⊢;by_cases e1:nm s=oe
 ·rw[K9 e1]at hs⊢;exact hc
 ·rw[K8 e1]at hs⊢
  by_cases e2:nm s=oG
  ·rw[K9 e2]at hs⊢
   dsimp only at hs⊢;have hpo:(cn (ab s)).2=(dC (ey (dH (ab (ab s))).2).2).2:=by unfold cn;dsimp only
   rw[hpo]at hs;exact key (nw (qN _) (nw (ss _) (nw (oz _) hs)))
  ·rw[K8 e2]at hs⊢
   by_cases e3:nm s=pF
   ·rw[K9 e3]at hs⊢
    exact key (nw (oz _) hs)
   ·rw[K8 e3]at hs⊢
    by_cases e4:nm s=pA
    ·rw[K9 e4]at hs⊢
     exact key (nw (C5 _) hs)
    ·rw[K8 e4]at hs
     exact absurd rfl hs
theorem Cn:∀(f:Nat) (c:b9) (s:St),jc s->(s≠none->∀n∈c.names,jF n)->(gH f c s).2≠none->∀n∈(gH f c s).1.names,jF n
 |0,c,s,_,hc,hs=>hc hs
 |f+1,c,s,hw,hc,hs=>by
  rw[gH]at hs⊢;by_cases ha:eu s=true
  ·rw[K9 ha]at hs⊢;exact hc hs
  ·rw[K8 ha]at hs⊢
   have h0:s≠none:=by intro e;rw[e]at ha;exact ha rfl
   exact Cn f _ _ (((sK c s).trans (dY s)).wd hw) (fun hn=>CW c s hw (hc h0) hn) hs
theorem GH(x:Ls)(h:jW (cc (av x)).2=true):∀n∈(cc (av x)).1.names,jF n:=by
 have hn:(cc (av x)).2≠none:=fun e=>by rw[e]at h;simp[jW]at h
 have hw:=p8 x;unfold cc at hn⊢;exact Cn 801 _ _ (((sK d8 _).trans (dY _)).wd hw) (fun hn=>CW d8 _ hw (fun n hn=>by simp[d8]at hn) hn) hn
theorem Cf(n:Int)(s c:Ls):kD (cW (1,n,s)).1 c=decide (c=j9):=by
 show kD 1 c=_;unfold kD;rw[K9 rfl,bV];rfl
theorem zX(n:Int)(s c:Ls):kD (cW (2,n,s)).1 c=(decide (c=oS)||decide (c=lB)):=by
 show kD 2 c=_;unfold kD;rw[K8 (by decide),K9 rfl,bV,bV];rfl
theorem Az(n:Int)(s c:Ls):kD (cW (3,n,s)).1 c=decide (c=nx):=by
 have:(cW (3,n,s)).1=3\/(cW (3,n,s)).1=4:=by unfold cW;simp only[if_true];split<;>simp
 unfold kD;rcases this with e|e<;>rw[e,K8 (by decide),K8 (by decide),K9 (by decide),bV]<;>rfl
theorem vB(R R':Ls->Ls->Bool)(hsc:∀c s,co c=true->R c s=false)(hE:∀s,R ⟨#[]⟩ s=false):∀(ty:dh),(∀s,co (bN ty)=false->R (bN ty) s=R' (bN ty) s)->∀(m:Nat) (r:RV),kA m r->eD R ty r=fk R' ty r
 | .one c st,hR,m,.mk sh n s l,ho=>by
   have h6:=ho.one.1;rw[eD,fk];have hsb:co c=(decide (c=j9)||decide (c=oS)||decide (c=nx)||decide (c=lB)):=rfl;have n1:j9≠oS:=by decide
   have n2:j9≠lB:=by decide
   have n3:j9≠nx:=by decide
   have n4:oS≠nx:=by decide
   have n5:lB≠nx:=by decide
   have hR':=hR s;have hS':=hsc c s;rw[show bN (.one c st)=c from rfl]at hR';have:sh=0\/sh=1\/sh=2\/sh=3\/sh=4\/sh=5\/sh=6:=by omega
   rcases this with e|e|e|e|e|e|e<;>subst e
   ·simp
   ·rw[Cf];by_cases q:c=j9
    ·simp[q]
    ·simp[q]
   ·rw[zX];by_cases q:c=j9
    ·simp[q,n1,n2]
    ·simp[q]
   ·rw[Az];by_cases q:c=nx
    ·simp[q,n3.symm,n4.symm,n5.symm]
    ·simp[q]
   ·by_cases hs:co c=true
    ·rw[hS' hs]
     rw[hsb]at hs;simp only[Bool.or_eq_true,Lc]at hs;rcases hs with((e|e)|e)|e<;>simp[e]
    ·rw[Bool.not_eq_true]at hs
     rw[hR' hs];rw[hsb]at hs;simp only[Bool.or_eq_false_iff,decide_eq_false_iff_not]at hs;obtain⟨⟨⟨a1,a2⟩,a3⟩,a4⟩:=hs;simp[a1,a2,a3,a4]
   ·simp
   ·simp
 | .list t st,hR,m,.mk sh n s l,ho=>by
   obtain⟨h6, -, -,hl⟩:=ho.one;have ih:l.all (eD R t)=l.all (fk R' t):=by
    rw[Bool.eq_iff_iff,Lh,Lh];constructor
    ·intro h r hr;rw[<-vB R R' hsc hE t hR (m-1) r (hl r hr)];exact h r hr
    ·intro h r hr;rw[vB R R' hsc hE t hR (m-1) r (hl r hr)];exact h r hr
   have n1:(⟨#[]⟩:Ls)≠j9:=by decide
   have n2:(⟨#[]⟩:Ls)≠oS:=by decide
   have n3:(⟨#[]⟩:Ls)≠lB:=by decide
   have n4:(⟨#[]⟩:Ls)≠nx:=by decide
   rw[eD,fk,ih,hE];have:sh=0\/sh=1\/sh=2\/sh=3\/sh=4\/sh=5\/sh=6:=by omega
   rcases this with e|e|e|e|e|e|e<;>subst e
   ·simp
   ·rw[Cf];simp[n1]
   ·rw[zX];simp[n2,n3]
   ·rw[Az];simp[n4]
   ·simp
   ·simp
   ·simp
structure i8(c:b9)(d:eG)(M:List PD):Prop where
 o:c.Lx=M.filterMap PD.isO
 i:c.ifs=M.filterMap PD.isI
 u:c.uns=M.filterMap PD.isU
 f:F2 fG d.Lv M
 n:(M.map PD.name).Nodup
 s:∀m∈M,co m.name=false
 w:∀m∈M,jF m.name
theorem AV(x:Ls)(h:iw x=0):∃M,i8 (cc (av x)).1 (cE (av x)).1 M/\(cE (av x)).1.Lu=(cc (av x)).1.Lu:=by
 have hr:=ro x h;have hd:jW (cc (av x)).2=true:=by
  unfold iw at h;split at h
  ·assumption
  ·cases h
 have hS:=(r8 (av x) (ph x) (p8 x)).2 hd;have hnm:=GH x hd;obtain⟨M,m1,m2,m3,m4,m5⟩:=hS.ex;unfold jz mB at hr;simp only[Li]at hr;obtain⟨-,⟨h1,h2⟩, -⟩:=hr;rw[m4]at h1 h2 hnm;rw[kR]at h2;rw[Lh]at h1;refine⟨M,⟨m1,m2,m3,m5,h2,fun m hm=>?_,fun m hm=>hnm _ (List.mem_map_of_mem hm)⟩,hS.Lu⟩;have:=h1 _ (List.mem_map_of_mem hm);simpa using this
section
variable {c:b9} {d:eG} {M:List PD}
theorem i8.kind(h:i8 c d M):aZ (c.Lx.map aH.name) (c.ifs.map bC.name) (c.uns.map bB.name)=dF M:=by rw[h.o,h.i,h.u];rfl
theorem i8.obj(h:i8 c d M)(x:Ls)(hx:0<=ah (c.Lx.map aH.name) x):∃(o:aH) (k:Nat) (t:ap),c.Lx[(ah (c.Lx.map aH.name) x).toNat]?=some o/\o.name=x/\PD.o o∈M/\o∈c.Lx/\ah (d.Lv.map ap.name) x=k/\d.Lv[k]?=some t/\fG t (.o o):=by
 obtain⟨j,o,h1,h2,h3,_⟩:=j3 aH.name c.Lx x (by omega);have hm:=KN h2;have ho:PD.o o∈M:=by
  have:=hm;rw[h.o]at this;obtain⟨m,hm2,hq⟩:=List.mem_filterMap.1 this;cases m with
  |o z=>simp[PD.isO]at hq;subst hq;exact hm2
  |i z=>cases hq
  |u z=>cases hq
 rcases qE d.Lv M h.f x with⟨_,hn⟩|⟨k,t,m,g1,g2,g3,g4,g5⟩
 ·exact absurd (List.mem_map.2 ⟨_,ho,h3⟩) hn
 ·have:=mj M h.n g3 ho (g5.trans h3.symm)
  subst this;exact⟨o,k,t,by rw[h1,Lk,h2],h3,ho,hm,g1,g2,g4⟩
theorem i8.notObj(h:i8 c d M)(x:Ls)(hx:ah (c.Lx.map aH.name) x<0):ah (d.Lv.map ap.name) x<0\/∃(k:Nat) (t:ap),ah (d.Lv.map ap.name) x=k/\d.Lv[k]?=some t/\t.sort≠0:=by
 rcases qE d.Lv M h.f x with⟨hn,_⟩|⟨k,t,m,g1,g2,g3,g4,g5⟩
 ·exact Or.inl hn
 ·refine Or.inr ⟨k,t,g1,g2,?_⟩
  cases m with
  |o o=>
   have:=(wV M h.n o g3).1;rw[<-h.o,show o.name=x from g5]at this;exact absurd hx this
  |i z=>rw[g4.1];exact Nat.one_ne_zero
  |u z=>rw[show t=_ from g4];exact Nat.succ_ne_zero 1
theorem IN(M:List PD)(hn:(M.map PD.name).Nodup)(y:bB)(hm:PD.u y∈M)(n:Ls):mg (M.filterMap PD.isU) y.name n=ba n y.LB:=by
 unfold mg;have h0:=(iT _ _).2 ((qj M y.name).2 ⟨y,hm,rfl⟩);rw[K8 h0];obtain⟨k,a,h1,h2,h3,_⟩:=j3 bB.name (M.filterMap PD.isU) y.name h0;rw[h1,Lk,h2];obtain⟨m,hm2,hq⟩:=List.mem_filterMap.1 (KN h2);cases m with
 |u z=>
  simp[PD.isU]at hq;subst hq;have:=mj M hn hm hm2 h3.symm;cases this;rfl
 |o z=>cases hq
 |i z=>cases hq
theorem AY(M:List PD)(hn:(M.map PD.name).Nodup)(m:PD)(hm:m∈M)(hu:∀z,m≠.u z)(n:Ls):mg (M.filterMap PD.isU) m.name n=false:=by
 unfold mg;rw[K9];refine Classical.byContradiction fun h=>?_;obtain⟨z,h1,h2⟩:=(qj M _).1 ((iT _ _).1 h);exact hu z (mj M hn hm h1 h2.symm)
theorem i8.of(h:i8 c d M)(hI:∀o∈c.Lx,∀a∈o.LE,dF M a=3){o:aH}{k k':Nat}{t t':ap}{m:PD}(ho:PD.o o∈M)(hoc:o∈c.Lx)(e1:ah (d.Lv.map ap.name) o.name=k)(_e2:d.Lv[k]?=some t)(e3:fG t (.o o))(hm:m∈M)(e4:ah (d.Lv.map ap.name) m.name=k')(_e5:d.Lv[k']?=some t')(e6:fG t' m):
 om o c.uns m.name=l9 t t' k k':=by
 have hk:=uo M h.n m hm (h.s m hm);have himp:m.kind≠3->ba m.name o.LE=false:=fun hne=>by
  rw[Bool.eq_false_iff];intro hb;have:=hI o hoc _ ((ii _ _).1 hb);rw[hk]at this;exact hne this
 have hname:∀z:PD,m=z->(∀q,z≠.o q)->decide (o.name=m.name)=false:=fun z hz hq=>by
  rw[decide_eq_false_iff_not];intro e;exact hq o (hz▸(mj M h.n ho hm e).symm)
 unfold om l9;rw[bY,h.u];cases m with
 |o o'=>
  rw[AY M h.n _ hm (fun z e=>by cases e) o.name,himp (show(2:Nat)≠3 by decide),e6.1];simp only[Nat.zero_ne_one,if_false,Bool.or_false];rw[K8 (by decide)];by_cases q:o.name=o'.name
  ·have:k=k':=by
    have e:=e1;rw[q]at e;have:=e.symm.trans e4;omega
   simp[PD.name,q,this]
  ·have:k≠k':=fun e=>by
    obtain⟨j1,a1,p1,p2,p3,_⟩:=j3 ap.name d.Lv o.name (by omega);obtain⟨j2,a2,q1,q2,q3,_⟩:=j3 ap.name d.Lv o'.name (by have:ah (d.Lv.map ap.name) o'.name=k':=e4;omega);have w1:j1=k:=by omega
    have w2:j2=k':=by have:ah (d.Lv.map ap.name) o'.name=k':=e4;omega
    rw[w1]at p2;rw[w2,<-e,p2]at q2;cases q2;exact q (p3.symm.trans q3)
   simp[PD.name,q,this]
 |i z=>
  rw[AY M h.n _ hm (fun z e=>by cases e) o.name,hname _ rfl (fun q e=>by cases e),e6.1,e3.2.2.2.1];simp[PD.name]
 |u z=>
  rw[hname _ rfl (fun q e=>by cases e),himp (show(4:Nat)≠3 by decide),show mg (M.filterMap PD.isU) (PD.u z).name o.name=_ from IN M h.n z hm o.name,show t'=_ from e6,e3.2.1];simp
end
section
variable {c:b9} {d:eG} {M:List PD}
theorem Je(h:i8 c d M)(hI:∀o∈c.Lx,∀a∈o.LE,dF M a=3)(ys:List bo)(hys:∀y∈ys,0<=ah (c.Lx.map aH.name) y.1)(n id:Ls)(hn:n∈M.map PD.name):
 gK c.Lx (c.ifs.map bC.name) (c.uns.map bB.name) c.uns (ys.map (qz (c.Lx.map aH.name))) n id=fH d.Lv (ys.map (bO d.Lv)) n id:=by
 obtain⟨m0,hm0,hmn⟩:=List.mem_map.1 hn;have hk:=uo M h.n m0 hm0 (h.s m0 hm0);rw[hmn]at hk;rcases qE d.Lv M h.f n with⟨_,q⟩|⟨k',t',m,g1,g2,g3,g4,g5⟩
 ·exact absurd hn q
 unfold gK fH;rw[h.kind,hk,K8 (by cases m0<;>simp[PD.kind])];have i1:(ys.map (qz (c.Lx.map aH.name))).map bD.id=ys.map (fun y=>y.2.1):=by rw[List.map_map];rfl
 have i2:(ys.map (bO d.Lv)).map cy.id=ys.map (fun y=>y.2.1):=by rw[List.map_map];rfl
 rw[i1,i2];split
 ·rfl
 ·rw[La,La]
  rcases hj:ys[(ah (ys.map (fun y=>y.2.1)) id).toNat]? with _|y<;>rw[hj]
  ·rfl
  ·obtain⟨o,k,t,e1,e2,e3,e4,e5,e6,e7⟩:=h.obj y.1 (hys y (KN hj))
   simp only[Option.map_some];have hd:(bO d.Lv y).d=k:=by show(ah (d.Lv.map ap.name) y.1).toNat=k;rw[e5];rfl
   have hq:(qz (c.Lx.map aH.name) y).k=(ah (c.Lx.map aH.name) y.1).toNat:=rfl;rw[hq,e1,hd,e6,g1,Lk,g2];simp only;rw[bV,e7.2.1,<-g5];have:=h.of hI e3 e4 (by rw[e2];exact e5) e6 e7 g3 (by rw[g5];exact g1) g2 g4;rw[this];rfl
def oM(c:b9)(y:bo):Bool:=match c.Lx[(ah (c.Lx.map aH.name) y.1).toNat]? with
 |some o=>ly (o.fields.map dg) [] y.2.2
 |none=>false
theorem Jt(h:i8 c d M)(y:bo):il d.Lv y=(decide (0<=ah (c.Lx.map aH.name) y.1)&&(nt y.1 y.2.1&&oM c y)):=by
 by_cases hx:0<=ah (c.Lx.map aH.name) y.1
 ·obtain⟨o,k,t,e1,e2,e3,e4,e5,e6,e7⟩:=h.obj y.1 hx
  rw[uS e5 e6,e7.1,e7.2.2.1];unfold oM;rw[e1];simp[hx]
 ·rw[KT hx,Bool.false_and]
  rcases h.notObj y.1 (by omega)with e|⟨k,t,e1,e2,e3⟩
  ·exact yB e
  ·rw[uS e1 e2,KT e3,Bool.false_and]
theorem zz(h:i8 c d M):∀(ys:List bo) (acc:List cy) (acc':List bD),acc.map cy.id=acc'.map bD.id->lz d.Lv acc ys=(ke (c.Lx.map aH.name) acc' ys&&ys.all (oM c))
 |[],_,_,_=>rfl
 |y::ys,acc,acc',he=>by
  rw[lz,ke,List.all_cons,zz h ys _ (acc'++[qz (c.Lx.map aH.name) y]) (by rw[Lr,Lr,he];rfl),Jt h,he];unfold nH;generalize decide (0<=ah (c.Lx.map aH.name) y.1)=a;generalize nt y.1 y.2.1=b;generalize oM c y=e;generalize decide (ah (acc'.map bD.id) y.2.1<0)=f;generalize ke _ _ ys=g;generalize ys.all (oM c)=i;cases a<;>cases b<;>cases e<;>cases f<;>cases g<;>cases i<;>rfl
def xg(R:Ls->Ls->Bool)(LS:List ax)(x:dd):Bool:=match LS[(ah (LS.map ax.name) x.1).toNat]? with
 |some f=>eD R f.ty (du x.2)
 |none=>false
theorem CP(R:Ls->Ls->Bool)(LS:List ax):∀(cs:List dd) (ns:List Ls),nW R LS ns cs=(ly (LS.map dg) ns cs&&cs.all (xg R LS))
 |[],_=>rfl
 |x::cs,ns=>by
  rw[nW,ly,List.all_cons,CP R LS cs];have e:(LS.map dg).map bj.name=LS.map ax.name:=by rw[List.map_map];rfl
  have hm:decide (ah ns x.1<0)=!ba x.1 ns:=by
   rw[Bool.eq_iff_iff,Lc,Bool.not_eq_true',Bool.eq_false_iff,ne_eq,ii,<-iT];exact Classical.not_not.symm
  unfold nT ql xy xg;rw[e,La,hm];cases LS[(ah (LS.map ax.name) x.1).toNat]? with
  |none=>simp
  |some f=>
   simp only[Option.map_some];rw[show(dg f).arg=f.arg from rfl];generalize decide (0<=ah (LS.map ax.name) x.1)=a;generalize decide (f.arg=ik)=b;generalize ba x.1 ns=g;generalize jV x.2=i;generalize eD R f.ty (du x.2)=j;generalize ly (LS.map dg) (ns++[x.1]) cs=k;generalize cs.all _=l;cases a<;>cases b<;>cases g<;>cases i<;>cases j<;>cases k<;>cases l<;>rfl
theorem zO(h:i8 c d M)(R:Ls->Ls->Bool)(L:List cy)(hf:∀o∈c.Lx,∀f∈o.fields,∀r,kA 1603 r->eD R f.ty r=fk (fH d.Lv L) f.ty r)(y:bo)(hx:0<=ah (c.Lx.map aH.name) y.1):
 kZ R c.Lx y=(oM c y&&fitRow d.Lv L (bO d.Lv y)):=by
 obtain⟨o,k,t,e1,e2,e3,e4,e5,e6,e7⟩:=h.obj y.1 hx;have hd:(bO d.Lv y).d=k:=by show(ah (d.Lv.map ap.name) y.1).toNat=k;rw[e5];rfl
 unfold kZ oM fitRow;rw[e1,hd,e6];simp only;rw[CP];congr 1;have hz:(bO d.Lv y).names.zip (bO d.Lv y).vals=y.2.2.map (fun c=>(c.1,du c.2)):=by
  show(y.2.2.map (·.1)).zip (y.2.2.map (fun c=>du c.2))=_;generalize y.2.2=l
  induction l with
  |nil=>rfl
  |cons a l ih=>rw[List.map_cons,List.map_cons,List.map_cons,List.zip_cons_cons,ih]
 rw[hz,List.all_map];congr 1;funext x;have e:(o.fields.map dg).map bj.name=o.fields.map ax.name:=by rw[List.map_map];rfl
 unfold xg;simp only[Function.comp];unfold MZ;rw[e7.2.2.1,e,La];rcases hj:o.fields[(ah (o.fields.map ax.name) x.1).toNat]? with _|f
 ·rfl
 ·have hm:=KN hj
  simp only[Option.map_some];rw[show(dg f).ty=ci f.ty from rfl,Bp _ (e7.2.2.2.2.2.2 f hm).ty];exact hf o e4 f hm _ (zI x.2)
theorem E0(h:i8 c d M)(hI:∀o∈c.Lx,∀a∈o.LE,dF M a=3)(hT:∀o∈c.Lx,∀f∈o.fields,co (bN f.ty)=true\/bN f.ty∈M.map PD.name)(ys:List bo):kO c ys=storeOk d.Lv ys:=by
 unfold kO lT storeOk;congr 1;rw[zz h ys [] [] rfl];cases ha:ke (c.Lx.map aH.name) [] ys
 ·simp
 ·have hys:=r7 _ _ _ ha
  simp only[Bool.true_and];rw[List.all_map,<-A4];have hsc:∀n s,dF M n<=1->gK c.Lx (c.ifs.map bC.name) (c.uns.map bB.name) c.uns (ys.map (qz (c.Lx.map aH.name))) n s=false:=fun n s hn=>by
   unfold gK;rw[h.kind,K9 hn]
  have hf:∀o∈c.Lx,∀f∈o.fields,∀r,kA 1603 r->eD (gK c.Lx (c.ifs.map bC.name) (c.uns.map bB.name) c.uns (ys.map (qz (c.Lx.map aH.name)))) f.ty r=fk (fH d.Lv (ys.map (bO d.Lv))) f.ty r:=fun o ho f hfm r hr=>
   vB _ _ (fun n s hn=>hsc n s (by unfold dF aZ;rw[K9 hn];exact KK 1))
    (fun s=>hsc _ s (wt M _ (fun hm=>by
     obtain⟨m,hm1,hm2⟩:=List.mem_map.1 hm;have:=(h.w m hm1).1;rw[hm2]at this;exact absurd this (by decide))))
    f.ty (fun s hs=>Je h hI ys hys _ s ((hT o ho f hfm).resolve_left (by rw[hs];simp))) 1603 r hr
  rw[Bool.eq_iff_iff,Lh,Lh];constructor
  ·intro hh y hy;have:=hh y hy;rw[zO h _ _ hf y (hys y hy)]at this;exact this
  ·intro hh y hy;rw[zO h _ _ hf y (hys y hy)];exact hh y hy
end
def ng(v:Nat×Int×Ls):Prop:=v.1<=6/\(v.1=3->(v.2.1=0\/v.2.1=1)/\v.2.2=⟨#[]⟩)
theorem Bj{a b:Nat×Int×Ls}(ha:ng a)(hb:ng b):cW a=cW b↔a=b:=by
 refine⟨fun h=>?_,fun h=>by rw[h]⟩;obtain⟨k,n,s⟩:=a;obtain⟨k',n',s'⟩:=b;obtain⟨h1,h2⟩:=ha;obtain⟨g1,g2⟩:=hb;dsimp only at h1 h2 g1 g2;have q1:k=0\/k=1\/k=2\/k=3\/k=4\/k=5\/k=6:=by omega
 have q2:k'=0\/k'=1\/k'=2\/k'=3\/k'=4\/k'=5\/k'=6:=by omega
 rcases q1 with e|e|e|e|e|e|e<;>rcases q2 with e'|e'|e'|e'|e'|e'|e'<;>subst e<;>subst e'<;>simp[cW]at h⊢;all_goals first
  |exact h
  |(exfalso;revert h;split<;>simp;done)
  |skip
 obtain⟨p1,p2⟩:=h2 rfl;obtain⟨r1,r2⟩:=g2 rfl;rw[p2,r2];rcases p1 with e|e<;>rcases r1 with e'|e'<;>subst e<;>subst e'<;>simp at h⊢
theorem FU{a:Nat×Int×Ls}(ha:ng a):(cW a).1≠5:=by
 obtain⟨k,n,s⟩:=a;have h1:=ha.1;dsimp only at h1;have q1:k=0\/k=1\/k=2\/k=3\/k=4\/k=5\/k=6:=by omega
 rcases q1 with e|e|e|e|e|e|e<;>subst e<;>simp[cW];split<;>simp
theorem yO(s:St):ng ((br s).sh,(br s).n,(br s).s):=by
 unfold br;repeat' split
 all_goals(refine⟨by simp[jE],fun h=>?_⟩;first|(simp[jE]at h;done)|simp)
theorem Ik(x:Ls):ng (nS (du x)):=by
 unfold du;rw[bz];split
 ·exact yO _
 ·split
  ·exact⟨by show 6<=6;decide,fun h=>by simp[nS]at h⟩
  ·split
   ·exact⟨by show 4<=6;decide,fun h=>by simp[nS]at h⟩
   ·exact⟨by show 5<=6;decide,fun h=>by simp[nS]at h⟩
theorem GM:ng (0,0,⟨#[]⟩):=⟨by decide,fun h=>by simp at h⟩
theorem Iq(r:RV):rE (pv r)=cW (nS r):=by
 obtain⟨sh,n,s,l⟩:=r;rw[xD];rfl
theorem BF(x:Ls):∀(l:List dd) (n:Nat),(dK (l.map Prod.fst) x n= -1/\kE (l.map (·.1)) (l.map (fun c=>du c.2)) x=(0,0,⟨#[]⟩))\/∃(k:Nat) (c:dd),dK (l.map Prod.fst) x n=((n+k:Nat):Int)/\l[k]?=some c/\kE (l.map (·.1)) (l.map (fun c=>du c.2)) x=nS (du c.2)
 |[],n=>Or.inl ⟨rfl,by simp[kE]⟩
 |c::l,n=>by
  rw[List.map_cons,dK,List.map_cons,kE];by_cases e:c.1=x
  ·rw[K9 e,K9 e]
   exact Or.inr ⟨0,c,rfl,rfl,rfl⟩
  ·rw[K8 e,K8 e]
   rcases BF x l (n+1)with h|⟨k,c',h1,h2,h3⟩
   ·exact Or.inl h
   ·exact Or.inr ⟨k+1,c',by rw[h1];congr 1;omega,by simpa using h2,h3⟩
theorem GA(l:List dd)(x:Ls):rL l x=cW (kE (l.map (·.1)) (l.map (fun c=>du c.2)) x)/\ng (kE (l.map (·.1)) (l.map (fun c=>du c.2)) x):=by
 unfold rL ah;rcases BF x l 0 with⟨h1,h2⟩|⟨k,c,h1,h2,h3⟩
 ·rw[h1,h2,K9 (by decide)];exact⟨rfl,GM⟩
 ·rw[h1,h3,K8 (by omega)]
  refine⟨?_,Ik _⟩;rw[Lk,Nat.zero_add,h2];exact Iq _
mutual
def jI:aK->Prop
 | .all=>True
 | .is n=>n≠bE
 | .eq _ v=>∀y,v=some y->ng y
 | .not r=>jI r
 | .chain _ l=>ij l
def ij:List aK->Prop
 |[]=>True
 |t::l=>jI t/\ij l
end
theorem Gs(l:List dd)(id n:Ls)(v:Option (Nat×Int×Ls))(hv:∀y,v=some y->ng y):mP l id n v=decide (kE (l.map (·.1)) (l.map (fun c=>du c.2)) n=v.getD (2,0,id)):=by
 obtain⟨h1,h2⟩:=GA l n;unfold mP;rw[h1];cases v with
 |none=>
  show decide (_=iQ id 5 0 ⟨#[]⟩)=_;rw[show iQ id 5 0 ⟨#[]⟩=cW (2,0,id)from rfl];exact decide_eq_decide.2 (Bj h2 ⟨by show 2<=6;decide,fun h=>by simp at h⟩)
 |some y=>
  have hy:=hv y rfl;have:iQ id (iK (some y)).1 (iK (some y)).2.1 (iK (some y)).2.2=cW y:=by
   show iQ id (cW y).1 (cW y).2.1 (cW y).2.2=_;unfold iQ;rw[K8 (FU hy)]
  rw[this];exact decide_eq_decide.2 (Bj h2 hy)
mutual
theorem xz(hs:Ls->Bool)(l:List dd)(E:lH)(h1:∀n,n≠bE->hs n=E.has n)(h2:E.cell=kE (l.map (·.1)) (l.map (fun c=>du c.2))):∀(t:aK),jI t->iI hs (mP l E.id) t=cZ E t
 | .all,_=>by rw[iI,cZ]
 | .is n,h=>by rw[iI,cZ,h1 n (by rw[jI]at h;exact h)]
 | .eq n v,h=>by rw[iI,cZ,Gs l E.id n v (by rw[jI]at h;exact h),h2]
 | .not r,h=>by rw[jI]at h;rw[iI,cZ,xz hs l E h1 h2 r h]
 | .chain true r,h=>by rw[jI]at h;rw[iI,cZ,(wC hs l E h1 h2 r h).1]
 | .chain false r,h=>by rw[jI]at h;rw[iI,cZ,(wC hs l E h1 h2 r h).2]
theorem wC(hs:Ls->Bool)(l:List dd)(E:lH)(h1:∀n,n≠bE->hs n=E.has n)(h2:E.cell=kE (l.map (·.1)) (l.map (fun c=>du c.2))):∀(r:List aK),ij r->nY hs (mP l E.id) r=mK E r/\(!qG hs (mP l E.id) r)=mo E r
 |[],_=>by rw[nY,mK,qG,mo];exact⟨rfl,rfl⟩
 |t::r,h=>by
  rw[ij]at h;obtain⟨ih1,ih2⟩:=wC hs l E h1 h2 r h.2;rw[nY,mK,qG,mo,xz hs l E h1 h2 t h.1,ih1,<-ih2];exact⟨rfl,by simp⟩
end
theorem AI{word:Ls}{part:St->aK×St}{C:List Tk->aK->Prop}{n:Nat}(hp:∀l l',ln (some l)<=n->(part (some l)).2=some l'->∃e,l=e++l'/\C e (part (some l)).1):
 ∀(f:Nat) (acc:List aK) (l l':List Tk),ln (some l)<=n->(i6 word part f acc (some l)).2=some l'->∃e ts,(i6 word part f acc (some l)).1=acc++ts/\l=e++l'/\((e=[]/\ts=[])\/∃x e',e=x::e'/\dU x word/\iP word C e' ts)
 |0,acc,l,l',_,h=>by
  rw[i6]at h⊢;cases h;exact⟨[],[],by simp,rfl,Or.inl ⟨rfl,rfl⟩⟩
 |f+1,acc,l,l',hn,h=>by
  rw[i6]at h⊢;by_cases hw:aq (some l) word=true
  ·rw[K9 hw]at h⊢
   cases l with
   |nil=>simp[aq,hd,ib]at hw
   |cons x l1=>
    have hx:dU x word:=(m7 x l1 word).1 hw;have e0:tl (some (x::l1))=some l1:=rfl;rw[e0]at h⊢;rcases h2:(part (some l1)).2 with _|l2
    ·rw[h2,vx _ _ _ _ _ (ue word)]at h
     cases h
    ·rw[h2]at h
     have hln:ln (some l1)<=n:=by simp[ln]at hn⊢;omega
     obtain⟨e1,q1,q2⟩:=hp l1 l2 hln h2;have hln2:ln (some l2)<=n:=by rw[q1]at hln;simp[ln]at hln⊢;omega
     obtain⟨e2,ts,r1,r2,r3⟩:=AI hp f _ l2 l' hln2 h;refine⟨x::(e1++e2),(part (some l1)).1::ts,by rw[r1];simp,by rw[q1,r2];simp,Or.inr ⟨x,e1++e2,rfl,hx,?_⟩⟩;rcases r3 with⟨a,b⟩|⟨x2,e2',a,b,c⟩
     ·rw[a,b,List.append_nil];exact .one _ _ q2
     ·rw[a];exact .cons x2 e1 e2' _ ts b q2 c
  ·rw[K8 hw]at h⊢
   cases h;exact⟨[],[],by simp,rfl,Or.inl ⟨rfl,rfl⟩⟩
theorem Bz{o:Bool}{word:Ls}{part:St->aK×St}{C:List Tk->aK->Prop}{n:Nat}(hp:∀l l',ln (some l)<=n->(part (some l)).2=some l'->∃e,l=e++l'/\C e (part (some l)).1)(l l':List Tk)(hn:ln (some l)<=n)(h:(dQ o word part (some l)).2=some l'):
 ∃e ts,(dQ o word part (some l)).1=.chain o ts/\l=e++l'/\iP word C e ts:=by
 unfold dQ at h⊢;dsimp only at h⊢;rcases h2:(part (some l)).2 with _|l2
 ·rw[h2,vx _ _ _ _ _ (ue word)]at h
  cases h
 ·rw[h2]at h
  obtain⟨e1,q1,q2⟩:=hp l l2 hn h2;obtain⟨e2,ts,r1,r2,r3⟩:=AI hp 801 _ l2 l' (by rw[q1]at hn;simp[ln]at hn⊢;omega) h;refine⟨e1++e2,(part (some l)).1::ts,by rw[r1];rfl,by rw[q1,r2];simp,?_⟩;rcases r3 with⟨a,b⟩|⟨x2,e2',a,b,c⟩
  ·rw[a,b,List.append_nil];exact .one _ _ q2
  ·rw[a];exact .cons x2 e1 e2' _ ts b q2 c
theorem Iu{e:List Tk}{ts:List aK}(h:iP dy (fun e t=>dn 0 e [t]) e ts):dn 1 e ts:=by
 induction h with
 |one e t h=>exact .and1 e t h
 |cons x e e' t l hx h _ ih=>exact .and x e e' t l hx h ih
theorem Jr{e:List Tk}{ts:List aK}(h:iP dW (fun e t=>∃l,t=.chain false l/\dn 1 e l) e ts):dn 2 e ts:=by
 induction h with
 |one e t h=>obtain⟨l,rfl,h⟩:=h;exact .or1 e l h
 |cons x e e' t l hx h _ ih=>obtain⟨k,rfl,h⟩:=h;exact .or x e e' k l hx h ih
theorem AH{f n:Nat}(hu:∀l l',ln (some l)<=n->(eN f (some l)).2=some l'->∃e,l=e++l'/\dn 0 e [(eN f (some l)).1])(l l':List Tk)(hn:ln (some l)<=n)(h:(oq f (some l)).2=some l'):
 ∃e ts,(oq f (some l)).1=.chain true ts/\l=e++l'/\dn 2 e ts:=by
 have h1:∀l l',ln (some l)<=n->(dQ false jy (eN f) (some l)).2=some l'->∃e,l=e++l'/\∃k,(dQ false jy (eN f) (some l)).1=.chain false k/\dn 1 e k:=fun l l' hn h=>by
  obtain⟨e,ts,q1,q2,q3⟩:=Bz (C:=fun e t=>dn 0 e [t]) hu l l' hn h;exact⟨e,q2,ts,q1,Iu q3⟩
 obtain⟨e,ts,q1,q2,q3⟩:=Bz (o:=true) (word:=j0) (C:=fun e t=>∃k,t=.chain false k/\dn 1 e k) h1 l l' hn h;exact⟨e,ts,q1,q2,Jr q3⟩
theorem tY{l:List Tk}{k:Nat}(hk:k≠0)(h:af (some l) k=true):∃x l1,l=x::l1/\x.k=k:=by
 cases l with
 |nil=>simp[af,hd,ib]at h;omega
 |cons x l1=>exact⟨x,l1,rfl,by simpa [af,hd]using h⟩
theorem Bb{l l':List Tk}(h:ab (some l)=some l'):∃x,l=x::l'/\x.k=1/\nm (some l)=x.s:=by
 unfold ab at h;by_cases hk:af (some l) 1=true
 ·rw[K9 hk]at h
  obtain⟨x,l1,rfl,hx⟩:=tY (by decide) hk;cases h;exact⟨x,rfl,hx,by unfold nm;rw[K9 hk];rfl⟩
 ·rw[K8 hk]at h;cases h
theorem Bn{s:St}{k:Nat}{l':List Tk}(hk:k≠0)(h:ak s (af s k)=some l'):∃x,s=some (x::l')/\x.k=k:=by
 unfold ak at h;split at h
 ·rename_i hb
  cases s with
  |none=>simp[af,hd,ib]at hb;omega
  |some l=>
   obtain⟨x,l1,rfl,hx⟩:=tY hk hb;cases h;exact⟨x,rfl,hx⟩
 ·cases h
theorem Dm{l l':List Tk}(h:iZ (some l)=some l'):∃u,l=u::l'/\((dU u eV/\nV (some l)=none)\/(¬dU u eV/\dN (some [u])=true/\nV (some l)=some (od u))):=by
 cases l with
 |nil=>simp[iZ,iH,aq,hd,ib]at h
 |cons u l1=>
  have hW:=m7 u l1 eV;unfold iZ at h;unfold nV;by_cases hv:dU u eV
  ·rw[K9 (hW.2 hv)]at h⊢
   cases h;exact⟨u,rfl,Or.inl ⟨hv,rfl⟩⟩
  ·rw[K8 (fun e=>hv (hW.1 e))]at h⊢
   unfold iH at h;have hh:hd (some (u::l1))=u:=rfl;rw[hh]at h;have key:l1=l'/\dN (some [u])=true/\tn (some (u::l1))=od u:=by
    unfold tn od br;rw[hh,show hd (some [u])=u from rfl,xR,show hd (some [u])=u from rfl];by_cases h2:u.k=2
    ·rw[K9 h2]at h;cases h;simp[h2,rk]
    ·by_cases h3:u.k=3
     ·rw[K8 h2,K9 h3]at h;cases h;simp[h3,rk,rs]
     ·by_cases h1:u.k=1
      ·rw[K8 h2,K8 h3,K9 h1]at h
       unfold lm at h;have hr:rs u=u.s:=by unfold rs;rw[K9 (by omega)]
       rw[hr,bV,bV,bV];have b1:aE [116,114,117,101]=jr:=rfl;have b2:aE [102,97,108,115,101]=jw:=rfl;have b3:aE [110,117,108,108]=mf:=rfl;rw[b1,b2,b3];have n12:jw≠jr:=by decide
       have n13:mf≠jr:=by decide
       have n23:mf≠jw:=by decide
       by_cases t1:u.s=jr
       ·rw[K9 t1]at h;cases h;simp[h1,t1,rk]
       ·by_cases t2:u.s=jw
        ·rw[K8 t1,K9 t2]at h;cases h;simp[h1,t2,rk,n12]
        ·by_cases t3:u.s=mf
         ·rw[K8 t1,K8 t2,K9 t3]at h;cases h;simp[h1,t3,rk,n13,n23,jE]
         ·rw[K8 t1,K8 t2,K8 t3]at h;cases h
      ·rw[K8 h2,K8 h3,K8 h1]at h;cases h
   obtain⟨k1,k2,k3⟩:=key;exact⟨u,by rw[k1],Or.inr ⟨hv,k2,by rw[k3]⟩⟩
theorem sW{l:List Tk}{y:Ls}(hy:y≠⟨#[]⟩)(h:nm (some l)=y):∃x l1,l=x::l1/\dU x y/\ab (some l)=some l1:=by
 by_cases hk:af (some l) 1=true
 ·obtain⟨x,l1,rfl,hx⟩:=tY (by decide) hk
  unfold nm at h;rw[K9 hk]at h;exact⟨x,l1,rfl,⟨hx,h⟩,by unfold ab;rw[K9 hk];rfl⟩
 ·unfold nm at h
  rw[K8 hk]at h;exact absurd h.symm hy
theorem uH:∀(f:Nat) (l l':List Tk),ln (some l)<=f->(eN f (some l)).2=some l'->∃e,l=e++l'/\dn 0 e [(eN f (some l)).1]
 |0,l,l',hn,_=>by simp[ln]at hn
 |f+1,l,l',hn,h=>by
  have hn1:l.length<=f:=by simpa [ln]using hn
  rw[tf]at h⊢;by_cases h7:af (some l) 7=true
  ·rw[K9 h7]at h⊢
   obtain⟨x,l1,rfl,hx⟩:=tY (by decide) h7;obtain⟨z,hz,hz8⟩:=Bn (by decide) h;obtain⟨e,ts,q1,q2,q3⟩:=AH (f:=f) (n:=f) (uH f) l1 (z::l') (by simpa [ln]using hn1) hz;refine⟨x::(e++[z]),by rw[q2];simp,?_⟩;rw[show(dQ true j0 (dQ false jy (eN f)) (tl (some (x::l1)))).1=.chain true ts from q1];exact .par x z e ts hx hz8 q3
  ·rw[K8 h7]at h⊢
   by_cases e1:nm (some l)=dc
   ·rw[K9 e1]at h⊢
    obtain⟨x,l1,rfl,hx,ht⟩:=sW (by decide) e1;rw[ht]at h⊢;obtain⟨e,q1,q2⟩:=uH f l1 l' (by simpa [ln]using hn1) h;exact⟨x::e,by rw[q1];rfl,.not x e _ hx q2⟩
   ·rw[K8 e1]at h⊢
    by_cases e2:nm (some l)=dX
    ·rw[K9 e2]at h⊢
     obtain⟨x,l1,rfl,hx,ht⟩:=sW (by decide) e2;rw[show ab (some (x::l1))=some l' from h]at ht;cases ht;exact⟨[x],rfl,.all x hx⟩
    ·rw[K8 e2]at h⊢
     by_cases e3:nm (some l)=cm
     ·rw[K9 e3]at h⊢
      obtain⟨x,l1,rfl,hx,ht⟩:=sW (by decide) e3;rw[ht]at h⊢;obtain⟨y,rfl,hy,hny⟩:=Bb h;refine⟨[x,y],rfl,?_⟩;dsimp only;rw[hny];exact .is x y hx hy
     ·rw[K8 e3]at h⊢
      dsimp only at h⊢;rcases hm:ak (ab (some l)) (af (ab (some l)) 10)with _|l3
      ·rw[hm]at h;cases h
      ·rw[hm]at h
       obtain⟨z,hz,hz10⟩:=Bn (by decide) hm;obtain⟨x,rfl,hx,hnx⟩:=Bb hz;obtain⟨u,rfl,hu⟩:=Dm h;rw[hnx]at e1 e2 e3⊢;refine⟨[x,z,u],rfl,?_⟩;rcases hu with⟨u1,u2⟩|⟨u1,u2,u3⟩
       ·rw[u2];exact .eqv x z u hx e1 e2 e3 hz10 u1
       ·rw[u3];exact .eql x z u hx e1 e2 e3 hz10 u1 u2
theorem OD:∀(l:List aK),ij l↔∀t∈l,jI t
 |[]=>by rw[ij];simp
 |t::l=>by rw[ij,OD l];simp
theorem dn.ok{k:Nat}{e:List Tk}{l:List aK}(h:dn k e l):(∀t∈e,io t)->ij l:=by
 induction h with
 |not x e t _ _ ih=>intro h;have:=ih (fun t ht=>h t (List.mem_cons_of_mem _ ht));rw[ij,ij,jI]at*;exact⟨this.1,trivial⟩
 |all x _=>intro _;rw[ij,ij,jI];exact⟨trivial,trivial⟩
 |is x y _ hy=>
  intro h;rw[ij,ij,jI];refine⟨fun e=>?_,trivial⟩;have:=(h y (by simp)).2.2.2 hy;rw[e]at this;exact absurd this (by decide)
 |par x z e l _ _ _ ih=>intro h;rw[ij,ij,jI];exact⟨ih (fun t ht=>h t (by simp[ht])),trivial⟩
 |eqv x z u _ _ _ _ _ _=>intro _;rw[ij,ij,jI];exact⟨fun y hy=>absurd hy (by simp),trivial⟩
 |eql x z u _ _ _ _ _ _ _=>intro _;rw[ij,ij,jI];exact⟨fun y hy=>KY hy▸yO _,trivial⟩
 |and1 e t _ ih=>exact ih
 |and x e e' t l _ _ _ ih1 ih2=>
  intro h;have a:=ih1 (fun t ht=>h t (by simp[ht]));have b:=ih2 (fun t ht=>h t (by simp[ht]));rw[ij]at a⊢;exact⟨a.1,b⟩
 |or1 e l _ ih=>intro h;rw[ij,ij,jI];exact⟨ih h,trivial⟩
 |or x e e' l l' _ _ _ ih1 ih2=>
  intro h;rw[ij,jI];exact⟨ih1 (fun t ht=>h t (by simp[ht])),ih2 (fun t ht=>h t (by simp[ht]))⟩
theorem GW(e l:List Tk):iy (some (e++l)) (some l)=e:=by
 unfold iy;simp
theorem DW(s:St)(hl:ln s<=801)(h:(ey s).2≠none)(hk:af s 11=true):∃ts,rO s=.chain true ts/\dn 2 (jo s).1 ts:=by
 unfold ey at h;unfold rO jo;simp only[hk,if_true]at h⊢;have hl2:ln (ed (tl s))<=801:=KP (cg _ _) (KP (cg _ _) (KP (cK _) hl));have hst:=sF (ed (tl s)) 802 (by decide) hl2;show∃ts,_/\dn 2 (iy (ed (tl s)) (ja (ed (tl s)))) ts;generalize ed (tl s)=s5 at h hl2 hst⊢;rw[<-hst];cases hp:(j4 802 s5).2 with
 |none=>rw[hp,j8]at h;exact absurd rfl h
 |some l'=>
  cases s5 with
  |none=>
   rw[hp]at hst;have e:ja none=none:=rh 801;rw[e]at hst;cases hst
  |some l=>
   have ht:(oq 802 (some l)).2=some l':=by rw[(yd 802 (some l)).2];exact hp
   obtain⟨e,ts,q1,q2,q3⟩:=AH (f:=802) (n:=802) (uH 802) l l' (by omega) ht;refine⟨ts,q1,?_⟩;rw[q2,GW];exact q3
def TR(c:b9)(d:eG):Prop:=∀x∈c.Lx,∃t∈d.Lv,t.name=x.name/\(x.Lw.isSome=true->∃ts,x.tree=.chain true ts/\dn 2 t.Lw ts)
theorem TR.keep{c c':b9}{d d':eG}(h:TR c d)(h1:c'.Lx=c.Lx)(h2:∀t∈d.Lv,t∈d'.Lv):TR c' d':=fun x hx=>by
 rw[h1]at hx;obtain⟨t,a,b⟩:=h x hx;exact⟨t,h2 t a,b⟩
theorem zD(c:b9)(d:eG)(s:St)(hl:ln s<=801)(h:TR c d)(hs:(bX c s).2≠none):TR (bX c s).1 (eB d s).1:=by
 have h1:ln (ab s)<=801:=KP (bH s) hl;have h2:ln (ab (ab s))<=801:=KP (bH _) h1;unfold bX at hs⊢;unfold eB;by_cases e1:nm s=oe
 ·rw[K9 e1]at hs⊢
  rw[K9 e1];exact h.keep rfl (fun t ht=>ht)
 ·rw[K8 e1]at hs⊢
  rw[K8 e1];by_cases e2:nm s=oG
  ·rw[K9 e2]at hs⊢
   rw[K9 e2];dsimp only at hs⊢;have hag:=(ug _ h1).2 hs;have hpo:(cn (ab s)).2=(dC (ey (dH (ab (ab s))).2).2).2:=by unfold cn;dsimp only
   rw[hpo]at hs;have hpr:(ey (dH (ab (ab s))).2).2≠none:=nw (oz _) hs;intro x hx;rcases List.mem_append.1 hx with hx|hx
   ·obtain⟨t,a,b⟩:=h x hx
    exact⟨t,by simp[a],b⟩
   ·rw[List.mem_singleton]at hx
    subst hx;refine⟨(fY (ab s)).1,by simp,by rw[hag],fun hr=>?_⟩;have hk:af (dH (ab (ab s))).2 11=true:=by
     rw[<-Ax];unfold cn at hr;exact hr
    have:=DW _ (KP (qN _) h2) hpr hk;rw[hag];unfold cn;exact this
  ·rw[K8 e2]at hs⊢
   rw[K8 e2];by_cases e3:nm s=pF
   ·rw[K9 e3]at hs⊢
    rw[K9 e3];exact h.keep rfl (fun t ht=>by simp[ht])
   ·rw[K8 e3]at hs⊢
    rw[K8 e3];by_cases e4:nm s=pA
    ·rw[K9 e4]at hs⊢
     rw[K9 e4];exact h.keep rfl (fun t ht=>by simp[ht])
    ·rw[K8 e4]at hs
     exact absurd rfl hs
theorem yx:∀(f:Nat) (c:b9) (d:eG) (s:St),ln s<=801->(s≠none->TR c d)->(gH f c s).2≠none->TR (gH f c s).1 (gv f d s).1
 |0,c,d,s,_,h,hs=>h hs
 |f+1,c,d,s,hl,h,hs=>by
  rw[gH]at hs⊢;rw[gv];by_cases ha:eu s=true
  ·rw[K9 ha]at hs⊢;rw[K9 ha]
   exact h hs
  ·rw[K8 ha]at hs⊢;rw[K8 ha]
   have h0:s≠none:=by intro e;rw[e]at ha;exact ha rfl
   rw[pR d c s hl];exact yx f _ _ _ (KP (oF c s) (KP (bH s) hl)) (fun hn=>zD c d s hl (h h0) hn) hs
theorem tu{x:Ls}(h:iw x=0):jW (cc (av x)).2=true:=by
 unfold iw at h;split at h
 ·assumption
 ·cases h
theorem A3(x:Ls)(h:jW (cc (av x)).2=true):TR (cc (av x)).1 (cE (av x)).1:=by
 have hl:=ph x;generalize av x=s at h hl;have hn:(cc s).2≠none:=fun e=>by rw[e]at h;simp[jW]at h
 by_cases ha:eu s=true
 ·exfalso
  refine hn ?_;unfold cc;have hd:bX d8 s=(d8,none):=by
   have hn:nm s=⟨#[]⟩:=by
    apply xI
    match s,ha with
    |none,_=>rfl
    |some [],_=>rfl
   unfold bX;rw[hn,K8 (by decide),K8 (by decide),K8 (by decide),K8 (by decide)]
  rw[hd];dsimp only;rw[y8]
 ·have e:cE s=gv 801 (eB iz s).1 (eB iz s).2:=by
   unfold cE;have e:o7 s=s:=by
    match s,ha with
    |none,ha=>rfl
    |some [],ha=>exact absurd rfl ha
    |some (t::l),_=>rfl
   rw[e,gv,K8 ha]
  rw[e,pR iz d8 s hl];unfold cc at hn⊢;exact yx 801 _ _ _ (KP (oF d8 s) (KP (bH s) hl)) (fun hn=>zD d8 iz s hl (fun x hx=>by simp[d8]at hx) hn) hn
def nI(c:b9)(d:eG)(k:Nat):List aK:=match d.Lv[k]? with
 |none=>[]
 |some t=>match c.Lx[(ah (c.Lx.map aH.name) t.name).toNat]? with
  |none=>[]
  |some o=>match o.tree with
   | .chain true l=>l
   |_=>[]
theorem F2.names{Lv:List ap}{M:List PD}(h:F2 fG Lv M):Lv.map ap.name=M.map PD.name:=by
 induction h with
 |nil=>rfl
 | @cons a b l m hr _ ih=>
   rw[List.map_cons,List.map_cons,ih];congr 1;cases b with
   |o x=>exact hr.2.1
   |i x=>rw[hr.1];rfl
   |u x=>rw[show a=_ from hr];rfl
theorem Jf{Lv:List ap}(h:(Lv.map ap.name).Nodup){a b:ap}(ha:a∈Lv)(hb:b∈Lv)(e:a.name=b.name):a=b:=by
 obtain⟨i,hi,ei⟩:=List.getElem_of_mem ha;obtain⟨j,hj,ej⟩:=List.getElem_of_mem hb;have h1:(Lv.map ap.name)[i]?=some a.name:=by rw[La,KM hi,ei];rfl
 have h2:(Lv.map ap.name)[j]?=some a.name:=by rw[La,KM hj,ej,e];rfl
 have:=(o6 _ _ _ h h1).symm.trans (o6 _ _ _ h h2);have:i=j:=by omega
 subst this;rw[<-ei,<-ej]
section
variable {c:b9} {d:eG} {M:List PD}
theorem AQ(h:i8 c d M)(ht:TR c d){o:aH}{k:Nat}{t:ap}(h1:c.Lx[(ah (c.Lx.map aH.name) o.name).toNat]?=some o)(hk:d.Lv[k]?=some t)(hr:fG t (.o o))(hs:o.Lw.isSome=true):o.tree=.chain true (nI c d k)/\dn 2 t.Lw (nI c d k):=by
 obtain⟨t',q1,q2,q3⟩:=ht o (KN h1);have hn:(d.Lv.map ap.name).Nodup:=by rw[h.f.names];exact h.n
 have:=Jf hn q1 (KN hk) (q2.trans hr.2.1.symm);subst this;obtain⟨ts,g1,g2⟩:=q3 hs;have e:nI c d k=ts:=by unfold nI;rw[hk];simp only;rw[q2,h1];simp only;rw[g1]
 rw[e];exact⟨g1,g2⟩
theorem G2(h:i8 c d M)(ht:TR c d)(hok:rX c.Lu)(NG:∀t∈d.Lv,mx t){LK vid:Ls}(hr:¬ah (c.Lu.map aj.name) LK<0)(y:bo)(hy:0<=ah (c.Lx.map aH.name) y.1):
 lO c.Lx vid (fW c.Lu LK) y=oh c.Lu d.Lv (nI c d) LK vid y:=by
 obtain⟨o,k,t,e1,e2,e3,e4,e5,e6,e7⟩:=h.obj y.1 hy;have hd:(bO d.Lv y).d=k:=by show(ah (d.Lv.map ap.name) y.1).toNat=k;rw[e5];rfl
 unfold lO oh;rw[e1,hd,e6];simp only;have hf:(fun c':dd=>o9 (fW c.Lu LK) o.fields c'.1)=fun c'=>mN c.Lu LK t.fields c'.1:=by
  funext x;rw[Iy hok hr,e7.2.2.1]
 rw[hf,e2];have hh:(o.Lw.isSome&&!iI (fun n=>ba n (fW c.Lu LK)) (mP y.2.2 vid) o.tree)=pE t.LC (pB c.Lu LK vid (bO d.Lv y)) (nI c d k):=by
  unfold pE;rw[e7.2.2.2.2.1];cases hs:o.Lw.isSome
  ·rfl
  ·obtain⟨g1,g2⟩:=AQ h ht (by rw[e2];exact e1) e6 e7 hs
   rw[g1];have:=xz (fun n=>ba n (fW c.Lu LK)) y.2.2 (pB c.Lu LK vid (bO d.Lv y)) (fun n hn=>by
    show ba n (fW c.Lu LK)=ic c.Lu LK n;unfold ic;rw[BQ hok hr,KT hn,Bool.false_or]) rfl (.chain true (nI c d k)) (by
    rw[jI];exact g2.ok (NG t (KN e6)).tok)
   rw[<-this];rfl
 rw[hh]
end
theorem zM{c:b9}{M:List PD}{d:eG}(h:i8 c d M)(hr:jz c=true):(∀o∈c.Lx,∀a∈o.LE,dF M a=3)/\∀o∈c.Lx,∀f∈o.fields,co (bN f.ty)=true\/bN f.ty∈M.map PD.name:=by
 unfold jz at hr;simp only[Li]at hr;have ho:=hr.2.2.1;rw[Lh]at ho;have hk:oa c=dF M:=h.kind;refine⟨fun o hm a ha=>?_,fun o hm f hf=>?_⟩
 ·have:=ho o hm
  unfold jb m9 fw at this;simp only[Li,Lh,Lc]at this;rw[<-hk];exact this.2.1.1.2 a ha
 ·have:=ho o hm
  unfold jb fu jM at this;simp only[Li,Lh,Lc]at this;have h1:=(this.1.1 f hf).2.1;rw[hk]at h1;by_cases hs:co (bN f.ty)=true
  ·exact Or.inl hs
  ·refine Or.inr (Classical.byContradiction fun hn=>?_)
   have:=xt M (bN f.ty);rw[Le h1]at this;simp only[Bool.not_eq_true]at hs;rw[hs,Bool.false_or]at this;exact hn ((jK _ _).1 this.symm)
theorem x9{α β:Type}{f g:α->Option β}:∀(l:List α),(∀a∈l,f a=g a)->l.filterMap f=l.filterMap g
 |[],_=>rfl
 |a::l,h=>by rw[List.filterMap_cons,List.filterMap_cons,h a List.mem_cons_self,x9 l (fun b hb=>h b (List.mem_cons_of_mem _ hb))]
theorem Dv(x:Ls)(ys:List bo)(LK vid:Ls):iO x ys LK vid=seesR (nI (cc (av x)).1 (cE (av x)).1) x ys LK vid:=by
 unfold iO seesR km;rw[CA x];by_cases h0:iw x=0
 ·obtain⟨M,h,hro⟩:=AV x h0
  have ht:=A3 x (tu h0);have hr:=ro x h0;obtain⟨hI,hT⟩:=zM h hr;have hok:=yz hr (xl _ (xB x));have NG:=vS x (by rw[(r8 (av x) (ph x) (p8 x)).1];exact tu h0);have hst:=E0 h hI hT ys;have q:¬(iw x≠0):=fun e=>e h0;rw[hro,K9 h0,K8 q,<-hst];cases hs:kO (cc (av x)).1 ys
  ·rfl
  ·have q2:¬(true=false):=by simp
   rw[K9 rfl,K9 rfl,K8 q2];by_cases hi:ah ((cc (av x)).1.Lu.map aj.name) LK<0
   ·rw[K9 (Bf.2 hi),K9 hi]
   ·rw[K8 (fun e=>hi (Bf.1 e)),K8 hi]
    congr 1;unfold nG;rw[List.filterMap_map];have hys:∀y∈ys,0<=ah ((cc (av x)).1.Lx.map aH.name) y.1:=by
     unfold kO lT at hs;simp only[Li]at hs;exact r7 _ _ _ hs.2.1
    exact x9 ys (fun y hy=>G2 h ht hok NG hi y (hys y hy))
 ·rw[K8 h0,K8 h0,K9 h0]
theorem C0:∀(f:Nat) (s:St),(fI f s).1.length<=f
 |0,s=>KK _
 |f+1,s=>by
  rw[fI];split
  ·simp
  ·dsimp only
   generalize (if kg (nm s)=true then none else ab s)=s1;have:=C0 f s1;cases ia s1
   ·simp
   ·simp;omega
theorem I0(s:St):(iq s).1.LA.length<=801:=by
 unfold iq;split
 ·exact C0 801 _
 ·simp
structure qY(d:eG)(s:St):Prop where
 n:d.Lu.length+d.Lv.length+ln s<=801
 i:∀r∈d.Lu,r.LA.length<=801
theorem JO(d:eG)(s:St)(h:qY d s):qY (eB d s).1 (eB d s).2:=by
 have hl:ln s<=801:=by have:=h.n;omega
 have h2:ln (eB d s).2<=ln (ab s):=by rw[pR d d8 s hl];exact oF d8 s
 have hn:=h.n;have key:∀y,nm s=y->y≠⟨#[]⟩->ln (ab s)+1<=ln s:=fun y e hy=>by
  cases s with
  |none=>exact absurd (by rw[<-e];rfl) hy
  |some l=>
   obtain⟨x,l1,rfl,_,ht⟩:=sW hy e;rw[ht];simp[ln]
 revert h2;unfold eB;split
 ·rename_i e
  intro h2;have:=key _ e (by decide);refine⟨by simp at h2⊢;omega,fun r hr=>?_⟩;rcases List.mem_append.1 hr with a|a
  ·exact h.i r a
  ·rw[List.mem_singleton]at a;rw[a];exact I0 _
 ·split
  ·rename_i e
   intro h2;have:=key _ e (by decide);exact⟨by simp at h2⊢;omega,h.i⟩
  ·split
   ·rename_i e
    intro h2;have:=key _ e (by decide);exact⟨by simp at h2⊢;omega,h.i⟩
   ·split
    ·rename_i e
     intro h2;have:=key _ e (by decide);exact⟨by simp at h2⊢;omega,h.i⟩
    ·intro _
     exact⟨by simp[ln];omega,h.i⟩
theorem zo:∀(f:Nat) (d:eG) (s:St),qY d s->qY (gv f d s).1 (gv f d s).2
 |0,d,s,h=>h
 |f+1,d,s,h=>by
  rw[gv];split
  ·exact h
  ·exact zo f _ _ (JO d s h)
theorem Jn(x:Ls):qY (cE (av x)).1 (cE (av x)).2:=by
 unfold cE;refine zo _ _ _ ⟨?_,fun r hr=>by simp[iz]at hr⟩;have hl:=ph x;generalize av x=s at hl;have:ln (o7 s)<=ln s:=by
  match s with
  |none=>exact KK _
  |some []=>exact KU _
  |some (t::l)=>exact KK _
 simp[iz];omega
theorem GE{c:b9}{M:List PD}{d:eG}(h:i8 c d M)(hr:jz c=true)(m:PD)(hm:m∈M)(t:ap)(ht:fG t m):∀f∈t.fields,∃ty,fZ ty/\ci ty=f.ty/\f.ty.size<=100000/\(co (bN ty)=true\/¬ah (d.Lv.map ap.name) (bN ty)<0):=by
 have hc:=(zM h hr).2;have hin:∀f:ax,(co (bN f.ty)=true\/bN f.ty∈M.map PD.name)->iU f->∃ty,fZ ty/\ci ty=(dg f).ty/\(dg f).ty.size<=100000/\(co (bN ty)=true\/¬ah (d.Lv.map ap.name) (bN ty)<0):=fun f hf ho=>
  ⟨f.ty,ho.ty,rfl,ho.size,hf.imp (fun e=>e) (fun e=>(iT _ _).2 (by rw[h.f.names];exact e))⟩
 cases m with
 |o x=>
  intro f hf;rw[ht.2.2.1]at hf;obtain⟨g,hg,rfl⟩:=List.mem_map.1 hf;exact hin g (hc x (by rw[h.o];exact List.mem_filterMap.2 ⟨_,hm,rfl⟩) g hg) (ht.2.2.2.2.2.2 g hg)
 |i x=>
  intro f hf;rw[ht.1]at hf;obtain⟨g,hg,rfl⟩:=List.mem_map.1 hf;refine hin g ?_ (ht.2 g hg);unfold jz at hr;simp only[Li]at hr;have hi:=hr.2.2.2.1;rw[Lh]at hi;have:=hi x (by rw[h.i];exact List.mem_filterMap.2 ⟨_,hm,rfl⟩);unfold fu jM at this;simp only[Li,Lh,Lc]at this;have h1:=(this.1 g hg).2.1;rw[show oa c=dF M from h.kind]at h1;by_cases hs:co (bN g.ty)=true
  ·exact Or.inl hs
  ·refine Or.inr (Classical.byContradiction fun hn=>?_)
   have:=xt M (bN g.ty);rw[Le h1]at this;simp only[Bool.not_eq_true]at hs;rw[hs,Bool.false_or]at this;exact hn ((jK _ _).1 this.symm)
 |u x=>
  intro f hf;rw[show t=_ from ht]at hf;simp at hf
theorem EI(x:Ls)(h0:lW x=0):Cv (cE (av x)).1.Lu (cE (av x)).1.Lv (nI (cc (av x)).1 (cE (av x)).1):=by
 rw[CA]at h0;obtain⟨M,h,hro⟩:=AV x h0;have ht:=A3 x (tu h0);have hr:=ro x h0;have NG:=vS x (by rw[(r8 (av x) (ph x) (p8 x)).1];exact tu h0);have hL:=Jn x;have hn:=hL.n;refine⟨by omega,?_,by omega,fun d hd=>⟨(NG d hd).nf,(NG d hd).na,(NG d hd).sort,(NG d hd).nr,(NG d hd).tok⟩,fun t htm f hf=>?_,fun k t hk hru=>?_⟩
 ·have h1:=uy _ hL.i
  have:(cE (av x)).1.Lu.length*801<=801*801:=Nat.mul_le_mul_right _ (by omega);omega
 ·obtain⟨k,hk,e⟩:=List.getElem_of_mem htm
  obtain⟨m,hm,hrel⟩:=h.f.get k t (by rw[KM hk,e]);exact GE h hr m (KN hm) t hrel f hf
 ·obtain⟨m,hm,hrel⟩:=h.f.get k t hk
  cases m with
  |o y=>
   have:=(wV M h.n y (KN hm)).2;rw[<-h.o]at this;exact(AQ h ht this hk hrel (by rw[<-hrel.2.2.2.2.1];exact hru)).2
  |i y=>rw[hrel.1]at hru;cases hru
  |u y=>rw[show t=_ from hrel]at hru;cases hru
theorem BG(x LK vid:Ls)(aY:Option Addr)(cY:Nat)(ys:List bo)(w:World)(hs:x.size<=maxLen)(hY:eM w (.slice aY ys.length cY) ys)(hyl:ys.length<=1000000)(hcl:∀y∈ys,y.2.2.length<=1000000/\∀c∈y.2.2,c.2.size<=maxLen):
 Calls prog 14 #[.string x,.slice aY ys.length cY,.agg #[.string LK,.string vid]] w fun e w'=>∃vO xs,e=.returned (.tuple #[vO,.int .i64 (iO x ys LK vid).2])/\dw w' w.heap.size vO xs/\xs.map (·.1)=(iO x ys LK vid).1/\Lt w w':=by
 rw[Dv];exact Gy _ x LK vid aY cY ys w hs (vS x) hY hyl hcl (EI x)
end Go.Proofs.YtgbloieahmkcjaaGreat
