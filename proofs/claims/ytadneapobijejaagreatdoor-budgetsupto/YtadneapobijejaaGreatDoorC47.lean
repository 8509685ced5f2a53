import Derived.Test.YtadneapobijejaaGreatDoorC46
import Derived.KernelRfl
namespace Go.Proofs.YtadneapobijejaaGreatDoor
set_option maxHeartbeats 20000000
set_option maxRecDepth 100000
open Go.RowKit Tryz
theorem Wv:(CF none).2=none:=by kernel_rfl
theorem nH:(Hw none).2=none:=by kernel_rfl
theorem mY:(Fz none).2=none:=by kernel_rfl
theorem nB:(EJ none).2=none:=by kernel_rfl
theorem mT(c:Be):(By c none).2=none:=by
 unfold By;rw[show nm none=(⟨#[]⟩:vD)from rfl];rw[uB (by decide),uB (by decide),uB (by decide),uB (by decide)]
theorem Rr{s:St}(h:Ex s)(hk:nmT s≠none):nm s≠bE:=by
 unfold nmT at hk;unfold nm;by_cases e:Ad s 1=true
 ·rw[uC e]
  match s,h,e with
  |none,_,e=>cases e
  |some [],_,e=>cases e
  |some (t::l),h,e=>
   have h1:=(h t uX).2.2.2 (by simpa [Ad,hd]using e);intro q;have:t.s=bE:=q;rw[this]at h1;exact absurd h1 (by decide)
 ·rw[uB e]at hk;exact absurd rfl hk
def NE(c:Be)(s:St):Prop:=s≠none->bE∉c.names
theorem nG(s:St):(Cu s).2=(CF (Hw (Fz (nmT s)).2).2).2:=by unfold Cu;dsimp only
theorem nE(s:St):(Cu s).1.name=nm s:=by unfold Cu;dsimp only
theorem Rs{x y:vD}{l:List vD}(h:x∉l)(k:y≠x):x∉l++[y]:=by
 rw[uZ,List.mem_singleton,not_or];exact⟨h,fun e=>k e.symm⟩
theorem Ws{c:Be}{s:St}(hw:Ex s)(h:NE c s):NE (By c s).1 (By c s).2:=by
 by_cases h0:s=none
 ·subst h0
  intro q;exact absurd (mT c) q
 have hn:=h h0;have hw1:Ex (nmT s):=BH s hw;unfold NE By;by_cases k1:nm s=ME
 ·rw[uC k1];dsimp only;exact fun _=>hn
 rw[uB k1];by_cases k2:nm s=MH
 ·rw[uC k2];dsimp only
  intro q;rw[nG]at q;rw[nE];exact Rs hn (Rr hw1 (fun e=>q (by rw[e,mY,nH,Wv])))
 rw[uB k2];by_cases k3:nm s=NT
 ·rw[uC k3];dsimp only
  intro q;exact Rs hn (Rr hw1 (fun e=>q (by rw[e,Wv])))
 rw[uB k3];by_cases k4:nm s=NW
 ·rw[uC k4];dsimp only
  intro q;exact Rs hn (Rr hw1 (fun e=>q (by rw[e,nB])))
 rw[uB k4];dsimp only;exact fun q=>absurd rfl q
theorem Wy:∀(f:Nat) {c:Be} {s:St},Ex s->NE c s->NE (Er f c s).1 (Er f c s).2
 |0,c,s,_,h=>h
 |f+1,c,s,hw,h=>by
  rw[Er];split
  ·exact h
  ·exact Wy f (Pz c s (BH s hw)) (Ws hw h)
theorem nL(x:vD)(h:EV x=0):bE∉(Aw (Af x)).1.names:=by
 have hd:Eb (Aw (Af x)).2=true:=by
  unfold EV at h;split at h
  ·assumption
  ·cases h
 have hw:=Mo x;refine Wy 801 (Pz FJ _ (BH _ hw)) (Ws hw (fun _=>by simp[FJ])) (fun e=>?_);unfold Eb at hd;rw[show(Aw (Af x)).2=none from e]at hd;cases hd
def FN(c:Be):Prop:=(∀o∈c.objs,o.fields≠[])/\∀i∈c.ifs,i.fields≠[]
theorem Wu(s:St):(CF s).1≠[]:=by unfold CF;dsimp only;exact List.cons_ne_nil _ _
theorem nD(s:St):(Cu s).1.fields=(CF (Hw (Fz (nmT s)).2).2).1:=by unfold Cu;dsimp only
theorem Wr{c:Be}{s:St}(h:FN c):FN (By c s).1:=by
 unfold FN By;by_cases k1:nm s=ME
 ·rw[uC k1];dsimp only;exact h
 rw[uB k1];by_cases k2:nm s=MH
 ·rw[uC k2];dsimp only
  refine⟨fun o ho=>?_,h.2⟩;rcases uZ.1 ho with e|e
  ·exact h.1 o e
  ·rw[List.mem_singleton]at e;rw[e,nD];exact Wu _
 rw[uB k2];by_cases k3:nm s=NT
 ·rw[uC k3];dsimp only
  refine⟨h.1,fun o ho=>?_⟩;rcases uZ.1 ho with e|e
  ·exact h.2 o e
  ·rw[List.mem_singleton]at e;rw[e];exact Wu _
 rw[uB k3];by_cases k4:nm s=NW
 ·rw[uC k4];dsimp only;exact h
 rw[uB k4];dsimp only;exact h
theorem Wx:∀(f:Nat) {c:Be} {s:St},FN c->FN (Er f c s).1
 |0,c,s,h=>h
 |f+1,c,s,h=>by
  rw[Er];split
  ·exact h
  ·exact Wx f (Wr h)
theorem nJ(s:St):FN (Aw s).1:=Wx 801 (Wr ⟨fun o ho=>by simp[FJ]at ho,fun o ho=>by simp[FJ]at ho⟩)
def FR(objs:List Ap)(y:Bc):MR:=((Ae (objs.map Ap.name) y.1).toNat,y.2.2.map (fun c=>(c.1,pv (Dk c.2))))
def BY(objs:List Ap)(ys:List Bc):List (vD×MR):=ys.map (fun y=>(y.2.1,FR objs y))
theorem Xs(objs:List Ap)(ys:List Bc):(BY objs ys).map Prod.fst=ys.map (fun y=>y.2.1):=by unfold BY;rw[List.map_map];rfl
theorem Ok{objs:List Ap}{ys:List Bc}{id:vD}{r:MR}(h:Fp (BY objs ys) id=some r):∃j y,Ae (ys.map (fun y=>y.2.1)) id=(j:Nat)/\ys[j]?=some y/\y.2.1=id/\r=FR objs y:=by
 unfold Fp at h;rw[Xs]at h;split at h
 ·cases h
 ·rename_i hneg
  obtain⟨j,y,hj,hy,he,_⟩:=Cl (fun y:Bc=>y.2.1) ys id hneg;rw[hj,uO]at h;unfold BY at h;rw[uD,hy]at h;exact⟨j,y,hj,hy,he,(tY h).symm⟩
theorem ST(objs:List vD):∀(ys:List Bc) (acc:List AE),GC objs acc ys=true->∀y∈ys,Ly y.1 y.2.1=true
 |[],acc,_,y,hy=>by cases hy
 |z::ys,acc,h,y,hy=>by
  rw[GC,uL]at h;rcases vB.1 hy with e|e
  ·rw[e]
   have h1:=h.1;unfold Jo at h1;simp only[uL]at h1;exact h1.2.2
  ·exact ST objs ys _ h.2 y e
theorem Sg{c:Be}{ys:List Bc}(h:Hx c ys=true):ys.length<=200/\(∀y∈ys,0<=Ae (c.objs.map Ap.name) y.1)/\(∀y∈ys,Ly y.1 y.2.1=true)/\∀y∈ys,GR (DH c.objs (c.ifs.map As.name) (c.uns.map Au.name) c.uns (ys.map (qz (c.objs.map Ap.name)))) c.objs y=true:=by
 unfold Hx Lc at h;simp only[uL,uF]at h;exact⟨h.1,Qc _ _ _ h.2.1,ST _ _ _ h.2.1,fun y hy=>uK.1 h.2.2 y hy⟩
section
variable {c:Be} {ys:List Bc}
theorem qC(hi:∀y∈ys,0<=Ae (c.objs.map Ap.name) y.1){id t:vD}(hR:DH c.objs (c.ifs.map As.name) (c.uns.map Au.name) c.uns (ys.map (qz (c.objs.map Ap.name))) t id=true){r:MR}(hr:Fp (BY c.objs ys) id=some r):AU (c.objs.getD r.1 Gt) c.uns t=true:=by
 obtain⟨j,y,hj,hy,he,rfl⟩:=Ok hr;unfold DH at hR;have hm:(ys.map (qz (c.objs.map Ap.name))).map AE.id=ys.map (fun y=>y.2.1):=by rw[List.map_map];rfl
 rw[hm]at hR;split at hR
 ·cases hR
 rw[hj,uB (by omega),uO,uD,hy]at hR;simp only[Option.map_some]at hR;have h0:=hi y (tO hy);obtain⟨k,o,hk,ho,_,_⟩:=Cl Ap.name c.objs y.1 (by omega);have hqk:(qz (c.objs.map Ap.name) y).k=k:=by unfold qz;simp only[];rw[hk];exact uO k
 rw[hqk,ho]at hR;simp only[uL]at hR;show AU (c.objs.getD (Ae (c.objs.map Ap.name) y.1).toNat Gt) c.uns t=true;rw[hk,uO,List.getD_eq_getElem?_getD,ho];exact hR.2
theorem qB(hne:bE∉c.names)(hnm:Jl c)(id:vD)(rows:List AE):DH c.objs (c.ifs.map As.name) (c.uns.map Au.name) c.uns rows ⟨#[]⟩ id=false:=by
 have h0:cB bE c.names=0:=by
  rcases Nat.eq_zero_or_pos (cB bE c.names)with q|q
  ·exact q
  ·exact absurd (Qi q) hne
 have h1:=hnm bE;have hz:∀l:List vD,cB bE l=0->has l ⟨#[]⟩=false:=fun l hl=>by
  unfold has;refine tT (fun q=>?_);obtain⟨k,a,_,ha,e,_⟩:=Cl (fun z:vD=>z) l bE (by rw[List.map_id'];exact q);have:=JQ (x:=bE) (l:=l) (by rw[<-e];exact tO ha);omega
 have hk:AB (c.objs.map Ap.name) (c.ifs.map As.name) (c.uns.map Au.name) ⟨#[]⟩=0:=by
  unfold AB;rw[uB (show¬Ef ⟨#[]⟩=true by decide),hz _ (by omega),hz _ (by omega),hz _ (by omega)];rfl
 unfold DH;rw[hk];rfl
theorem Ug{E:AJ}{R:vD->vD->Bool}(hR:∀t id,R t id=true->∀r,E.row id=some r->AU (E.obj r.1) E.uns t=true)(he:∀id,R ⟨#[]⟩ id=false):∀(ty:Bo) (k:Nat) (v:RV),Fa k v->CW R ty v=true->Fi E (pv v) ty
 | .one t st,k,.mk sh n s l,ho,h=>by
   have h6:=Fa.one ho;have kp:=Oy h6.1 n s;rw[pv,KY];unfold CW at h;by_cases h4:sh=4
   ·rw[uB (by omega),uB (by omega),uC h4]at h
    have e6:=kp.2.2.2.1.2 h4;have es:=kp.2.2.2.2.2 h4;rw[e6,es];exact .ref (fun r hr=>hR t s h r hr)
   ·refine .lit (fun q=>h4 (kp.2.2.2.1.1 q)) (fun q=>?_)
    have h5:=kp.2.2.1.1 q;rw[uB (by omega),uC h5]at h;cases h
 | .list t st,k,.mk sh n s l,ho,h=>by
   have h6:=Fa.one ho;have kp:=Oy h6.1 n s;rw[pv,KY];unfold CW at h;by_cases h5:sh=5
   ·rw[uB (by omega),uC h5,uK]at h
    have e7:=kp.2.2.1.2 h5;rw[e7];refine .list (fun c hc=>?_);obtain⟨c0,hc0,rfl⟩:=List.mem_map.1 hc;exact Ug hR he t (k-1) c0 (h6.2.2.2 c0 hc0) (h c0 hc0)
   ·refine .lit (fun q=>?_) (fun q=>h5 (kp.2.2.1.1 q))
    have h4:=kp.2.2.2.1.1 q;rw[uB (by omega),uB (by omega),uC h4,he s]at h;cases h
theorem Ue{R:vD->vD->Bool}{wZ:List Al}:∀(cs:List IA) (ns:List vD),Kd R wZ ns cs=true->∀x∈cs,∃f,En wZ x.1=some f/\CW R f.ty (Dk x.2)=true
 |[],ns,_,x,hx=>by cases hx
 |y::cs,ns,h,x,hx=>by
  rw[Kd,uL]at h;rcases vB.1 hx with e|e
  ·subst e
   have h1:=h.1;unfold JU at h1;unfold En;split at h1
   ·rename_i f hf
    simp only[uL,uF]at h1;refine⟨f,by rw[uB (by omega)];exact hf,h1.2.2.2.2⟩
   ·cases h1
  ·exact Ue cs _ h.2 x e
theorem Xq{roles:List vD}{vid:vD}{parts:List Ai}(hs:Hx c ys=true)(hne:bE∉c.names)(hnm:Jl c){y:Bc}(hy:y∈ys):Jm (Ec c (BY c.objs ys) roles vid parts) (FR c.objs y):=by
 obtain⟨_,hi,_,hf⟩:=Sg hs;have h0:=hi y hy;obtain⟨k,o,hk,ho,_,hkl⟩:=Cl Ap.name c.objs y.1 (by omega);have hr1:(FR c.objs y).1=k:=by unfold FR;simp only[];rw[hk];exact uO k
 have hob:(Ec c (BY c.objs ys) roles vid parts).obj (FR c.objs y).1=o:=by
  unfold AJ.obj;rw[hr1];show c.objs.getD k Gt=o;rw[List.getD_eq_getElem?_getD,ho];rfl
 refine⟨by rw[hr1];exact hkl,fun d hd hfd=>?_⟩;rw[hob]at hfd;have hfl:=hf y hy;unfold GR at hfl;rw[hk,uO,ho]at hfl;simp only[]at hfl;have hRR:∀t id,DH c.objs (c.ifs.map As.name) (c.uns.map Au.name) c.uns (ys.map (qz (c.objs.map Ap.name))) t id=true->∀r,(Ec c (BY c.objs ys) roles vid parts).row id=some r->AU ((Ec c (BY c.objs ys) roles vid parts).obj r.1) (Ec c (BY c.objs ys) roles vid parts).uns t=true:=by
  intro t id hR r hr;have hr2:Fp (BY c.objs ys) id=some r:=by
   have hr':Eg c.objs roles vid (BY c.objs ys) id=some r:=hr;unfold Eg at hr';cases hq:Fp (BY c.objs ys) id with
   |none=>rw[hq]at hr';cases hr'
   |some r1=>
    rw[hq,Option.bind_some]at hr';split at hr'
    ·cases hr'
    ·exact hr'
  exact qC hi hR hr2
 unfold Fm;by_cases hneg:Ae ((FR c.objs y).2.map Prod.fst) d.name<0
 ·rw[uC hneg]
  exact .lit (by decide) (by decide)
 ·rw[uB hneg]
  obtain⟨j,x,hj,hx,hxn,_⟩:=Cl Prod.fst (FR c.objs y).2 d.name hneg;rw[hj,uO,hx];have hx':(y.2.2.map (fun c=>(c.1,pv (Dk c.2))))[j]?=some x:=hx;rw[uD]at hx';obtain⟨z,hz,rfl⟩:=uY.1 hx';obtain⟨f,hf1,hf2⟩:=Ue _ _ hfl z (tO hz);have hzn:z.1=d.name:=hxn;rw[hzn,hfd]at hf1;have e:=tY hf1;subst e;exact Ug hRR (fun id=>qB hne hnm id _) d.ty 1603 (Dk z.2) (Rx z.2) hf2
theorem Xr(y:Bc):Ei (FR c.objs y):=fun n=>by
 unfold Fm;split
 ·exact SO
 ·rename_i hneg
  obtain⟨j,x,hj,hx,hxn,_⟩:=Cl Prod.fst (FR c.objs y).2 n hneg;rw[hj,uO,hx];have hx':(y.2.2.map (fun c=>(c.1,pv (Dk c.2))))[j]?=some x:=hx;rw[uD]at hx';obtain⟨z,hz,rfl⟩:=uY.1 hx';exact YL z.2
end
theorem VQ:∀(l:List vD) (i:Nat),(∀x∈l,x.size<=4000)->(DN i l).length<=l.length*8003
 |[],i,_=>by rw[DN];simp
 |x::l,i,h=>by
  rw[DN,uE,uE,uQ];have h1:=VQ l (i+1) (fun y hy=>h y (uW _ hy));have h2:=Nt x.data.toList;have h3:x.data.toList.length=x.size:=by simp
  have h4:=h x uX;have h5:(if 0<i then [44]else []:List UInt8).length<=1:=by split<;>simp
  omega
theorem VT(l:List vD)(h:∀x∈l,x.size<=4000):(Hs l).length<=l.length*8003+2:=by
 unfold Hs;have:=VQ l 0 h;simp;omega
def GW(Z:Aq->Prop)(l:List QF):Prop:=∀f∈l,Z f.1
theorem SU{Z:Aq->Prop}{x:Aq}(hx:Z x):∀{l:List QF},GW Z l->GW Z (CU x l)
 |[],_=>fun f hf=>by
  rw[CU,List.mem_singleton]at hf;rw[hf];exact hx
 |y::l,h=>fun f hf=>by
  rw[CU]at hf;split at hf
  ·rcases vB.1 hf with r|r
   ·rw[r];exact h y uX
   ·exact h f (uW _ r)
  ·rcases vB.1 hf with r|r
   ·rw[r];exact h y uX
   ·exact SU hx (fun g hg=>h g (uW _ hg)) f r
section
variable {parts:List Ai} {of:vD->Bool} {Z:Aq->Prop}
theorem TD{rec:Lj}(hr:∀i c,GW Z c.1->GW Z (rec i c).1):∀(l:List Aq) (c:EO),(∀x∈l,Z x)->GW Z c.1->GW Z (Ct parts of rec l c).1
 |[],c,_,h=>h
 |x::l,c,hx,h=>by
  have hn:=fun{c':EO} (h':GW Z c'.1)=>TD hr l c' (fun y hy=>hx y (uW _ hy)) h';rw[Ct];split
  ·exact hn h
  split
  ·exact hn (c':=(CU x c.1,c.2)) (SU (hx x uX) h)
  ·split
   ·exact hn h
   ·split
    ·exact hn (hr _ _ h)
    ·exact hn h
theorem TH(hZ:∀P∈parts,∀x∈P.sels,Z x):∀(f i:Nat) (c:EO),GW Z c.1->GW Z (Cw parts of f i c).1
 |0,_,_,h=>h
 |f+1,i,c,h=>by
  rw[Cw];split
  ·exact h
  ·exact TD (fun i c h=>TH hZ f i c h) _ (c.1,c.2.set i true) (fun x hx=>hZ _ (tO (KW hx)) x hx) h
theorem Tz(hZ:∀P∈parts,∀x∈P.sels,Z x):∀(l:List Nat) (c:EO),GW Z c.1->GW Z (FK parts of l c).1
 |[],c,h=>h
 |i::l,c,h=>by
  rw[FK];exact Tz hZ l _ (TH hZ _ _ _ h)
theorem ZY(hZ:∀P∈parts,∀x∈P.sels,Z x)(ps:List Nat):GW Z (Dt parts of ps):=Tz hZ ps _ (fun f hf=>by cases hf)
end
theorem Tm:bQ=Ig:=by decide
structure NQ(c:Be):Prop where
 n:c.names.length<=804
 o:∀o∈c.objs,o.fields.length<=802
 i:∀i∈c.ifs,i.fields.length<=802
section
variable {x:vD} {ys:List Bc}
theorem lZ(k:Nat):((Aw (Af x)).1.objs.getD k Gt).name.size<=4000:=by
 have hz:GU (Aw (Af x)).1:=NC _ (Mo x);rw[List.getD_eq_getElem?_getD];cases ho:(Aw (Af x)).1.objs[k]? with
 |none=>decide
 |some o=>
  have h1:=WA (Af x) o.name;have h2:=JQ (x:=o.name) (l:=(Aw (Af x)).1.objs.map Ap.name) (List.mem_map.2 ⟨o,tO ho,rfl⟩);exact hz.2.2.2.2 o.name (Qi (by omega))
theorem Xg(hc:EV x=0):∃k o,Ae ((Aw (Af x)).1.objs.map Ap.name) bQ=(k:Nat)/\(Aw (Af x)).1.objs[k]?=some o/\o.name=bQ/\k<(Aw (Af x)).1.objs.length:=by
 have hr:=Ph x hc;unfold GQ at hr;simp only[uL]at hr;have h1:=hr.2.2.2.2.2;unfold Ix at h1;rw[<-Tm]at h1;split at h1
 ·cases h1
 ·rename_i hneg
  obtain⟨k,o,h2,h3,h4,h5⟩:=Cl Ap.name (Aw (Af x)).1.objs bQ hneg;exact⟨k,o,h2,h3,h4,h5⟩
theorem qM(hc:EV x=0)(hs:Hx (Aw (Af x)).1 ys=true):(Co (Aw (Af x)).1.objs (BY (Aw (Af x)).1.objs ys)).1<(Aw (Af x)).1.objs.length/\((Aw (Af x)).1.objs.getD (Co (Aw (Af x)).1.objs (BY (Aw (Af x)).1.objs ys)).1 Gt).name=bQ/\((∃y∈ys,Co (Aw (Af x)).1.objs (BY (Aw (Af x)).1.objs ys)=FR (Aw (Af x)).1.objs y)\/(Co (Aw (Af x)).1.objs (BY (Aw (Af x)).1.objs ys)).2=[]):=by
 obtain⟨kq,oq,q1,q2,q3,q4⟩:=Xg hc;obtain⟨_,hi,hh,_⟩:=Sg hs;unfold Co;cases hf:Fp (BY (Aw (Af x)).1.objs ys) bE with
 |none=>
  simp only[Option.getD_none];rw[q1,uO];exact⟨q4,by rw[List.getD_eq_getElem?_getD,q2];exact q3,.inr (by simp)⟩
 |some r=>
  simp only[Option.getD_some];obtain⟨j,y,hj,hy,he,rfl⟩:=Ok hf;have hm:=tO hy;have h0:=hi y hm;obtain⟨k,o,hk,ho,hn,hkl⟩:=Cl Ap.name (Aw (Af x)).1.objs y.1 (by omega);have hty:y.1=bQ:=by
   have:=hh y hm;unfold Ly at this;rw[he,<-Tm]at this;simpa using this
  have hr1:(FR (Aw (Af x)).1.objs y).1=k:=by unfold FR;dsimp only;rw[hk];exact uO k
  rw[hr1];exact⟨hkl,by rw[List.getD_eq_getElem?_getD,ho,<-hty];exact hn,.inl ⟨y,hm,rfl⟩⟩
theorem Yl{c:Be}{roles:List vD}{vid id:vD}{rows:List (vD×MR)}{r:MR}(h:Eg c.objs roles vid rows id=some r):Fp rows id=some r:=by
 unfold Eg at h;cases hq:Fp rows id with
 |none=>rw[hq]at h;cases h
 |some r1=>
  rw[hq,Option.bind_some]at h;split at h
  ·cases h
  ·exact h
theorem Ud(hz:NQ (Aw (Af x)).1){typ:vD}{fs:List Al}(h:DU (Aw (Af x)).1.objs (Aw (Af x)).1.ifs typ=some fs):fs≠[]/\fs.length<=802/\∀f∈fs,f.name.size<=4000:=by
 have hs:GU (Aw (Af x)).1:=NC _ (Mo x);have hn:=nJ (Af x);rcases QA h with⟨o,ho,_,rfl⟩|⟨_,i,hi,_,rfl,_⟩
 ·exact⟨hn.1 o ho,hz.o o ho,(hs.2.1 o ho).1⟩
 ·exact⟨hn.2 i hi,hz.i i hi,hs.2.2.1 i hi⟩
theorem rV(hz:NQ (Aw (Af x)).1){roles:List vD}{vid:vD}{parts:List Ai}(hk:∀P∈parts,∀s∈P.sels,s.key.size<=4000):Ia (Ec (Aw (Af x)).1 (BY (Aw (Af x)).1.objs ys) roles vid parts) where
 nm:=by
  have hs:GU (Aw (Af x)).1:=NC _ (Mo x);have h1:=VT (Aw (Af x)).1.names hs.2.2.2.2;have h2:=hz.n;show(Hs (Aw (Af x)).1.names).length<=_;omega
 fl:=fun t=>by
  show(KH (Ec (Aw (Af x)).1 (BY (Aw (Af x)).1.objs ys) roles vid parts) t).length<=_;rw[show KH (Ec (Aw (Af x)).1 (BY (Aw (Af x)).1.objs ys) roles vid parts) t=JT (Aw (Af x)).1.objs (Aw (Af x)).1.ifs roles t from by
   unfold KH JT Gv;show(match DU (Aw (Af x)).1.objs (Aw (Af x)).1.ifs t with|none=>_|some fs=>_)=_;cases DU (Aw (Af x)).1.objs (Aw (Af x)).1.ifs t<;>rfl]
  unfold JT Gv;cases hf:DU (Aw (Af x)).1.objs (Aw (Af x)).1.ifs t with
  |none=>show Hy.length<=10000000;decide
  |some fs=>
   obtain⟨_,h2,h3⟩:=Ud hz hf;have h4:=VT ((fs.filter (fun f=>Dy roles f.hide_)).map Al.name) (fun n hn=>by
    obtain⟨f,hf,rfl⟩:=List.mem_map.1 hn;exact h3 f (List.mem_filter.1 hf).1)
   have h5:((fs.filter (fun f=>Dy roles f.hide_)).map Al.name).length<=fs.length:=by rw[uP];exact List.length_filter_le _ _
   simp only[];omega
 on:=fun k=>lZ k
 key:=fun of ps f hf=>ZY (Z:=fun s=>s.key.size<=4000) hk ps f hf
 row:=fun id r hr=>by
  have hr':Eg (Aw (Af x)).1.objs roles vid (BY (Aw (Af x)).1.objs ys) id=some r:=hr;obtain⟨j,y,_,_,_,rfl⟩:=Ok (Yl hr');exact Xr y
theorem nY(hz:NQ (Aw (Af x)).1)(hc:EV x=0)(hs:Hx (Aw (Af x)).1 ys=true){roles:List vD}{vid qt vt:vD}{l:AL}(h1:Eb (BD (Af qt)).2=true)(h2:(BD (Af qt)).1.ops.length=1)(h3:Fl (FZ (Af vt)).1 (Hu (Cm (BD (Af qt)).1)) []=some l)(h4:In ⟨(Aw (Af x)).1.objs,(Aw (Af x)).1.ifs,(Aw (Af x)).1.uns,roles⟩ (Ds l (Cm (BD (Af qt)).1)).parts (CE (BD (Af qt)).1)=true):PO (Aw (Af x)).1 (BY (Aw (Af x)).1.objs ys) roles vid (Ds l (Cm (BD (Af qt)).1)).parts (CE (BD (Af qt)).1):=by
 have hqz:=WY qt;have hqd:=oR qt;obtain⟨hqt,hqf⟩:=WX qt;have hvz:VZ l:=Tp (sS vt) _ [] l (fun v hv=>by
  unfold Hu at hv;split at hv
  ·cases hv
  ·rename_i o r e
   exact hqd o (by have e':(BD (Af qt)).1.ops=o::r:=e;rw[e'];exact uX) v hv) VZ.nil h3
 have hbs:=Zz hqz.link hvz;have hne:(BD (Af qt)).2≠none:=fun e=>by rw[e]at h1;cases h1
 have hfr:=hqf hne;generalize BD (Af qt)=QR at*;obtain⟨Q,Qs⟩:=QR;simp only[]at*;have hops:∃vs,Q.ops=[(vs,CE Q)]:=by
  unfold CE
  match ho:Q.ops with
  |[]=>rw[ho]at h2;cases h2
  |[o]=>exact⟨o.1,rfl⟩
  |o::p::r=>rw[ho]at h2;simp at h2
 obtain⟨vs,hops⟩:=hops;have hwm:CE Q∈Q.ops.map Prod.snd:=by rw[hops];simp
 have hwl:CE Q<Q.parts.length:=(hqt.c (CE Q)).2 (by have:0<(Q.ops.map Prod.snd).count (CE Q):=List.count_pos_iff.2 hwm;omega);generalize CE Q=whole at*;have hroot:=qM hc hs;have hrn:=nL x hc;have hnm:=WA (Af x);have hri:=Ph x hc;have hse:=rV (ys:=ys) (roles:=roles) (vid:=vid) hz (fun P hP s hs'=>(hbs P hP s hs').1);have hrs:Ei (Co (Aw (Af x)).1.objs (BY (Aw (Af x)).1.objs ys)):=by
  rcases hroot.2.2 with⟨y,_,e⟩|e
  ·rw[e];exact Xr y
  ·intro n
   unfold Fm;rw[e];exact SO
 have hro:Jm (Ec (Aw (Af x)).1 (BY (Aw (Af x)).1.objs ys) roles vid (Ds l (Cm Q)).parts) (Co (Aw (Af x)).1.objs (BY (Aw (Af x)).1.objs ys)):=by
  rcases hroot.2.2 with⟨y,hy,e⟩|e
  ·rw[e];exact Xq hs hrn hnm hy
  ·refine⟨hroot.1,fun d _ _=>?_⟩
   unfold Fm;rw[e];exact .lit (by decide) (by decide)
 refine⟨fun P hP s hs'=>(hbs P hP s hs').1,fun P hP s hs'=>(hbs P hP s hs').2,hse,hrs,hro,?_⟩;rw[UP]at h4⊢;unfold In at h4;rw[uL]at h4;have hpin:BM (Gp l Q):=WD hqt;have hpl:(Gp l Q).length=Q.parts.length:=by unfold Gp;rw[uP]
 have hwl2:whole<(Gp l Q).length:=by rw[hpl];exact hwl
 obtain⟨m,hm1,hm2⟩:=YR hpin hwl2 h4.2;refine⟨m,⟨⟨hpin,fun p T hT=>YU (sG hqt hfr hwm) hpin hwl2 h4.1 hT,hm2,hwl2⟩,rE hnm hri roles,fun id r hr=>?_⟩,⟨fun p hp=>?_,fun p hp q hq a ha b hb=>?_⟩⟩
 ·have hr':Eg (Aw (Af x)).1.objs roles vid (BY (Aw (Af x)).1.objs ys) id=some r:=hr
  obtain⟨j,y,_,hy,_,rfl⟩:=Ok (Yl hr');exact Xq hs hrn hnm (tO hy)
 ·rw[List.mem_singleton]at hp
  subst hp;refine⟨bQ,.root,?_⟩;have hob:((Ec (Aw (Af x)).1 (BY (Aw (Af x)).1.objs ys) roles vid (Gp l Q)).obj (Co (Aw (Af x)).1.objs (BY (Aw (Af x)).1.objs ys)).1).name=bQ:=hroot.2.1;unfold AU;rw[hob];simp
 ·rw[List.mem_singleton]at hp hq
  subst hp;subst hq;exact hm1 a ha b hb
end
structure YK(l:List At):Prop where
 n:(l.map At.name).Nodup
 i:∀x∈l,∀y∈x.inc,y∈l.map At.name/\y.size<=4000
 s:∀y∈l.map At.name,y.size<=4000
theorem qK{c:Be}(h:GQ c=true)(hz:GU c):YK c.roles:=by
 unfold GQ RU at h;simp only[uL]at h;obtain⟨⟨h1,h2, -⟩, -⟩:=h;refine⟨(Jy _).1 h1,fun x hx y hy=>?_,fun y hy=>?_⟩
 ·rw[uK]at h2
  have h3:=h2 x hx;rw[uK]at h3;exact⟨(Fv _ _).1 (h3 y hy),(hz.1 x hx).2 y hy⟩
 ·obtain⟨x,hx,rfl⟩:=List.mem_map.1 hy
  exact(hz.1 x hx).1
theorem pY{x:vD}{ys:List Bc}(h:EN x ys=0):EV x=0/\Hx (Aw (Af x)).1 ys=true:=by
 unfold EN at h;split at h
 ·refine⟨‹_›,?_⟩
  split at h
  ·assumption
  ·cases h
 ·exact absurd h ‹_›
theorem JM.rows{w:World}{T S gO:Nat}{LO:List AV}{c:Be}{ys:List Bc}(mO:LO.map Prod.fst=c.objs)(h:JM w T S gO c.objs ys)(hs:Hx c ys=true)(hcl:∀y∈ys,y.2.2.length<=1000000):∃M B vL qs,IF w T S M gO B LO vL qs (BY c.objs ys):=by
 obtain⟨M,B,vL,qs,h1,h2,h3⟩:=h.ex;obtain⟨_,hi,_,_⟩:=Sg hs;have hids:qs.map AE.id=(BY c.objs ys).map Prod.fst:=by
  rw[Xs];refine List.ext_getElem? (fun j=>?_);rw[uD,uD];cases hq:qs[j]? with
  |none=>
   have:ys[j]?=none:=by rw[List.getElem?_eq_none_iff]at hq⊢;omega
   rw[this];rfl
  |some q=>
   obtain⟨y,hy⟩:∃y,ys[j]?=some y:=⟨_,tN (by have:=(tP.1 hq).1;omega)⟩;rw[hy];exact congrArg some (h3 j q y hq hy).id
 refine⟨M,B,vL,qs,h1,hids,fun j q x g cap hq hx hv=>?_⟩;unfold BY at hx;rw[uD]at hx;obtain⟨y,hy,rfl⟩:=uY.1 hx;have hm:=h3 j q y hq hy;obtain⟨gR,cap',e,c0,c1,c2⟩:=h1.at hq;rw[hv]at e;have eg:=(Addr.mk.inj (tY (Value.slice.inj e).1)).1;subst eg;have h0:=hi y (tO hy);obtain⟨k,o,hk,ho,_,hkl⟩:=Cl Ap.name c.objs y.1 (by omega);have hqk:q.k=k:=by rw[hm.k,hk];exact uO k
 have hrk:(FR c.objs y).1=k:=by unfold FR;dsimp only;rw[hk];exact uO k
 have hce:=hm.a.e;have hlen:q.cs.length=y.2.2.length:=by rw[<-hce,uP]
 refine⟨by rw[hrk];rw[<-mO,uP]at hkl;exact hkl,by rw[hrk,<-hqk];exact c0,⟨q.v,c2,hm.c⟩,by rw[hlen];exact hcl y (tO hy),?_,fun i cc xx hc hxx=>?_,fun cc hcc=>(hm.v cc hcc).2⟩
 ·show q.cs.map Cv=(y.2.2.map (fun c=>(c.1,pv (Dk c.2)))).map Prod.fst
  rw[List.map_map,<-hce,List.map_map];rfl
 ·have hxx':(y.2.2.map (fun c=>(c.1,pv (Dk c.2))))[i]?=some xx:=hxx
  rw[uD]at hxx';obtain⟨z,hz,rfl⟩:=uY.1 hxx';have hz2:z=(cc.f.name,cc.t):=by
   rw[<-hce,uD,hc]at hz;exact(tY hz).symm
  rw[hz2];exact(hm.v cc (tO hc)).1
def FU(x:vD)(ys:List Bc)(vG vid qt vt:vD)(b:Int):vD:=My (Aw (Af x)).1 (BY (Aw (Af x)).1.objs ys) vG vid qt vt b
theorem gD{w:World}{T:Nat}{x:vD}{ys:List Bc}(hk:Ji w T (Aw (Af x)).1 ys)(hz:EN x ys=0)(hcl:∀y∈ys,y.2.2.length<=1000000)(hit:Gz w)(vG vid qt vt:vD)(b:Int)(h1:vG.size<=2000000)(h2:qt.size<=2000000)(h3:vt.size<=2000000):
 Calls prog 12 #[.pointer (some ⟨T,0,none⟩),.agg #[.string vG,.string vid,.string qt,.string vt,.int .i64 b]] w fun e w'=>e=.returned (.string (FU x ys vG vid qt vt b))/\vE w w':=by
 obtain⟨hc,hs⟩:=pY hz;obtain⟨S,gO,vR,vO,vI,vU,vN,LR,LO,LI,LU,hsv,mR,mO,mI,mU,hg,hT⟩:=hk.ex;obtain⟨M,B,vL,qs,hst⟩:=hT.rows mO hs hcl;have hsz:GU (Aw (Af x)).1:=NC _ (Mo x);have hro:=qK (Ph x hc) hsz;have hnr:(Aw (Af x)).1.roles.map At.name=LR.map rN:=by rw[<-mR,List.map_map];rfl
 have hss:NQ (Aw (Af x)).1:=⟨hsv.ln,fun o ho=>by
  rw[<-mO]at ho;obtain⟨z,hz,rfl⟩:=List.mem_map.1 ho;exact(hsv.o.ok z hz).2.1,fun i hi=>by
  rw[<-mI]at hi;obtain⟨z,hz,rfl⟩:=List.mem_map.1 hi;exact(hsv.i.ok z hz).2⟩
 obtain⟨kq,oq,q1,q2,q3,q4⟩:=Xg hc;unfold FU;refine YZ hsv mR mO mI mU hg hst hit (fun n hn=>by have:=hsz.2.2.2.2 n hn;omega) (fun typ fs hf=>?_) ?_ (by rw[<-hnr];exact hro.n) (fun z hz y hy=>?_) (by rw[<-hnr];exact hro.s) vG vid qt vt b h1 h2 h3 (fun l g1 g2 g3 g4 g5=>nY hss hc hs g1 g2 g4 g5)
 ·rw[mO,mI]at hf
  obtain⟨a1,a2,a3⟩:=Ud hss hf;exact⟨a1,fun f hf'=>by have:=a3 f hf';omega⟩
 ·have e:LO.map oN=(Aw (Af x)).1.objs.map Ap.name:=by rw[<-mO,List.map_map];rfl
  rw[e,q1];omega
 ·rw[<-hnr]
  exact hro.i z.1 (by rw[<-mR];exact List.mem_map_of_mem hz) y hy
theorem XI{w:World}{V T:Nat}{x:vD}{ys:List Bc}(hS:JL w V T)(hk:Ji w T (Aw (Af x)).1 ys)(hz:EN x ys=0)(hcl:∀y∈ys,y.2.2.length<=1000000)(hit:Gz w)(vG vid qt vt:vD)(b:Int)(h1:vG.size<=2000000)(h2:qt.size<=2000000)(h3:vt.size<=2000000):
 Calls prog 6 #[.pointer (some ⟨V,0,none⟩),.agg #[.string vG,.string vid,.string qt,.string vt,.int .i64 b]] w fun e w'=>e=.returned (.string (FU x ys vG vid qt vt b))/\vE w w':=by
 have HA:=Aa (fun(X:World) (hX:vE w X)=>gD (hk.below hX) hz hcl (hit.below hX) vG vid qt vt b h1 h2 h3);have HK:=Aa (fun(X:World) (hX:vE w X)=>gE (w:=X) (V:=V) (T:=T) ((hX.block _ (Ab hS)).trans hS));generalize FU x ys vG vid qt vt b=RES at*;have hbA:=bA (tM w.heap.size w) (.cells #[.string vG,.string vid,.string qt,.string vt,.int .i64 b] 26);have HNA:=Aa (tS w (.cells #[.string vG,.string vid,.string qt,.string vt,.int .i64 b] 26));have HBA:=Aa hbA;clear hk hS hbA hit hcl hz;go_enter func6,ntmps6;go_upto_region 1 with fail;generalize w.alloc (.cells #[.string vG,.string vid,.string qt,.string vt,.int .i64 b] 26)=W1 at*;have lA:=Ab HNA.o;have HSS:=Aa (fun V' (hV:vE W1 V')=>uV hV (uV (Ac ((hV.block _ lA).trans HNA.o)) (tV lA hV.size)));have HK2:=Aa (HK.o W1.drew (HBA.o.trans (tM _ _).drew));go_region_held3 (fun V'=>vE W1 V'/\(∀j,V'.cell? ⟨w.heap.size,j,none⟩=(#[.string vG,.string vid,.string qt,.string vt,.int .i64 b]:Array Value)[j]?)/\w.heap.size<V'.heap.size)
  (first|exact HSS.o _ (tM _ _).drew|exact HSS.o _ ((tM _ _).drew.trans b2)|exact HSS.o _ (((tM _ _).drew.trans b2).trans (b3.mono ((tM W1.heap.size W1).drew.trans b2).size)))
  (first|(go_at_call 13;refine HK2.o.mono ?_;rintro _ w2 ⟨rfl,b2⟩)|(go_at_call 12;refine(HA.o w2 (bT HBA.o ((tM _ _).drew.trans b2))).mono ?_;rintro _ w3 ⟨rfl,b3⟩))
 all_goals(
  have HB3:=Aa (bT HBA.o (bT ((tM W1.heap.size W1).drew.trans b2) b3));clear b2 b3;go_wp2_with fail;go_ret;exact⟨rfl,HB3.o⟩)
def KG:vD:=⟨#[114,111,108,101,32,117,115,101,114,32,114,111,108,101,32,98,111,115,115,32,58,32,117,115,101,114,32,116,121,112,101,32,81,117,101,114,121,32,123,32,109,101,40,105,100,58,32,73,68,41,58,32,80,101,114,115,111,110,32,116,101,97,109,58,32,91,80,101,114,115,111,110,93,32,125,32,105,110,116,101,114,102,97,99,101,32,78,97,109,101,100,32,123,32,110,97,109,101,58,32,83,116,114,105,110,103,33,32,125,32,116,121,112,101,32,80,101,114,115,111,110,32,105,109,112,108,101,109,101,110,116,115,32,78,97,109,101,100,32,64,114,111,119,115,40,111,112,101,110,32,61,32,116,114,117,101,32,111,114,32,105,115,32,98,111,115,115,41,32,123,32,110,97,109,101,58,32,83,116,114,105,110,103,33,32,111,112,101,110,58,32,66,111,111,108,101,97,110,32,112,97,121,58,32,73,110,116,32,64,97,117,116,104,40,98,111,115,115,41,32,110,111,116,101,58,32,83,116,114,105,110,103,32,64,104,105,100,101,40,98,111,115,115,41,32,102,114,105,101,110,100,58,32,78,97,109,101,100,32,125]⟩
def Gm:List Bc:=[(⟨#[81,117,101,114,121]⟩,⟨#[]⟩,[(⟨#[116,101,97,109]⟩,⟨#[91,64,34,97,34,32,64,34,98,34,32,64,34,122,34,93]⟩)]),(⟨#[80,101,114,115,111,110]⟩,⟨#[97]⟩,[(⟨#[110,97,109,101]⟩,⟨#[34,65,110,110,34]⟩),(⟨#[111,112,101,110]⟩,⟨#[116,114,117,101]⟩),(⟨#[112,97,121]⟩,⟨#[55]⟩),(⟨#[102,114,105,101,110,100]⟩,⟨#[64,34,98,34]⟩)]),(⟨#[80,101,114,115,111,110]⟩,⟨#[98]⟩,[(⟨#[110,97,109,101]⟩,⟨#[34,66,111,34]⟩),(⟨#[111,112,101,110]⟩,⟨#[102,97,108,115,101]⟩)])]
def TW:vD:=⟨#[123,34,100,97,116,97,34,58,123,34,116,101,97,109,34,58,91,123,34,110,97,109,101,34,58,34,65,110,110,34,125,44,110,117,108,108,44,110,117,108,108,93,125,44,34,101,114,114,111,114,115,34,58,91,123,34,109,101,115,115,97,103,101,34,58,34,110,111,116,32,97,118,97,105,108,97,98,108,101,34,44,34,112,97,116,104,34,58,91,34,116,101,97,109,34,44,49,93,125,44,123,34,109,101,115,115,97,103,101,34,58,34,110,111,116,32,97,118,97,105,108,97,98,108,101,34,44,34,112,97,116,104,34,58,91,34,116,101,97,109,34,44,50,93,125,93,125]⟩
def TX:vD:=⟨#[123,34,100,97,116,97,34,58,123,34,109,101,34,58,123,34,110,97,109,101,34,58,34,66,111,34,125,125,125]⟩
theorem TZ:EN KG Gm=0:=by kernel_rfl
theorem bU:FU KG Gm ⟨#[117,115,101,114]⟩ ⟨#[]⟩ ⟨#[123,116,101,97,109,123,110,97,109,101,125,125]⟩ ⟨#[]⟩ 5000=TW:=by kernel_rfl
theorem bV:FU KG Gm ⟨#[98,111,115,115]⟩ ⟨#[]⟩ ⟨#[123,109,101,40,105,100,58,34,98,34,41,123,110,97,109,101,125,125]⟩ ⟨#[]⟩ 5000=TX:=by kernel_rfl
end Go.Proofs.YtadneapobijejaaGreatDoor
