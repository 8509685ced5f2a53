import Derived.Test.YtogdodlibkckkaaGreatDoorZ46
import Derived.KernelRfl
namespace Go.Proofs.YtogdodlibkckkaaGreatDoor
set_option maxHeartbeats 20000000
set_option maxRecDepth 100000
open Go.RowKit Tryz
theorem XA:(CL none).2=none:=by kernel_rfl
theorem qG:(Ih none).2=none:=by kernel_rfl
theorem pZ:(FI none).2=none:=by kernel_rfl
theorem qC:(EW none).2=none:=by kernel_rfl
theorem pU(c:Be):(BA c none).2=none:=by
 unfold BA;rw[show nm none=(⟨#[]⟩:yF)from rfl];rw[xG (by decide),xG (by decide),xG (by decide),xG (by decide)]
theorem Sh{s:St}(a:LD s)(b:nmT s≠none):nm s≠bE:=by
 unfold nmT at b;unfold nm;by_cases e:Ae s 1=true
 ·rw[xH e]
  match s,a,e with
  |none,_,e=>cases e
  |some [],_,e=>cases e
  |some (t::l),a,e=>
   have c:=(a t yB).2.2.2 (by simpa [Ae,hd]using e);intro q;have:t.s=bE:=q;rw[this]at c;exact absurd c (by decide)
 ·rw[xG e]at b;exact absurd rfl b
def NE(c:Be)(s:St):Prop:=s≠none->bE∉c.names
theorem qF(s:St):(CB s).2=(CL (Ih (FI (nmT s)).2).2).2:=by unfold CB;dsimp only
theorem qE(s:St):(CB s).1.name=nm s:=by unfold CB;dsimp only
theorem Si{x y:yF}{l:List yF}(a:x∉l)(k:y≠x):x∉l++[y]:=by
 rw[yD,List.mem_singleton,not_or];exact⟨a,fun e=>k e.symm⟩
theorem Xx{c:Be}{s:St}(j:LD s)(i:NE c s):NE (BA c s).1 (BA c s).2:=by
 by_cases d:s=none
 ·subst d
  intro q;exact absurd (pU c) q
 have a:=i d;have b:LD (nmT s):=BK s j;unfold NE BA;by_cases f:nm s=Nc
 ·rw[xH f];dsimp only;exact fun _=>a
 rw[xG f];by_cases k2:nm s=Ng
 ·rw[xH k2];dsimp only
  intro q;rw[qF]at q;rw[qE];exact Si a (Sh b (fun e=>q (by rw[e,pZ,qG,XA])))
 rw[xG k2];by_cases g:nm s=Oy
 ·rw[xH g];dsimp only
  intro q;exact Si a (Sh b (fun e=>q (by rw[e,XA])))
 rw[xG g];by_cases h:nm s=OC
 ·rw[xH h];dsimp only
  intro q;exact Si a (Sh b (fun e=>q (by rw[e,qC])))
 rw[xG h];dsimp only;exact fun q=>absurd rfl q
theorem XD:∀(f:Nat) {c:Be} {s:St},LD s->NE c s->NE (EC f c s).1 (EC f c s).2
 |0,c,s,_,a=>a
 |f+1,c,s,b,a=>by
  rw[EC];split
  ·exact a
  ·exact XD f (Qt c s (BK s b)) (Xx b a)
theorem qJ(x:yF)(a:Fj x=0):bE∉(Ao (Ad x)).1.names:=by
 have hd:Ec (Ao (Ad x)).2=true:=by
  unfold Fj at a;split at a
  ·assumption
  ·cases a
 have b:=MH x;refine XD 801 (Qt Ga _ (BK _ b)) (Xx b (fun _=>by simp[Ga])) (fun e=>?_);unfold Ec at hd;rw[show(Ao (Ad x)).2=none from e]at hd;cases hd
def FN(c:Be):Prop:=(∀o∈c.objs,o.fields≠[])/\∀i∈c.ifs,i.fields≠[]
theorem Xz(s:St):(CL s).1≠[]:=by unfold CL;dsimp only;exact List.cons_ne_nil _ _
theorem qD(s:St):(CB s).1.fields=(CL (Ih (FI (nmT s)).2).2).1:=by unfold CB;dsimp only
theorem Xw{c:Be}{s:St}(a:FN c):FN (BA c s).1:=by
 unfold FN BA;by_cases d:nm s=Nc
 ·rw[xH d];dsimp only;exact a
 rw[xG d];by_cases k2:nm s=Ng
 ·rw[xH k2];dsimp only
  refine⟨fun o b=>?_,a.2⟩;rcases yD.1 b with e|e
  ·exact a.1 o e
  ·rw[List.mem_singleton]at e;rw[e,qD];exact Xz _
 rw[xG k2];by_cases f:nm s=Oy
 ·rw[xH f];dsimp only
  refine⟨a.1,fun o b=>?_⟩;rcases yD.1 b with e|e
  ·exact a.2 o e
  ·rw[List.mem_singleton]at e;rw[e];exact Xz _
 rw[xG f];by_cases g:nm s=OC
 ·rw[xH g];dsimp only;exact a
 rw[xG g];dsimp only;exact a
theorem XC:∀(f:Nat) {c:Be} {s:St},FN c->FN (EC f c s).1
 |0,c,s,a=>a
 |f+1,c,s,a=>by
  rw[EC];split
  ·exact a
  ·exact XC f (Xw a)
theorem qI(s:St):FN (Ao s).1:=XC 801 (Xw ⟨fun o a=>by simp[Ga]at a,fun o a=>by simp[Ga]at a⟩)
def FO(objs:List Aq)(y:AY):MR:=((Af (objs.map Aq.name) y.1).toNat,y.2.2.map (fun c=>(c.1,pv (CZ c.2))))
def BC(objs:List Aq)(ys:List AY):List (yF×MR):=ys.map (fun y=>(y.2.1,FO objs y))
theorem YA(objs:List Aq)(ys:List AY):(BC objs ys).map Prod.fst=ys.map (fun y=>y.2.1):=by unfold BC;rw[List.map_map];rfl
theorem LW{objs:List Aq}{ys:List AY}{id:yF}{r:MR}(a:Fl (BC objs ys) id=some r):∃j y,Af (ys.map (fun y=>y.2.1)) id=(j:Nat)/\ys[j]?=some y/\y.2.1=id/\r=FO objs y:=by
 unfold Fl at a;rw[YA]at a;split at a
 ·cases a
 ·rename_i e
  obtain⟨j,y,b,c,d,_⟩:=Cu (fun y:AY=>y.2.1) ys id e;rw[b,xS]at a;unfold BC at a;rw[xI,c]at a;exact⟨j,y,b,c,d,(xD a).symm⟩
theorem TJ(objs:List yF):∀(ys:List AY) (a:List AE),GQ objs a ys=true->∀y∈ys,LZ y.1 y.2.1=true
 |[],a,_,y,d=>by cases d
 |z::ys,a,b,y,d=>by
  rw[GQ,xQ]at b;rcases yE.1 d with e|e
  ·rw[e]
   have c:=b.1;unfold Jy at c;simp only[xQ]at c;exact c.2.2
  ·exact TJ objs ys _ b.2 y e
theorem SU{c:Be}{ys:List AY}(a:Ij c ys=true):ys.length<=200/\(∀y∈ys,0<=Af (c.objs.map Aq.name) y.1)/\(∀y∈ys,LZ y.1 y.2.1=true)/\∀y∈ys,Hf (DS c.objs (c.ifs.map At.name) (c.uns.map Aw.name) c.uns (ys.map (qz (c.objs.map Aq.name)))) c.objs y=true:=by
 unfold Ij Lt at a;simp only[xQ,xK]at a;exact⟨a.1,QO _ _ _ a.2.1,TJ _ _ _ a.2.1,fun y b=>xP.1 a.2.2 y b⟩
section
variable {c:Be} {ys:List AY}
theorem sS(f:∀y∈ys,0<=Af (c.objs.map Aq.name) y.1){id t:yF}(a:DS c.objs (c.ifs.map At.name) (c.uns.map Aw.name) c.uns (ys.map (qz (c.objs.map Aq.name))) t id=true){r:MR}(l:Fl (BC c.objs ys) id=some r):AW (c.objs.getD r.1 Ge) c.uns t=true:=by
 obtain⟨j,y,g,e,n,rfl⟩:=LW l;unfold DS at a;have h:(ys.map (qz (c.objs.map Aq.name))).map AE.id=ys.map (fun y=>y.2.1):=by rw[List.map_map];rfl
 rw[h]at a;split at a
 ·cases a
 rw[g,xG (by omega),xS,xI,e]at a;simp only[Option.map_some]at a;have m:=f y (wT e);obtain⟨k,o,b,d,_,_⟩:=Cu Aq.name c.objs y.1 (by omega);have i:(qz (c.objs.map Aq.name) y).k=k:=by unfold qz;simp only[];rw[b];exact xS k
 rw[i,d]at a;simp only[xQ]at a;show AW (c.objs.getD (Af (c.objs.map Aq.name) y.1).toNat Ge) c.uns t=true;rw[b,xS,List.getD_eq_getElem?_getD,d];exact a.2
theorem sR(g:bE∉c.names)(h:Jv c)(id:yF)(rows:List AE):DS c.objs (c.ifs.map At.name) (c.uns.map Aw.name) c.uns rows ⟨#[]⟩ id=false:=by
 have i:cB bE c.names=0:=by
  rcases Nat.eq_zero_or_pos (cB bE c.names)with q|q
  ·exact q
  ·exact absurd (QY q) g
 have j:=h bE;have b:∀l:List yF,cB bE l=0->has l ⟨#[]⟩=false:=fun l m=>by
  unfold has;refine wY (fun q=>?_);obtain⟨k,a,_,d,e,_⟩:=Cu (fun z:yF=>z) l bE (by rw[List.map_id'];exact q);have:=Kd (x:=bE) (l:=l) (by rw[<-e];exact wT d);omega
 have f:AB (c.objs.map Aq.name) (c.ifs.map At.name) (c.uns.map Aw.name) ⟨#[]⟩=0:=by
  unfold AB;rw[xG (show¬Ep ⟨#[]⟩=true by decide),b _ (by omega),b _ (by omega),b _ (by omega)];rfl
 unfold DS;rw[f];rfl
theorem Vd{E:AM}{R:yF->yF->Bool}(h:∀t id,R t id=true->∀r,E.row id=some r->AW (E.obj r.1) E.uns t=true)(j:∀id,R ⟨#[]⟩ id=false):∀(m:Bv) (k:Nat) (v:RV),Fq k v->Dh R m v=true->Fw E (pv v) m
 | .one t st,k,.mk sh n s l,g,a=>by
   have f:=Fq.one g;have b:=Ph f.1 n s;rw[pv,Kt];unfold Dh at a;by_cases d:sh=4
   ·rw[xG (by omega),xG (by omega),xH d]at a
    have p:=b.2.2.2.1.2 d;have es:=b.2.2.2.2.2 d;rw[p,es];exact .ref (fun r x=>h t s a r x)
   ·refine .lit (fun q=>d (b.2.2.2.1.1 q)) (fun q=>?_)
    have e:=b.2.2.1.1 q;rw[xG (by omega),xH e]at a;cases a
 | .list t st,k,.mk sh n s l,g,a=>by
   have f:=Fq.one g;have b:=Ph f.1 n s;rw[pv,Kt];unfold Dh at a;by_cases e:sh=5
   ·rw[xG (by omega),xH e,xP]at a
    have u:=b.2.2.1.2 e;rw[u];refine .list (fun c w=>?_);obtain⟨c0,i,rfl⟩:=List.mem_map.1 w;exact Vd h j t (k-1) c0 (f.2.2.2 c0 i) (a c0 i)
   ·refine .lit (fun q=>?_) (fun q=>e (b.2.2.1.1 q))
    have d:=b.2.2.2.1.1 q;rw[xG (by omega),xG (by omega),xH d,j s]at a;cases a
theorem Vb{R:yF->yF->Bool}{g:List Am}:∀(cs:List IN) (d:List yF),Ks R g d cs=true->∀x∈cs,∃f,EQ g x.1=some f/\Dh R f.ty (CZ x.2)=true
 |[],d,_,x,c=>by cases c
 |y::cs,d,b,x,c=>by
  rw[Ks,xQ]at b;rcases yE.1 c with e|e
  ·subst e
   have a:=b.1;unfold Kh at a;unfold EQ;split at a
   ·rename_i f h
    simp only[xQ,xK]at a;refine⟨f,by rw[xG (by omega)];exact h,a.2.2.2.2⟩
   ·cases a
  ·exact Vb cs _ b.2 x e
theorem Yy{roles:List yF}{vid:yF}{parts:List Ai}(hs:Ij c ys=true)(F:bE∉c.names)(G:Jv c){y:AY}(v:y∈ys):Jw (DH c (BC c.objs ys) roles vid parts) (FO c.objs y):=by
 obtain⟨_,l,_,B⟩:=SU hs;have N:=l y v;obtain⟨k,o,m,n,_,E⟩:=Cu Aq.name c.objs y.1 (by omega);have q:(FO c.objs y).1=k:=by unfold FO;simp only[];rw[m];exact xS k
 have H:(DH c (BC c.objs ys) roles vid parts).obj (FO c.objs y).1=o:=by
  unfold AM.obj;rw[q];show c.objs.getD k Ge=o;rw[List.getD_eq_getElem?_getD,n];rfl
 refine⟨by rw[q];exact E,fun d hd i=>?_⟩;rw[H]at i;have b:=B y v;unfold Hf at b;rw[m,xS,n]at b;simp only[]at b;have A:∀t id,DS c.objs (c.ifs.map At.name) (c.uns.map Aw.name) c.uns (ys.map (qz (c.objs.map Aq.name))) t id=true->∀r,(DH c (BC c.objs ys) roles vid parts).row id=some r->AW ((DH c (BC c.objs ys) roles vid parts).obj r.1) (DH c (BC c.objs ys) roles vid parts).uns t=true:=by
  intro t id w r I;have J:Fl (BC c.objs ys) id=some r:=by
   have a:Ej c.objs roles vid (BC c.objs ys) id=some r:=I;unfold Ej at a;cases p:Fl (BC c.objs ys) id with
   |none=>rw[p]at a;cases a
   |some O=>
    rw[p,Option.bind_some]at a;split at a
    ·cases a
    ·exact a
  exact sS l w J
 unfold EM;by_cases g:Af ((FO c.objs y).2.map Prod.fst) d.name<0
 ·rw[xH g]
  exact .lit (by decide) (by decide)
 ·rw[xG g]
  obtain⟨j,x,D,s,K,_⟩:=Cu Prod.fst (FO c.objs y).2 d.name g;rw[D,xS,s];have u:(y.2.2.map (fun c=>(c.1,pv (CZ c.2))))[j]?=some x:=s;rw[xI]at u;obtain⟨z,L,rfl⟩:=yC.1 u;obtain⟨f,h,C⟩:=Vb _ _ b z (wT L);have M:z.1=d.name:=K;rw[M,i]at h;have e:=xD h;subst e;exact Vd A (fun id=>sR F G id _) d.ty 1603 (CZ z.2) (Sl z.2) C
theorem Yz(y:AY):Et (FO c.objs y):=fun n=>by
 unfold EM;split
 ·exact TE
 ·rename_i e
  obtain⟨j,x,d,a,f,_⟩:=Cu Prod.fst (FO c.objs y).2 n e;rw[d,xS,a];have b:(y.2.2.map (fun c=>(c.1,pv (CZ c.2))))[j]?=some x:=a;rw[xI]at b;obtain⟨z,g,rfl⟩:=yC.1 b;exact ZJ z.2
end
theorem WY:∀(l:List yF) (i:Nat),(∀x∈l,x.size<=4000)->(Dp i l).length<=l.length*8003
 |[],i,_=>by rw[Dp];simp
 |x::l,i,a=>by
  rw[Dp,xJ,xJ,xU];have c:=WY l (i+1) (fun y b=>a y (yA _ b));have d:=Qc x.data.toList;have e:x.data.toList.length=x.size:=by simp
  have f:=a x yB;have g:(if 0<i then [44]else []:List UInt8).length<=1:=by split<;>simp
  omega
theorem Xa(l:List yF)(a:∀x∈l,x.size<=4000):(GE l).length<=l.length*8003+2:=by
 unfold GE;have:=WY l 0 a;simp;omega
def Hj(Z:As->Prop)(l:List QF):Prop:=∀f∈l,Z f.1
theorem TK{Z:As->Prop}{x:As}(c:Z x):∀{l:List QF},Hj Z l->Hj Z (Dd x l)
 |[],_=>fun f a=>by
  rw[Dd,List.mem_singleton]at a;rw[a];exact c
 |y::l,b=>fun f a=>by
  rw[Dd]at a;split at a
  ·rcases yE.1 a with r|r
   ·rw[r];exact b y yB
   ·exact b f (yA _ r)
  ·rcases yE.1 a with r|r
   ·rw[r];exact b y yB
   ·exact TK c (fun g d=>b g (yA _ d)) f r
section
variable {parts:List Ai} {of:yF->Bool} {Z:As->Prop}
theorem UA{rec:LG}(d:∀i c,Hj Z c.1->Hj Z (rec i c).1):∀(l:List As) (c:Fc),(∀x∈l,Z x)->Hj Z c.1->Hj Z (CA parts of rec l c).1
 |[],c,_,a=>a
 |x::l,c,e,a=>by
  have b:=fun{c':Fc} (f:Hj Z c'.1)=>UA d l c' (fun y g=>e y (yA _ g)) f;rw[CA];split
  ·exact b a
  split
  ·exact b (c':=(Dd x c.1,c.2)) (TK (e x yB) a)
  ·split
   ·exact b a
   ·split
    ·exact b (d _ _ a)
    ·exact b a
theorem UD(b:∀P∈parts,∀x∈P.sels,Z x):∀(f i:Nat) (c:Fc),Hj Z c.1->Hj Z (CD parts of f i c).1
 |0,_,_,a=>a
 |f+1,i,c,a=>by
  rw[CD];split
  ·exact a
  ·exact UA (fun i c a=>UD b f i c a) _ (c.1,c.2.set i true) (fun x d=>b _ (wT (Lp d)) x d) a
theorem Ux(b:∀P∈parts,∀x∈P.sels,Z x):∀(l:List Nat) (c:Fc),Hj Z c.1->Hj Z (Gb parts of l c).1
 |[],c,a=>a
 |i::l,c,a=>by
  rw[Gb];exact Ux b l _ (UD b _ _ _ a)
theorem UF(b:∀P∈parts,∀x∈P.sels,Z x)(a:List Nat):Hj Z (DG parts of a):=Ux b a _ (fun f c=>by cases c)
end
theorem Uj:bQ=Iu:=by decide
structure Ov(c:Be):Prop where
 n:c.names.length<=804
 o:∀o∈c.objs,o.fields.length<=802
 i:∀i∈c.ifs,i.fields.length<=802
section
variable {x:yF} {ys:List AY}
theorem pC(k:Nat):((Ao (Ad x)).1.objs.getD k Ge).name.size<=4000:=by
 have b:Kx (Ao (Ad x)).1:=Ob _ (MH x);rw[List.getD_eq_getElem?_getD];cases a:(Ao (Ad x)).1.objs[k]? with
 |none=>decide
 |some o=>
  have c:=XF (Ad x) o.name;have d:=Kd (x:=o.name) (l:=(Ao (Ad x)).1.objs.map Aq.name) (List.mem_map.2 ⟨o,wT a,rfl⟩);exact b.2.2.2.2 o.name (QY (by omega))
theorem Yl(g:Fj x=0):∃k o,Af ((Ao (Ad x)).1.objs.map Aq.name) bQ=(k:Nat)/\(Ao (Ad x)).1.objs[k]?=some o/\o.name=bQ/\k<(Ao (Ad x)).1.objs.length:=by
 have b:=Qe x g;unfold He at b;simp only[xQ]at b;have a:=b.2.2.2.2.2;unfold IJ at a;rw[<-Uj]at a;split at a
 ·cases a
 ·rename_i h
  obtain⟨k,o,c,d,e,f⟩:=Cu Aq.name (Ao (Ad x)).1.objs bQ h;exact⟨k,o,c,d,e,f⟩
theorem tB(b:Fj x=0)(hs:Ij (Ao (Ad x)).1 ys=true):(Cc (Ao (Ad x)).1.objs (BC (Ao (Ad x)).1.objs ys)).1<(Ao (Ad x)).1.objs.length/\((Ao (Ad x)).1.objs.getD (Cc (Ao (Ad x)).1.objs (BC (Ao (Ad x)).1.objs ys)).1 Ge).name=bQ/\((∃y∈ys,Cc (Ao (Ad x)).1.objs (BC (Ao (Ad x)).1.objs ys)=FO (Ao (Ad x)).1.objs y)\/(Cc (Ao (Ad x)).1.objs (BC (Ao (Ad x)).1.objs ys)).2=[]):=by
 obtain⟨z,A,q,s,t,u⟩:=Yl b;obtain⟨_,f,e,_⟩:=SU hs;unfold Cc;cases d:Fl (BC (Ao (Ad x)).1.objs ys) bE with
 |none=>
  simp only[Option.getD_none];rw[q,xS];exact⟨u,by rw[List.getD_eq_getElem?_getD,s];exact t,.inr (by simp)⟩
 |some r=>
  simp only[Option.getD_some];obtain⟨j,y,w,p,c,rfl⟩:=LW d;have a:=wT p;have v:=f y a;obtain⟨k,o,g,l,i,h⟩:=Cu Aq.name (Ao (Ad x)).1.objs y.1 (by omega);have n:y.1=bQ:=by
   have:=e y a;unfold LZ at this;rw[c,<-Uj]at this;simpa using this
  have m:(FO (Ao (Ad x)).1.objs y).1=k:=by unfold FO;dsimp only;rw[g];exact xS k
  rw[m];exact⟨h,by rw[List.getD_eq_getElem?_getD,l,<-n];exact i,.inl ⟨y,a,rfl⟩⟩
theorem Tl{c:Be}{roles:List yF}{vid id:yF}{rows:List (yF×MR)}{r:MR}(a:Ej c.objs roles vid rows id=some r):Fl rows id=some r:=by
 unfold Ej at a;cases b:Fl rows id with
 |none=>rw[b]at a;cases a
 |some d=>
  rw[b,Option.bind_some]at a;split at a
  ·cases a
  ·exact a
theorem Va(d:Ov (Ao (Ad x)).1){typ:yF}{fs:List Am}(e:Dx (Ao (Ad x)).1.objs (Ao (Ad x)).1.ifs typ=some fs):fs≠[]/\fs.length<=802/\∀f∈fs,f.name.size<=4000:=by
 have hs:Kx (Ao (Ad x)).1:=Ob _ (MH x);have c:=qI (Ad x);rcases OU e with⟨o,b,_,rfl⟩|⟨_,i,a,_,rfl,_⟩
 ·exact⟨c.1 o b,d.o o b,(hs.2.1 o b).1⟩
 ·exact⟨c.2 i a,d.i i a,hs.2.2.1 i a⟩
theorem uM(b:Ov (Ao (Ad x)).1){roles:List yF}{vid:yF}{parts:List Ai}(e:∀P∈parts,∀s∈P.sels,s.key.size<=4000):Ip (DH (Ao (Ad x)).1 (BC (Ao (Ad x)).1.objs ys) roles vid parts) where
 nm:=by
  have hs:Kx (Ao (Ad x)).1:=Ob _ (MH x);have m:=Xa (Ao (Ad x)).1.names hs.2.2.2.2;have c:=b.n;show(GE (Ao (Ad x)).1.names).length<=_;omega
 fl:=fun t=>by
  show(JC (DH (Ao (Ad x)).1 (BC (Ao (Ad x)).1.objs ys) roles vid parts) t).length<=_;rw[show JC (DH (Ao (Ad x)).1 (BC (Ao (Ad x)).1.objs ys) roles vid parts) t=Kg (Ao (Ad x)).1.objs (Ao (Ad x)).1.ifs roles t from by
   unfold JC Kg GI;show(match Dx (Ao (Ad x)).1.objs (Ao (Ad x)).1.ifs t with|none=>_|some fs=>_)=_;cases Dx (Ao (Ad x)).1.objs (Ao (Ad x)).1.ifs t<;>rfl]
  unfold Kg GI;cases a:Dx (Ao (Ad x)).1.objs (Ao (Ad x)).1.ifs t with
  |none=>show FR.length<=10000000;decide
  |some fs=>
   obtain⟨_,c,d⟩:=Va b a;have p:=Xa ((fs.filter (fun f=>DW roles f.hide_)).map Am.name) (fun n g=>by
    obtain⟨f,a,rfl⟩:=List.mem_map.1 g;exact d f (List.mem_filter.1 a).1)
   have q:((fs.filter (fun f=>DW roles f.hide_)).map Am.name).length<=fs.length:=by rw[xT];exact List.length_filter_le _ _
   simp only[];omega
 on:=fun k=>pC k
 key:=fun of l f a=>UF (Z:=fun s=>s.key.size<=4000) e l f a
 row:=fun id r h=>by
  have i:Ej (Ao (Ad x)).1.objs roles vid (BC (Ao (Ad x)).1.objs ys) id=some r:=h;obtain⟨j,y,_,_,_,rfl⟩:=LW (Tl i);exact Yz y
theorem XM(am:Ov (Ao (Ad x)).1)(z:Fj x=0)(hs:Ij (Ao (Ad x)).1 ys=true){roles:List yF}{vid qt vt:yF}{l:AN}(G:Ec (Bk (Ad qt)).2=true)(k:(Bk (Ad qt)).1.ops.length=1)(O:Fi (FP (Ad vt)).1 (GZ (BY (Bk (Ad qt)).1)) []=some l)(f:Hz ⟨(Ao (Ad x)).1.objs,(Ao (Ad x)).1.ifs,(Ao (Ad x)).1.uns,roles⟩ (CS l (BY (Bk (Ad qt)).1)).parts (Ck (Bk (Ad qt)).1)=true):QD (Ao (Ad x)).1 (BC (Ao (Ad x)).1.objs ys) roles vid (CS l (BY (Bk (Ad qt)).1)).parts (Ck (Bk (Ad qt)).1):=by
 have ad:=SB qt;have aa:=rI qt;obtain⟨D,ab⟩:=Yd qt;have ak:VZ l:=Um (vT vt) _ [] l (fun v u=>by
  unfold GZ at u;split at u
  ·cases u
  ·rename_i o r e
   exact aa o (by have N:(Bk (Ad qt)).1.ops=o::r:=e;rw[N];exact yB) v u) VZ.nil O
 have w:=bW ad.link ak;have X:(Bk (Ad qt)).2≠none:=fun e=>by rw[e]at G;cases G
 have U:=ab X;generalize Bk (Ad qt)=M at*;obtain⟨Q,ao⟩:=M;simp only[]at*;have B:∃L,Q.ops=[(L,Ck Q)]:=by
  unfold Ck
  match H:Q.ops with
  |[]=>rw[H]at k;cases k
  |[o]=>exact⟨o.1,rfl⟩
  |o::p::r=>rw[H]at k;simp at k
 obtain⟨L,B⟩:=B;have K:Ck Q∈Q.ops.map Prod.snd:=by rw[B];simp
 have al:Ck Q<Q.parts.length:=(D.c (Ck Q)).2 (by have:0<(Q.ops.map Prod.snd).count (Ck Q):=List.count_pos_iff.2 K;omega);generalize Ck Q=whole at*;have t:=tB z hs;have J:=qJ x z;have A:=XF (Ad x);have ag:=Qe x z;have aj:=uM (ys:=ys) (roles:=roles) (vid:=vid) am (fun P g s i=>(w P g s i).1);have ai:Et (Cc (Ao (Ad x)).1.objs (BC (Ao (Ad x)).1.objs ys)):=by
  rcases t.2.2 with⟨y,_,e⟩|e
  ·rw[e];exact Yz y
  ·intro n
   unfold EM;rw[e];exact TE
 have ah:Jw (DH (Ao (Ad x)).1 (BC (Ao (Ad x)).1.objs ys) roles vid (CS l (BY Q)).parts) (Cc (Ao (Ad x)).1.objs (BC (Ao (Ad x)).1.objs ys)):=by
  rcases t.2.2 with⟨y,F,e⟩|e
  ·rw[e];exact Yy hs J A F
  ·refine⟨t.1,fun d _ _=>?_⟩
   unfold EM;rw[e];exact .lit (by decide) (by decide)
 refine⟨fun P g s i=>(w P g s i).1,fun P g s i=>(w P g s i).2,aj,ai,ah,?_⟩;rw[VV]at f⊢;unfold Hz at f;rw[xQ]at f;have C:BP (GC l Q):=XI D;have Z:(GC l Q).length=Q.parts.length:=by unfold GC;rw[xT]
 have E:whole<(GC l Q).length:=by rw[Z];exact al
 obtain⟨m,V,W⟩:=ZP C E f.2;refine⟨m,⟨⟨C,fun p T R=>ZW (uX D U K) C E f.1 R,W,E⟩,tV A ag roles,fun id r ae=>?_⟩,⟨fun p h=>?_,fun p h q I a S b hb=>?_⟩⟩
 ·have af:Ej (Ao (Ad x)).1.objs roles vid (BC (Ao (Ad x)).1.objs ys) id=some r:=ae
  obtain⟨j,y,_,F,_,rfl⟩:=LW (Tl af);exact Yy hs J A (wT F)
 ·rw[List.mem_singleton]at h
  subst h;refine⟨bQ,.root,?_⟩;have Y:((DH (Ao (Ad x)).1 (BC (Ao (Ad x)).1.objs ys) roles vid (GC l Q)).obj (Cc (Ao (Ad x)).1.objs (BC (Ao (Ad x)).1.objs ys)).1).name=bQ:=t.2.1;unfold AW;rw[Y];simp
 ·rw[List.mem_singleton]at h I
  subst h;subst I;exact V a S b hb
end
structure ZI(l:List Au):Prop where
 n:(l.map Au.name).Nodup
 i:∀x∈l,∀y∈x.inc,y∈l.map Au.name/\y.size<=4000
 s:∀y∈l.map Au.name,y.size<=4000
theorem tA{c:Be}(d:He c=true)(g:Kx c):ZI c.roles:=by
 unfold He SH at d;simp only[xQ]at d;obtain⟨⟨h,e, -⟩, -⟩:=d;refine⟨(JI _).1 h,fun x a y b=>?_,fun y b=>?_⟩
 ·rw[xP]at e
  have f:=e x a;rw[xP]at f;exact⟨(FD _ _).1 (f y b),(g.1 x a).2 y b⟩
 ·obtain⟨x,a,rfl⟩:=List.mem_map.1 b
  exact(g.1 x a).1
theorem Yr{x:yF}{ys:List AY}(a:Eo x ys=0):Fj x=0/\Ij (Ao (Ad x)).1 ys=true:=by
 unfold Eo at a;split at a
 ·refine⟨‹_›,?_⟩
  split at a
  ·assumption
  ·cases a
 ·exact absurd a ‹_›
theorem JZ.rows{w:World}{T S u:Nat}{s:List AX}{c:Be}{ys:List AY}(W:s.map Prod.fst=c.objs)(K:JZ w T S u c.objs ys)(hs:Ij c ys=true)(M:∀y∈ys,y.2.2.length<=1000000):∃n B vL m,IU w T S n u B s vL m (BC c.objs ys):=by
 obtain⟨n,B,vL,m,A,ab,C⟩:=K.ex;obtain⟨_,N,_,_⟩:=SU hs;have O:m.map AE.id=(BC c.objs ys).map Prod.fst:=by
  rw[YA];refine List.ext_getElem? (fun j=>?_);rw[xI,xI];cases b:m[j]? with
  |none=>
   have:ys[j]?=none:=by rw[List.getElem?_eq_none_iff]at b⊢;omega
   rw[this];rfl
  |some q=>
   obtain⟨y,d⟩:∃y,ys[j]?=some y:=⟨_,wS (by have:=(wU.1 b).1;omega)⟩;rw[d];exact congrArg some (C j q y b d).id
 refine⟨n,B,vL,m,A,O,fun j q x g cap b r R=>?_⟩;unfold BC at r;rw[xI]at r;obtain⟨y,d,rfl⟩:=yC.1 r;have l:=C j q y b d;obtain⟨Z,Y,e,c0,c1,c2⟩:=A.at b;rw[R]at e;have J:=(Addr.mk.inj (xD (Value.slice.inj e).1)).1;subst J;have aa:=N y (wT d);obtain⟨k,o,E,ad,_,F⟩:=Cu Aq.name c.objs y.1 (by omega);have Q:q.k=k:=by rw[l.k,E];exact xS k
 have G:(FO c.objs y).1=k:=by unfold FO;dsimp only;rw[E];exact xS k
 have p:=l.a.e;have P:q.cs.length=y.2.2.length:=by rw[<-p,xT]
 refine⟨by rw[G];rw[<-W,xT]at F;exact F,by rw[G,<-Q];exact c0,⟨q.v,c2,l.c⟩,by rw[P];exact M y (wT d),?_,fun i h X D U=>?_,fun h L=>(l.v h L).2⟩
 ·show q.cs.map CC=(y.2.2.map (fun c=>(c.1,pv (CZ c.2)))).map Prod.fst
  rw[List.map_map,<-p,List.map_map];rfl
 ·have H:(y.2.2.map (fun c=>(c.1,pv (CZ c.2))))[i]?=some X:=U
  rw[xI]at H;obtain⟨z,I,rfl⟩:=yC.1 H;have V:z=(h.f.name,h.t):=by
   rw[<-p,xI,D]at I;exact(xD I).symm
  rw[V];exact(l.v h (wT D)).1
def Ft(x:yF)(ys:List AY)(role vid qt vt:yF)(b:Int):yF:=MT (Ao (Ad x)).1 (BC (Ao (Ad x)).1.objs ys) role vid qt vt b
theorem GN.sz{w:World}{T:Nat}{c:Be}{ys:List AY}(f:GN w T c ys):Ov c:=by
 obtain⟨S,n,x,v,t,y,u,l,k,j,m,a,r,h,g,s,q,p⟩:=f.ex;exact⟨a.ln,fun o e=>by
  rw[<-h]at e;obtain⟨z,b,rfl⟩:=List.mem_map.1 e;exact(a.o.ok z b).2.1,fun i d=>by
  rw[<-g]at d;obtain⟨z,b,rfl⟩:=List.mem_map.1 d;exact(a.i.ok z b).2⟩
theorem kE{w:World}{T:Nat}{x:yF}{ys:List AY}(m:GN w T (Ao (Ad x)).1 ys)(h:Eo x ys=0)(K:∀y∈ys,y.2.2.length<=1000000)(hit:GM w)(role vid qt vt:yF)(b:Int)(G:role.size<=2000000)(H:qt.size<=2000000)(I:vt.size<=2000000):
 Calls prog 23 #[.pointer (some ⟨T,0,none⟩),.agg #[.string role,.string vid,.string qt,.string vt,.int .i64 b]] w fun e w'=>e=.returned (.string (Ft x ys role vid qt vt b))/\yG w w':=by
 obtain⟨c,hs⟩:=Yr h;obtain⟨S,aa,al,ak,ai,am,aj,u,t,V,W,P,j,a,r,R,M,J⟩:=m.ex;obtain⟨X,B,vL,ah,O⟩:=J.rows a hs K;have q:Kx (Ao (Ad x)).1:=Ob _ (MH x);have g:=tA (Qe x c) q;have d:(Ao (Ad x)).1.roles.map Au.name=u.map rN:=by rw[<-j,List.map_map];rfl
 have p:=m.sz;obtain⟨ab,ad,U,ae,af,ag⟩:=Yl c;unfold Ft;refine ZZ P j a r R M O hit (fun n N=>by have:=q.2.2.2.2 n N;omega) (fun typ fs k=>?_) ?_ (by rw[<-d];exact g.n) (fun z h y Q=>?_) (by rw[<-d];exact g.s) role vid qt vt b G H I (fun l C D Z E F=>XM p c hs C D E F)
 ·rw[a,r]at k
  obtain⟨v,Y,A⟩:=Va p k;exact⟨v,fun f L=>by have:=A f L;omega⟩
 ·have e:t.map oN=(Ao (Ad x)).1.objs.map Aq.name:=by rw[<-a,List.map_map];rfl
  rw[e,U];omega
 ·rw[<-d]
  exact g.i z.1 (by rw[<-j];exact List.mem_map_of_mem h) y Q
theorem YP{w:World}{V T:Nat}{x:yF}{ys:List AY}(l:MS w V T)(r:GN w T (Ao (Ad x)).1 ys)(s:Eo x ys=0)(q:∀y∈ys,y.2.2.length<=1000000)(hit:GM w)(role vid qt vt:yF)(b:Int)(B:role.size<=2000000)(C:qt.size<=2000000)(D:vt.size<=2000000):
 Calls prog 16 #[.pointer (some ⟨V,0,none⟩),.agg #[.string role,.string vid,.string qt,.string vt,.int .i64 b]] w fun e w'=>e=.returned (.string (Ft x ys role vid qt vt b))/\yG w w':=by
 have u:=Aa (fun(f:World) (g:yG w f)=>kE (r.below g) s q (hit.below g) role vid qt vt b B C D);have z:=Aa (fun(f:World) (g:yG w f)=>kF (w:=f) (V:=V) (T:=T) ((g.block _ (Ab l)).trans l));generalize Ft x ys role vid qt vt b=E at*;have p:=bA (wR w.heap.size w) (.cells #[.string role,.string vid,.string qt,.string vt,.int .i64 b] 26);have n:=Aa (wX w (.cells #[.string role,.string vid,.string qt,.string vt,.int .i64 b] 26));have h:=Aa p;clear r l p hit q s;go_enter func16,ntmps16;go_upto_region 1 with fail;generalize w.alloc (.cells #[.string role,.string vid,.string qt,.string vt,.int .i64 b] 26)=a at*;have t:=Ab n.o;have i:=Aa (fun d (m:yG a d)=>xZ m (xZ (Ac ((m.block _ t).trans n.o)) (xA t m.size)));have A:=Aa (z.o a.drew (h.o.trans (wR _ _).drew));go_region_held3 (fun d=>yG a d/\(∀j,d.cell? ⟨w.heap.size,j,none⟩=(#[.string role,.string vid,.string qt,.string vt,.int .i64 b]:Array Value)[j]?)/\w.heap.size<d.heap.size)
  (first|exact i.o _ (wR _ _).drew|exact i.o _ ((wR _ _).drew.trans c)|exact i.o _ (((wR _ _).drew.trans c).trans (k.mono ((wR a.heap.size a).drew.trans c).size)))
  (first|(go_at_call 24;refine A.o.mono ?_;rintro _ w2 ⟨rfl,c⟩)|(go_at_call 23;refine(u.o w2 (bT h.o ((wR _ _).drew.trans c))).mono ?_;rintro _ w3 ⟨rfl,k⟩))
 all_goals(
  have v:=Aa (bT h.o (bT ((wR a.heap.size a).drew.trans c) k));clear c k;go_wp2;go_ret;exact⟨rfl,v.o⟩)
def La:yF:=⟨#[114,111,108,101,32,117,115,101,114,32,114,111,108,101,32,98,111,115,115,32,58,32,117,115,101,114,32,116,121,112,101,32,81,117,101,114,121,32,123,32,109,101,40,105,100,58,32,73,68,41,58,32,80,101,114,115,111,110,32,116,101,97,109,58,32,91,80,101,114,115,111,110,93,32,125,32,105,110,116,101,114,102,97,99,101,32,78,97,109,101,100,32,123,32,110,97,109,101,58,32,83,116,114,105,110,103,33,32,125,32,116,121,112,101,32,80,101,114,115,111,110,32,105,109,112,108,101,109,101,110,116,115,32,78,97,109,101,100,32,64,114,111,119,115,40,111,112,101,110,32,61,32,116,114,117,101,32,111,114,32,105,115,32,98,111,115,115,41,32,123,32,110,97,109,101,58,32,83,116,114,105,110,103,33,32,111,112,101,110,58,32,66,111,111,108,101,97,110,32,112,97,121,58,32,73,110,116,32,64,97,117,116,104,40,98,111,115,115,41,32,110,111,116,101,58,32,83,116,114,105,110,103,32,64,104,105,100,101,40,98,111,115,115,41,32,102,114,105,101,110,100,58,32,78,97,109,101,100,32,125]⟩
def GA:List AY:=[(⟨#[81,117,101,114,121]⟩,⟨#[]⟩,[(⟨#[116,101,97,109]⟩,⟨#[91,64,34,97,34,32,64,34,98,34,32,64,34,122,34,93]⟩)]),(⟨#[80,101,114,115,111,110]⟩,⟨#[97]⟩,[(⟨#[110,97,109,101]⟩,⟨#[34,65,110,110,34]⟩),(⟨#[111,112,101,110]⟩,⟨#[116,114,117,101]⟩),(⟨#[112,97,121]⟩,⟨#[55]⟩),(⟨#[102,114,105,101,110,100]⟩,⟨#[64,34,98,34]⟩)]),(⟨#[80,101,114,115,111,110]⟩,⟨#[98]⟩,[(⟨#[110,97,109,101]⟩,⟨#[34,66,111,34]⟩),(⟨#[111,112,101,110]⟩,⟨#[102,97,108,115,101]⟩)])]
def UT:yF:=⟨#[123,34,100,97,116,97,34,58,123,34,116,101,97,109,34,58,91,123,34,110,97,109,101,34,58,34,65,110,110,34,125,44,110,117,108,108,44,110,117,108,108,93,125,44,34,101,114,114,111,114,115,34,58,91,123,34,109,101,115,115,97,103,101,34,58,34,110,111,116,32,97,118,97,105,108,97,98,108,101,34,44,34,112,97,116,104,34,58,91,34,116,101,97,109,34,44,49,93,125,44,123,34,109,101,115,115,97,103,101,34,58,34,110,111,116,32,97,118,97,105,108,97,98,108,101,34,44,34,112,97,116,104,34,58,91,34,116,101,97,109,34,44,50,93,125,93,125]⟩
def UU:yF:=⟨#[123,34,100,97,116,97,34,58,123,34,109,101,34,58,123,34,110,97,109,101,34,58,34,66,111,34,125,125,125]⟩
theorem UW:Eo La GA=0:=by kernel_rfl
theorem eZ:Ft La GA ⟨#[117,115,101,114]⟩ ⟨#[]⟩ ⟨#[123,116,101,97,109,123,110,97,109,101,125,125]⟩ ⟨#[]⟩ 5000=UT:=by kernel_rfl
theorem fB:Ft La GA ⟨#[98,111,115,115]⟩ ⟨#[]⟩ ⟨#[123,109,101,40,105,100,58,34,98,34,41,123,110,97,109,101,125,125]⟩ ⟨#[]⟩ 5000=UU:=by kernel_rfl
end Go.Proofs.YtogdodlibkckkaaGreatDoor
