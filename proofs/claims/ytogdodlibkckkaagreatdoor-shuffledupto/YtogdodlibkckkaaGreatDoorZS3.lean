import Derived.Test.YtogdodlibkckkaaGreatDoorZS2
namespace Go.Proofs.YtogdodlibkckkaaGreatDoor
set_option maxHeartbeats 20000000
set_option maxRecDepth 100000
open Go.RowKit Tryz
open Go.MuLone Tryz
def AFI(w:World)(V T:Nat):Prop:=w.heap[V]?=some (.cells #[.int .i32 1,.int .u32 0,.pointer (some ⟨T,0,none⟩)] 78 (0,0))
theorem AFD(n:Int)(T:Nat):AEI #[.int .i32 n,.int .u32 0,.pointer (some ⟨T,0,none⟩)]:=fun i s a=>by
 match i,a with
 |0,a=>simp at a
 |1,a=>simp at a
 |2,a=>simp at a
 |n+3,a=>simp at a
def AFt(F:FuncId)(w:World)(V T R:Nat)(Φ:World->Nat->Prop):Prop:=∀a,Ag V w a->AFI a V T->Calls prog F #[.pointer (some ⟨T,0,none⟩),.pointer (some ⟨R,0,none⟩)] a fun e w'=>∃b,e=.returned (.tuple #[.pointer (some ⟨b,0,none⟩),.int .i64 0])/\yG a w'/\Φ w' b
def ChP(w:World)(V T:Nat)(Φ:World->Nat->Prop)(e:Ending)(w':World):Prop:=e=.returned (.int .i64 0)/\∃a w2,AFI w2 V T/\Φ w2 a/\Ag V w2 w'/\MS w' V a/\Ag V w w'
theorem AFm{w:World}{V T R:Nat}(i:MS w V T)(Φ:World->Nat->Prop)(hF:AFt 30 w V T R Φ):
 Calls prog 29 #[.pointer (some ⟨V,0,none⟩),.func (Fn.func 30) #[] #[.pointer (some ⟨R,0,none⟩)]] w (ChP w V T Φ):=by
 unfold ChP;have c:=Ac i;have f:=Ak i;have t:w.cell? ⟨V,0,none⟩=some (.int .i32 0):=c 0;have s:=f 0;have b:=AI i 0 (.int .i32 1);have j:=(Ag.refl V w).setCell 0 (.int .i32 1);have p:=Aa j;have n:=Aa (hF _ j b);have r:=Aa b;have cL:=Ac b;have m:=Ab b;clear hF j b c f
 go_enter_defers func29,ntmps29
 go_wp2_with (go_at_call 48;refine(lock_free muLib ⟨V,0,none⟩ _ t s).mono ?_;rintro e w' ⟨rfl,rfl⟩);generalize w.setCell ⟨V,0,none⟩ (.int .i32 1)=u at*;refine n.o.mono ?_;rintro _ w2 ⟨d,rfl,g,hΦ⟩;have a:=(g.block _ m).trans r.o;have c2:=Ac a;have v:=Ak a;have x:=Ab a;have k:=Aa a;have HΦ:=Aa hΦ;have q:=Aa (p.o.trans (Ag.of_below g));clear a hΦ g cL m;go_wp2_with fail;refine leaves_cons (f:=49) (args:=#[.pointer (some ⟨V,0,none⟩)]) (by simp) (by simp[go_sem]) ?_;have h:=AI k.o 2 (.pointer (some ⟨d,0,none⟩));refine(unlock_deferred muLib ⟨V,0,none⟩ .returning _ (Ac h 0) (Ak h 0)).mono ?_;rintro e y z ⟨rfl,rfl,rfl⟩;have l:=((Ag.refl V w2).setCell 2 (.pointer (some ⟨d,0,none⟩))).setCell 0 (.int .i32 0);exact⟨_,results_tmp rfl _ _ _,rfl,d,w2,k.o,HΦ.o,l,AI h 0 (.int .i32 0),q.o.trans l⟩
theorem AFl{w:World}{V T R:Nat}(i:MS w V T)(Φ:World->Nat->Prop)(hF:AFt 32 w V T R Φ):
 Calls prog 29 #[.pointer (some ⟨V,0,none⟩),.func (Fn.func 32) #[] #[.pointer (some ⟨R,0,none⟩)]] w (ChP w V T Φ):=by
 unfold ChP;have c:=Ac i;have f:=Ak i;have t:w.cell? ⟨V,0,none⟩=some (.int .i32 0):=c 0;have s:=f 0;have b:=AI i 0 (.int .i32 1);have j:=(Ag.refl V w).setCell 0 (.int .i32 1);have p:=Aa j;have n:=Aa (hF _ j b);have r:=Aa b;have cL:=Ac b;have m:=Ab b;clear hF j b c f
 go_enter_defers func29,ntmps29
 go_wp2_with (go_at_call 48;refine(lock_free muLib ⟨V,0,none⟩ _ t s).mono ?_;rintro e w' ⟨rfl,rfl⟩);generalize w.setCell ⟨V,0,none⟩ (.int .i32 1)=u at*;refine n.o.mono ?_;rintro _ w2 ⟨d,rfl,g,hΦ⟩;have a:=(g.block _ m).trans r.o;have c2:=Ac a;have v:=Ak a;have x:=Ab a;have k:=Aa a;have HΦ:=Aa hΦ;have q:=Aa (p.o.trans (Ag.of_below g));clear a hΦ g cL m;go_wp2_with fail;refine leaves_cons (f:=49) (args:=#[.pointer (some ⟨V,0,none⟩)]) (by simp) (by simp[go_sem]) ?_;have h:=AI k.o 2 (.pointer (some ⟨d,0,none⟩));refine(unlock_deferred muLib ⟨V,0,none⟩ .returning _ (Ac h 0) (Ak h 0)).mono ?_;rintro e y z ⟨rfl,rfl,rfl⟩;have l:=((Ag.refl V w2).setCell 2 (.pointer (some ⟨d,0,none⟩))).setCell 0 (.int .i32 0);exact⟨_,results_tmp rfl _ _ _,rfl,d,w2,k.o,HΦ.o,l,AI h 0 (.int .i32 0),q.o.trans l⟩
theorem Jr.srv{w w':World}{V:Nat}{cs:Array Value}{f:Nat×Nat}(d:Ag V w w')(n:w.heap[V]?=some (.cells cs 78 f))(s:AEI cs){v:Value}{l:List IN}(h:Jr w v l):Jr w' v l:=by
 obtain⟨a,cap,i,k,m⟩:=h;refine⟨a,cap,i,k,m.imp (fun e=>e) ?_⟩;rintro⟨g,t,p,q⟩;refine⟨g,t,p,fun j c r=>?_⟩;obtain⟨c0,c1⟩:=q j c r;have b:=AEI.ne n s c0;exact⟨ADz d c0 b,ADz d c1 b⟩
theorem AGJ{w:World}{T R:Nat}{c:Be}{ys:List AY}(i:GN w T c ys)(r:AY)(b:Option Addr)(e:Nat)(a:w.heap[R]?=some (.cells #[.string r.1,.string r.2.1,.slice b r.2.2.length e] 38 (0,0)))(h:Jr w (.slice b r.2.2.length e) r.2.2)(hs:Ij c ys=true)(k:Ij c (ys++[r])=true)(j:QI (ys++[r])):
 Calls prog 30 #[.pointer (some ⟨T,0,none⟩),.pointer (some ⟨R,0,none⟩)] w (AEo w c (ys++[r])):=by
 unfold AEo;have n:=Aa (fun(q:World) (g:yG w q)=>AGU (i.below g) r _ (h.below g) hs k j);have s:=Ac a;have lR:=Ab a;clear i h hs k j a;go_enter func30,ntmps30;go_wp2_with fail;refine(n.o w (wR _ _)).mono ?_;rintro _ w2 ⟨p,rfl,d,f⟩;have m:=Aa f;have l:=Aa d;clear f d;go_wp2;go_ret2;exact⟨p,rfl,l.o,m.o⟩
theorem AFo{w:World}{T R:Nat}{c:Be}{r:AY}{ys:List AY}(e:GN w T c (r::ys))(a:w.heap[R]?=some (.cells #[.string r.2.1] 9 (0,0)))(hs:Ij c (r::ys)=true)(f:QI (r::ys)):
 Calls prog 32 #[.pointer (some ⟨T,0,none⟩),.pointer (some ⟨R,0,none⟩)] w (AEo w c ys):=by
 unfold AEo;have i:=Aa (fun(k:World) (l:yG w k)=>AGM (e.below l) hs f);have m:=Ac a;have lR:=Ab a;clear e hs f a;go_enter func32,ntmps32;go_wp2_with fail;refine(i.o w (wR _ _)).mono ?_;rintro _ w2 ⟨j,rfl,b,d⟩;have h:=Aa d;have g:=Aa b;clear d b;go_wp2;go_ret2;exact⟨j,rfl,g.o,h.o⟩
theorem AGK{w:World}{V T:Nat}{c:Be}{ys:List AY}(j:MS w V T)(q:GN w T c ys)(r:AY)(d:Option Addr)(f:Nat)(p:Jr w (.slice d r.2.2.length f) r.2.2)(hs:Ij c ys=true)(t:Ij c (ys++[r])=true)(s:QI (ys++[r])):
 Calls prog 18 #[.pointer (some ⟨V,0,none⟩),.agg #[.string r.1,.string r.2.1,.slice d r.2.2.length f]] w fun e w'=>e=.returned (.int .i64 0)/\∃a,MS w' V a/\GN w' a c (ys++[r])/\Ag V w w':=by
 have lV:=Ab j;have hb:=bA (wR w.heap.size w) (.cells #[.string r.1,.string r.2.1,.slice d r.2.2.length f] 38);have i:=wX w (.cells #[.string r.1,.string r.2.1,.slice d r.2.2.length f] 38);have g:MS (w.alloc (.cells #[.string r.1,.string r.2.1,.slice d r.2.2.length f] 38)) V T:=(hb.block _ lV).trans j;have v:=Aa (AFm (R:=w.heap.size) g (fun l a=>GN l a c (ys++[r])) (fun l k h=>AGJ ((q.below hb).srv k g (AFD 0 T)) r d f ((k.block _ (Ab i) (by omega)).trans i) ((p.below hb).srv k g (AFD 0 T)) hs t s));have x:=Aa (Ag.of_below (b:=V) hb);clear j q p hs t s g i hb;go_enter func18,ntmps18;go_wp2_with fail;refine v.o.mono ?_;rintro _ w2 ⟨rfl,a,B,h,m,k2,n,u⟩;have A:=Aa n;have y:=Aa (m.srv k2 h (AFD 1 T));have z:=Aa (x.o.trans u);clear h m k2 n u;go_wp2;go_ret;exact⟨rfl,a,A.o,y.o,z.o⟩
theorem AFp{w:World}{V T:Nat}{c:Be}{r:AY}{ys:List AY}(g:MS w V T)(m:GN w T c (r::ys))(hs:Ij c (r::ys)=true)(n:QI (r::ys)):
 Calls prog 19 #[.pointer (some ⟨V,0,none⟩),.string r.2.1] w fun e w'=>e=.returned (.int .i64 0)/\∃a,MS w' V a/\GN w' a c ys/\Ag V w w':=by
 have lV:=Ab g;have hb:=bA (wR w.heap.size w) (.cells #[.string r.2.1] 9);have f:=wX w (.cells #[.string r.2.1] 9);have h:MS (w.alloc (.cells #[.string r.2.1] 9)) V T:=(hb.block _ lV).trans g;have q:=Aa (AFl (R:=w.heap.size) h (fun i a=>GN i a c ys) (fun i l d=>AFo ((m.below hb).srv l h (AFD 0 T)) ((l.block _ (Ab f) (by omega)).trans f) hs n));have s:=Aa (Ag.of_below (b:=V) hb);clear g m hs n h f hb;go_enter func19,ntmps19;go_wp2_with fail;refine q.o.mono ?_;rintro _ w2 ⟨rfl,a,x,d,j,k2,k,p⟩;have v:=Aa k;have t:=Aa (j.srv k2 d (AFD 1 T));have u:=Aa (s.o.trans p);clear d j k2 k p;go_wp2;go_ret;exact⟨rfl,a,v.o,t.o,u.o⟩
theorem AFi{w:World}{g:Nat}:∀(ys:List AY) (b:Nat),(∀j r,ys[j]?=some r->w.cell? ⟨g,b+j*3,none⟩=some (.string r.1)/\w.cell? ⟨g,b+j*3+1,none⟩=some (.string r.2.1)/\∃u,w.cell? ⟨g,b+j*3+2,none⟩=some u/\Jr w u r.2.2)->∃xs:List AFJ,xs.map (·.1)=ys/\(∀j v,(xs.flatMap ACG)[j]?=some v->w.cell? ⟨g,b+j,none⟩=some v)/\∀x∈xs,Jr w x.2 x.1.2.2
 |[],_,_=>⟨[],rfl,fun j v c=>by simp at c,fun x c=>by simp at c⟩
 |r::ys,b,c=>by
  obtain⟨c0,c1,u,c2,i⟩:=c 0 r rfl;obtain⟨xs,e,f,h⟩:=AFi ys (b+3) (fun j s a=>by
   have:=c (j+1) s (by simpa using a);rw[show b+(j+1)*3=b+3+j*3 by omega]at this;exact this)
  refine⟨(r,u)::xs,by rw[List.map_cons,e],fun j v a=>?_,fun x d=>?_⟩
  ·rw[List.flatMap_cons]at a
   match j,a with
   |0,a=>simp[ACG]at a;subst a;simpa using c0
   |1,a=>simp[ACG]at a;subst a;simpa using c1
   |2,a=>simp[ACG]at a;subst a;simpa using c2
   |j+3,a=>
    rw[xO (by show 3<=j+3;omega)]at a;have:=f j v (by simpa [ACG]using a);rw[show b+(j+3)=b+3+j by omega];exact this
  ·rcases yE.1 d with rfl|d
   ·exact i
   ·exact h x d
theorem AFs(l:List AFJ):(l.flatMap ACG).length=l.length*3:=by
 induction l with
 |nil=>rfl
 |cons d l a=>rw[List.flatMap_cons,xJ,a];simp[ACG];omega
theorem AFc:∀(l:List AFJ) (i:Nat) (x:AFJ),i<l.length->((((l.flatMap ACG).set (i*3) (.string x.1.1)).set (i*3+1) (.string x.1.2.1)).set (i*3+2) x.2)=(l.set i x).flatMap ACG
 |[],i,x,a=>by simp at a
 |y::l,0,x,_=>by simp[ACG]
 |y::l,i+1,x,a=>by
  have b:=AFc l i x (by simpa using a);rw[List.set_cons_succ,List.flatMap_cons,List.flatMap_cons,<-b];rw[show(i+1)*3=i*3+1+1+1 by omega];simp[ACG]
theorem AFh{b:World}{B g cap:Nat}{a:List AFJ}(c:b.ownsRow B 38 3 (.slice (some ⟨g,0,none⟩) a.length cap) a.length (a.flatMap ACG)){i:Nat}(d:i<a.length)(z:AFJ):(((b.setCell ⟨g,i*3,none⟩ (.string z.1.1)).setCell ⟨g,i*3+1,none⟩ (.string z.1.2.1)).setCell ⟨g,i*3+2,none⟩ z.2).ownsRow B 38 3 (.slice (some ⟨g,0,none⟩) a.length cap) a.length ((a.set i z).flatMap ACG):=by
 rw[<-AFc a i z d];exact Xu (Xu (Xu c _) _) _
theorem AEz{a:World}{B g cap n:Nat}{b:List AFJ}(c:a.ownsRow B 38 3 (.slice (some ⟨g,0,none⟩) n cap) n (b.flatMap ACG)){i:Nat}{z:AFJ}(f:b[i]?=some z)(s:b.length=n):a.cell? ⟨g,i*3,none⟩=some (.string z.1.1)/\a.cell? ⟨g,i*3+1,none⟩=some (.string z.1.2.1)/\a.cell? ⟨g,i*3+2,none⟩=some z.2/\(∀j,a.frozen? ⟨g,j,none⟩=false)/\g<a.heap.size/\B<=g:=by
 have r:=(wU.1 f).1;have q:∀j,j<3->a.cell? ⟨g,i*3+j,none⟩=(ACG z)[j]?:=fun j k=>by
  rw[c.cellAt _ (by omega)];exact AFW b i z j f k
 rcases c.2 with⟨e,_⟩|⟨p,l,m,e,h,d,_⟩
 ·cases e
 ·cases e
  exact⟨q 0 (by omega),q 1 (by omega),q 2 (by omega),Ak d,Ab d,h⟩
def AFB(w:World)(v:Value)(l:List Int):Prop:=∃a cap,v=.slice a l.length cap/\(l=[]\/∃g b,a=some ⟨g,b,none⟩/\∀j n,l[j]?=some n->w.cell? ⟨g,b+j,none⟩=some (.int .i64 n))
theorem AFB.below{w w':World}{v:Value}{l:List Int}(b:AFB w v l)(hb:yG w w'):AFB w' v l:=by
 obtain⟨a,cap,c,d⟩:=b;refine⟨a,cap,c,d.imp (fun e=>e) ?_⟩;rintro⟨g,k,f,h⟩;exact⟨g,k,f,fun j n i=>Ah hb (h j n i)⟩
theorem AFg(x:yF)(w:World)(hs:x.size<=2000000)(a:Option Addr)(b:Nat)(ys:List AY)(k:Fv w (.slice a ys.length b) ys)(d:QI ys)(m:Eo x ys=0):
 Calls prog 15 #[.string x,.slice a ys.length b] w fun e w'=>∃V T,e=.returned (.tuple #[.pointer (some ⟨V,0,none⟩),.int .i64 0])/\yG w w'/\w.heap.size<=V/\MS w' V T/\GN w' T (Ao (Ad x)).1 ys:=by
 have g:=Aa (qU x w (by unfold maxLen;omega) a b ys k d.l d.c);rw[m]at g;clear k d m;go_enter func15,ntmps15;go_wp2_with fail;refine g.o.mono ?_;rintro _ w1 ⟨q,rfl,h,j⟩;obtain⟨T,rfl,i⟩:=j trivial;have n:=Aa i;have f:=Aa h;clear j i h;go_wp2;go_ret2;exact⟨w1.heap.size,T,rfl,bA f.o _,f.o.size,wX w1 _,n.o.below (bA (wR _ _) _)⟩
theorem QI.perm{ys d:List AY}(a:QI ys)(b:d.Perm ys):QI d:=⟨by rw[b.length_eq];exact a.l,fun y e=>a.c y (b.mem_iff.1 e)⟩
theorem QI.sub{ys d:List AY}(a:QI ys)(b:d.Sublist ys):QI d:=⟨wV b.length_le a.l,fun y e=>a.c y (b.subset e)⟩
structure AGZ(w0:World)(B:Nat)(X:World)(v:Value)(xs:List AFJ)(ys:List AY):Prop where
 own:X.ownsRow B 38 3 v xs.length (xs.flatMap ACG)
 perm:(xs.map (·.1)).Perm ys
 cell:∀x∈xs,Jr w0 x.2 x.1.2.2
theorem AGO(x:yF)(w:World)(hs:x.size<=2000000)(aS:Option Addr)(aU:Nat)(ys:List AY)(ak:Fv w (.slice aS ys.length aU) ys)(cw:QI ys)(hit:GM w)(role vid qt vt:yF)(b:Int)(de:role.size<=2000000)(df:qt.size<=2000000)(dg:vt.size<=2000000)(b0:Option Addr)(b9:Nat)(O:List Int)(ch:AFB w (.slice b0 O.length b9) O)(dJ:O.length<=2000000)(cs:∀n∈O, -9223372036854775808<=n/\n<=9223372036854775807):
 Calls prog 6 #[.string x,.slice aS ys.length aU,.agg #[.string role,.string vid,.string qt,.string vt,.int .i64 b],.slice b0 O.length b9] w fun e w'=>e=.returned (.bool true)/\yG w w':=by
 have bX:=Aa (fun(h:World) (f:yG w h)=>uL h (hit.below f));have cU:=Aa (fun(h:World) (a:Option Addr) (c:Nat) (d:List AY) (bq:Fv h (.slice a d.length c) d) (H:QI d)=>Xb x h (by unfold maxLen;omega) a c d bq H.l H.c);have ag:=Aa (fun(h:World) (f:yG w h) (d:List AY) (H:QI d) V T (hs:MS h V T) (E:GN h T (Ao (Ad x)).1 d) (X:Eo x d=0)=>YP hs E X (fun y am=>by have:=(H.c y am).2.1;omega) (hit.below f) role vid qt vt b de df dg);have bY:=Aa ak;have au:=Aa cw;have cW:=Aa ch;have cQ:=Aa cs;clear hit ak cw ch cs;have bf:=Aa (wX w (.cells #[.string role,.string vid,.string qt,.string vt,.int .i64 b] 26));have a7:=Aa (bA (wR w.heap.size w) (.cells #[.string role,.string vid,.string qt,.string vt,.int .i64 b] 26));go_enter func6,ntmps6;go_upto_region 1 with fail;generalize w.alloc (.cells #[.string role,.string vid,.string qt,.string vt,.int .i64 b] 26)=c6 at*;go_wp2_with fail;refine(bX.o c6 a7.o).mono ?_;rintro _ w2 ⟨rfl,aw⟩;have a5:=Aa (bT a7.o aw);have bd:=Aa ((aw.block _ (Ab bf.o)).trans bf.o);clear aw bX bf a7;go_wp2_with fail;refine(cU.o w2 aS aU ys (bY.o.below a5.o) au.o).mono ?_;rintro _ w3 ⟨q,rfl,bm,r,aW⟩;have ae:=Aa (bT a5.o bm);have aN:=Aa ((bm.block _ (Ab bd.o)).trans bd.o);clear bm a5 bd;obtain⟨k,E⟩:∃k,k=Eo x ys:=⟨_,rfl⟩;rw[<-E]at r aW;rw[<-E];by_cases bv:k=0
 rotate_left
 ·have e:=r bv
  subst e;have dD:((k:Int)!=0)=true:=by simp;omega
  clear r aW E bv;go_wp2;go_ret;exact⟨rfl,ae.o⟩
 subst bv;obtain⟨V,T,rfl,ci,ce⟩:=aW rfl;have af:=Aa E.symm;have bV:=Aa ci;have cS:=Aa ce;clear r aW ci ce E;have dM:ys.length<=200:=((ACQ _ _).1 (Yr af.o).2).1;obtain⟨du,ct,cC,cD,cE⟩:=info_parts info38;go_upto_region 7 with fail;go_cut [12] (fun v12 wc=>∃xs:List AFJ,AGZ w w3.heap.size wc v12 xs ys/\yG w3 wc)
 case first=>
  by_cases a3:ys=[]
  ·subst a3
   have cd:AGZ w w3.heap.size w3 (.slice none 0 0) [] []:=⟨xF _ _ _ _,List.Perm.nil,fun x ds=>by simp at ds⟩;have cN:=Aa cd;clear cd;cases aS<;>(
    go_wp2;go_meet;exact⟨[],cN.o,wR _ _⟩)
  ·obtain⟨c8,da,e,dj,X⟩:=bY.o
   cases e;obtain⟨g,bD,rfl,cr⟩:=X.resolve_left a3;obtain⟨xs,N,cb,ax⟩:=AFi ys bD cr;have Z:xs.length=ys.length:=by rw[<-N,xT]
   have cF:=Aa (show(xs.flatMap ACG).length=ys.length*3 by rw[AFs,Z]);have cG:=Aa (show∀j u,(xs.flatMap ACG)[j]?=some u->w3.cell? ((⟨g,bD,none⟩:Addr).add j)=some u from fun j u bC=>by rw[Addr.add_lit];exact Ah ae.o (cb j u bC));have cH:=Aa (show∀u∈xs.flatMap ACG,u.oneCell'=true from fun u bC=>by
    obtain⟨z,H,a2⟩:=List.mem_flatMap.1 bC;obtain⟨a,c,e,_⟩:=ax z H;unfold ACG at a2;rw[e]at a2;simp only[yE,List.not_mem_nil,or_false]at a2;rcases a2 with rfl|rfl|rfl<;>rfl)
   have dt:0<ys.length:=by cases ys with
    |nil=>exact absurd rfl a3
    |cons _ _=>simp
   have aP:=Aa (xZ N (xZ ax Z));clear cr X N cb ax Z a3 dj;go_wp2_with (at_builtin;refine wpList_append_lies _ rfl _ _ 22 rfl w3.heap.size 38 du _ 3 56 underlying22 ct cC cD cE rfl (by decide) _ _ _ rfl (xF _ _ _ _) ⟨g,bD,none⟩ ys.length aU (xs.flatMap ACG) rfl cF.o cG.o cH.o dt (by unfold maxLen;omega) (by omega) (wQ _) w3.heap.size rfl ?_;intro dz da dW dr aC dK dB);go_meet;obtain⟨N,ax,Z⟩:=aP.o;refine⟨xs,⟨?_,by rw[N],ax⟩,⟨aC.os,aC.tape,aC.output,aC.size,fun k E=>aC.block k E (show Option.some k≠(Value.slice none 0 0).ownBlock from by simp[Value.ownBlock])⟩⟩;rw[Z];simpa using dr
 case rest=>
  obtain⟨xs,f,hb⟩:=hcut;obtain⟨aL,cL,rfl⟩:=An f.own;have aP:=Aa f;have bI:=Aa hb;have cK:=Aa (bT ae.o hb);have Z:xs.length=ys.length:=by have:=f.perm.length_eq;rwa [xT]at this
  have dL:xs.length<=200:=by omega
  clear f hb Z ct cC cD cE;go_wp2;go_loopg [13,14,15,16] xs.length (fun m v13 v14 v15 v16 wr=>∃(i:Nat) (d:List AFJ),v13=.int .i64 i/\i<=xs.length/\xs.length-i<=m/\AGZ w w3.heap.size wr (.slice aL xs.length cL) d ys/\d.length=xs.length/\yG w3 wr)
  case atStart=>exact⟨0,xs,rfl,wZ _,wQ _,aP.o,rfl,bI.o⟩
  case round=>
   obtain⟨i,d,rfl,dC,dH,cm,a4,hb⟩:=hrel;have B:=Aa cm;have s:=Aa a4;have a8:=Aa hb;have bK:=Aa (bT ae.o hb);clear cm a4 hb;by_cases aD:i<xs.length/\i<O.length
   ·obtain⟨cu,aZ⟩:=aD
    obtain⟨n,bx⟩:∃n,O[i]?=some n:=⟨_,wS aZ⟩;obtain⟨c8,c',e,X⟩:=cW.o.below bK.o;cases e;obtain⟨dA,dQ,rfl,cp⟩:=X.resolve_left (fun e=>by rw[e]at aZ;simp at aZ);have ca:=cp i n bx;have dv:=wW wr _ ca;obtain⟨dp,dq⟩:=cQ.o n (wT bx);clear X cp bx
    go_upto_if 67 with fail
    go_cut [14] (fun v14 aa=>∃m:Nat,v14=.int .i64 m/\m<=9223372036854775807/\aa=wr)
    case first=>
     by_cases dI:n<0
     ·go_wp2
      go_meet;obtain⟨m,dl⟩:=Int.eq_ofNat_of_zero_le (by omega:0<= -(n+1));exact⟨m,by rw[dl],by omega,rfl⟩
     ·go_wp2
      go_meet;obtain⟨m,rfl⟩:=Int.eq_ofNat_of_zero_le (by omega:0<=n);exact⟨m,rfl,by omega,rfl⟩
    case rest=>
     obtain⟨m,rfl,dk,rfl⟩:=hcut;obtain⟨k,E⟩:∃k,k=i+m%(xs.length-i):=⟨_,rfl⟩;have dn:m%(xs.length-i)<xs.length-i:=Nat.mod_lt _ (by omega);have dG:k<xs.length:=by omega
     have dF:i<=k:=by omega
     have dE:(i:Int)+(m:Int)%((xs.length:Int)-(i:Int))=(k:Int):=by
      rw[E,Int.natCast_add,Int.natCast_emod,Int.natCast_sub (by omega)]
     clear E dn dk dp dq;have a4:=s.o;obtain⟨y,am⟩:∃y,d[i]?=some y:=⟨_,wS (by omega)⟩;obtain⟨z,H⟩:∃z,d[k]?=some z:=⟨_,wS (by omega)⟩;obtain⟨C,b8,e,_,cq⟩:=(show wc.ownsRow w3.heap.size 38 3 (.slice aL xs.length cL) xs.length (d.flatMap ACG)from by have:=B.o.own;rwa [s.o]at this).form (by omega);cases e;have a0:wc.ownsRow w3.heap.size 38 3 (.slice (some ⟨C,0,none⟩) xs.length cL) xs.length (d.flatMap ACG):=by have:=B.o.own;rwa [s.o]at this
     obtain⟨aI,ab,ad,dc,cz,al⟩:=AEz a0 am s.o;obtain⟨bE,z1,z2, -⟩:=AEz a0 H s.o;obtain⟨ah,ai,bo, -⟩:=B.o.cell y (wT am);obtain⟨dw,dy,bp, -⟩:=B.o.cell z (wT H);rw[bo]at ad;rw[bp]at z2;have cX:=Aa a0;have bk:=Aa (xZ am bo);have aR:=Aa (xZ H bp);have co:=bA (wR wc.heap.size wc) (.cells #[.string y.1.1,.string y.1.2.1,.slice ah y.1.2.2.length ai] 38);have cZ:=Aa (wX wc (.cells #[.string y.1.1,.string y.1.2.1,.slice ah y.1.2.2.length ai] 38));have M:=Aa co;clear a0 am H bo bp ca dv a4 co;go_upto_region 16 with fail;have aI:=Ah M.o aI;have ab:=Ah M.o ab;have ad:=Ah M.o ad;have bE:=Ah M.o bE;have z1:=Ah M.o z1;have z2:=Ah M.o z2;have bR:=Aa (AT cX.o M.o);have cM:=Aa (a8.o.trans (M.o.mono a8.o.size));have bs:C≠wc.heap.size:=by omega
     generalize wc.alloc (.cells #[.string y.1.1,.string y.1.2.1,.slice ah y.1.2.2.length ai] 38)=c7 at*;have dd:∀j,c7.frozen? ⟨C,j,none⟩=false:=(AEz bR.o bk.o.1 s.o).2.2.2.1;clear dc;generalize wc.heap.size=R at*;go_cut [] (fun aa=>aa.ownsRow w3.heap.size 38 3 (.slice (some ⟨C,0,none⟩) xs.length cL) xs.length ((d.set i z).flatMap ACG)/\aa.heap[R]?=some (.cells #[.string y.1.1,.string y.1.2.1,.slice ah y.1.2.2.length ai] 38 (0,0))/\yG w3 aa)
     case first=>
      go_wp2;go_meet;have W:=bR.o;rw[<-s.o]at W;have aE:=AFh W (i:=i) (by have:=s.o;omega) z;rw[s.o,aR.o.2]at aE;exact⟨aE,(xC _ _ _ _ bs.symm).trans ((xC _ _ _ _ bs.symm).trans ((xC _ _ _ _ bs.symm).trans cZ.o)),bS (bS (bS cM.o _ al _) _ al _) _ al _⟩
     case rest=>
      obtain⟨W,br,cn⟩:=hcut;have ao:(d.set i z).length=xs.length:=by rw[List.length_set];exact s.o
      obtain⟨cB,cy⟩:∃cB,(d.set i z)[k]?=some cB:=⟨_,wS (by omega)⟩;obtain⟨dR,dS,p2,dT,pl, -⟩:=AEz W cy ao;have dx:=Ac br;have lR:=Ab br;have cY:=Aa (show AGZ w w3.heap.size (((wc.setCell ⟨C,k*3,none⟩ (.string y.1.1)).setCell ⟨C,k*3+1,none⟩ (.string y.1.2.1)).setCell ⟨C,k*3+2,none⟩ (.slice ah y.1.2.2.length ai)) (.slice (some ⟨C,0,none⟩) xs.length cL) ((d.set i z).set k y) ys from by
       have cx:=swap_perm d i k y z bk.o.1 aR.o.1;refine⟨?_,(cx.map _).trans B.o.perm,fun q r=>B.o.cell q (cx.mem_iff.1 r)⟩;rw[<-ao]at W;have aE:=AFh W (i:=k) (by omega) y;rw[ao,bk.o.2]at aE;rw[show((d.set i z).set k y).length=xs.length by rw[List.length_set];exact ao];exact aE)
      have cJ:=Aa (show yG w3 (((wc.setCell ⟨C,k*3,none⟩ (.string y.1.1)).setCell ⟨C,k*3+1,none⟩ (.string y.1.2.1)).setCell ⟨C,k*3+2,none⟩ (.slice ah y.1.2.2.length ai))from bS (bS (bS cn _ al _) _ al _) _ al _);have cT:=Aa ao;clear W br cn cy aI ab ad bE z1 z2 dd ao;go_wp2;go_roundg (xs.length-(i+1))
      case measure=>omega
      case rel=>exact⟨i+1,_,by go_num,by omega,wQ _,cY.o,by rw[List.length_set];exact cT.o,cJ.o⟩
   ·go_upto_region 9 with fail
    go_cut [59] (fun v59 aa=>v59=.bool false/\aa=wr)
    case first=>
     by_cases cu:i<xs.length
     ·have aZ:¬i<O.length:=fun bq=>aD ⟨cu,bq⟩
      clear aD;go_wp2;go_meet;exact⟨rfl,rfl⟩
     ·clear aD
      go_wp2;go_meet;exact⟨rfl,rfl⟩
    case rest=>
     obtain⟨rfl,rfl⟩:=hcut;have F:=B.o.perm;have v:Eo x (d.map (·.1))=0:=AGL af.o F.symm;have A:=au.o.perm F;have cv:Fv wc (.slice aL xs.length cL) (d.map (·.1)):=by
      have:=AFZ B.o.own (fun q r=>(B.o.cell q r).below bK.o);exact this
     have D:xs.length=(d.map (·.1)).length:=by rw[xT];exact s.o.symm
     have bg:=Aa (AFg x wc hs aL cL (d.map (·.1)) (by rw[<-D];exact cv) A v);rw[<-D]at bg;have aM:=Aa (xZ F (xZ v (xZ A D)));have bQ:=Aa (fun h=>AFg x h hs none 0 [] ⟨none,0,rfl,wQ _,.inl rfl⟩ (au.o.sub (List.nil_sublist _)) (AFF af.o (List.nil_sublist _)));clear F v A cv D aD;go_wp2_with fail;refine bg.o.mono ?_;rintro _ w5 ⟨c4,c1,rfl,bn, -,cj,aj⟩;have P:=Aa (bT a8.o bn);have bU:=Aa cj;have bN:=Aa aj;have bZ:=Aa (show AGZ w w3.heap.size w5 (.slice aL xs.length cL) d ys from⟨AT B.o.own bn,B.o.perm,B.o.cell⟩);clear bn cj aj bg;go_wp2_with fail;refine(bQ.o w5).mono ?_;rintro _ w6 ⟨av,c2,rfl,b2,cl,ck,cf⟩;have bJ:=Aa b2;have bW:=Aa ck;have bO:=Aa cf;clear b2 ck cf;obtain⟨p,bw⟩:∃p,p=d.map (·.1):=⟨_,rfl⟩;rw[<-bw]at aM bN;have bP:=Aa bw;have dN:=ae.o.size;have dO:=P.o.size;have aO:=Aa (bT ae.o P.o);have aQ:=Aa (show w5.ownsRow w3.heap.size 38 3 (.slice aL xs.length cL) xs.length (d.flatMap ACG)from by have:=bZ.o.own;rwa [s.o]at this);clear bw B aP bI cK;go_wp2;go_loopg [21,22] xs.length (fun m v21 v22 wr=>∃(j G:Nat),v21=.int .i64 j/\j<=xs.length/\xs.length-j<=m/\MS wr av G/\GN wr G (Ao (Ad x)).1 (p.take j)/\yG w5 wr)
     case atStart=>exact⟨0,c2,rfl,wZ _,wQ _,bW.o,bO.o,bJ.o⟩
     case round=>
      obtain⟨j,G,rfl,dh,dm,aB,az,U⟩:=hrel;have I:=Aa aB;have J:=Aa az;have t:=Aa U;have Q:=Aa (aO.o.trans (U.mono aO.o.size));clear aB az U;by_cases di:j<xs.length
      ·obtain⟨q,r⟩:∃q,d[j]?=some q:=⟨_,wS (by have:=s.o;omega)⟩
       obtain⟨F,v,A,D⟩:=aM.o;have aF:p[j]?=some q.1:=by rw[bP.o,xI,r];rfl
       have a1:p.take (j+1)=p.take j++[q.1]:=by rw[xL,aF];rfl
       obtain⟨C,b8,e,_,cq⟩:=aQ.o.form (by omega);cases e;obtain⟨aI,ab,ad, -,cz, -⟩:=AEz (AT aQ.o t.o) r s.o;have aX:=(bZ.o.cell q (wT r)).below Q.o;obtain⟨aq,db,eq, -⟩:=id aX;rw[eq]at ad aX;have bh:=Aa (AGK I.o J.o q.1 aq db aX (Yr (AFF v (List.take_sublist j p))).2 (by rw[<-a1];exact(Yr (AFF v (List.take_sublist (j+1) p))).2) (by rw[<-a1];exact A.sub (List.take_sublist _ _)));rw[<-a1]at bh;clear F v A D aF a1 aX eq r;go_wp2_with fail;refine bh.o.mono ?_;rintro _ w7 ⟨rfl,bl,aA,ay,aH⟩;have bi:=Aa aA;have bc:=Aa ay;have a6:=Aa (t.o.trans (aH.below cl t.o.size));clear aA ay aH bh aI ab ad;go_wp2;go_roundg (xs.length-(j+1))
       case measure=>omega
       case rel=>exact⟨j+1,bl,by go_num,by omega,wQ _,bi.o,bc.o,a6.o⟩
      ·have bu:j=xs.length:=by omega
       subst bu;obtain⟨F,v,A,D⟩:=aM.o;have aG:p.take xs.length=p:=by rw[D];exact List.take_length
       rw[aG]at J;have N:Ft x p role vid qt vt b=Ft x ys role vid qt vt b:=(AGN (AFY af.o) F.symm role vid qt vt b).symm;have aK:=Aa (P.o.trans (t.o.mono P.o.size));have bM:=Aa (fun(h:World) (f:yG wr h)=>ag.o h (bT Q.o f) ys au.o V T (((bT aK.o f).block _ (Ab bV.o)).trans bV.o) (cS.o.below (bT aK.o f)) af.o);have ba:=Aa (fun(h:World) (f:yG wr h)=>ag.o h (bT Q.o f) p A c4 c1 (((bT t.o f).block _ (Ab bU.o)).trans bU.o) (bN.o.below (bT t.o f)) v);have bb:=Aa (fun(h:World) (f:yG wr h)=>ag.o h (bT Q.o f) p A av G ((f.block _ (Ab I.o)).trans I.o) (J.o.below f) v);rw[N]at ba bb;have K:=Aa ((aK.o.block _ (Ab aN.o)).trans aN.o);have S:=Ac K.o;have L:=Ab K.o;generalize Ft x ys role vid qt vt b=bF at*;have nA:(bF.toList==bF.toList)=true:=by simp
       clear F v A D aG N;go_wp2_with fail;refine(bM.o wr (wR _ _)).mono ?_;rintro _ w8 ⟨rfl,b3⟩;have ap:=Aa b3;clear b3 bM S L;have S:=Ac ((ap.o.block _ (Ab K.o)).trans K.o);have L:=xA (Ab K.o) ap.o.size;go_wp2_with fail;refine(ba.o w8 ap.o).mono ?_;rintro _ w9 ⟨rfl,b4⟩;have ar:=Aa (bT ap.o b4);clear b4 ba S L ap;have S:=Ac ((ar.o.block _ (Ab K.o)).trans K.o);have L:=xA (Ab K.o) ar.o.size;go_wp2_with fail;refine(bb.o w9 ar.o).mono ?_;rintro _ w10 ⟨rfl,b1⟩;have aJ:=Aa (bT ar.o b1);clear b1 bb S L ar;have c0:=Aa (show MS w10 av G from(aJ.o.block _ (Ab I.o)).trans I.o);have cR:=Aa (J.o.below aJ.o);have cI:=Aa (t.o.trans (aJ.o.mono t.o.size));clear bW bO bJ I J K aK aJ t Q;obtain⟨cA,rfl⟩:∃cA:World,cA=wr:=⟨_,rfl⟩;go_wp2;go_loopg [26,27] xs.length (fun m v26 v27 wr=>∃(j G:Nat),v26=.int .i64 j/\j<=xs.length/\xs.length-j<=m/\MS wr av G/\GN wr G (Ao (Ad x)).1 (p.drop j)/\yG w5 wr)
       case atStart=>exact⟨0,G,rfl,wZ _,wQ _,c0.o,cR.o,cI.o⟩
       case round=>
        obtain⟨j,G,rfl,dh,dm,aB,az,U⟩:=hrel;have I:=Aa aB;have J:=Aa az;have t:=Aa U;have Q:=Aa (aO.o.trans (U.mono aO.o.size));clear aB az U;obtain⟨F,v,A,D⟩:=aM.o;by_cases di:j<xs.length
        ·obtain⟨q,r⟩:∃q,d[j]?=some q:=⟨_,wS (by have:=s.o;omega)⟩
         have aF:p[j]?=some q.1:=by rw[bP.o,xI,r];rfl
         have aY:p.drop j=q.1::p.drop (j+1):=by
          rw[xX (by omega),(wU.1 aF).2]
         obtain⟨C,b8,e,_,cq⟩:=aQ.o.form (by omega);cases e;obtain⟨-,ab, -, -,cz, -⟩:=AEz (AT aQ.o t.o) r s.o;have aj:=J.o;rw[aY]at aj;have bL:=Aa (AFp I.o aj (by rw[<-aY];exact(Yr (AFF v (List.drop_sublist j p))).2) (by rw[<-aY];exact A.sub (List.drop_sublist _ _)));clear F v A D aF aY aj r;go_wp2_with fail;refine bL.o.mono ?_;rintro _ w11 ⟨rfl,bl,aA,ay,aH⟩;have bi:=Aa aA;have bc:=Aa ay;have a6:=Aa (t.o.trans (aH.below cl t.o.size));clear aA ay aH bL ab;go_wp2;go_roundg (xs.length-(j+1))
         case measure=>omega
         case rel=>exact⟨j+1,bl,by go_num,by omega,wQ _,bi.o,bc.o,a6.o⟩
        ·have bu:j=xs.length:=by omega
         subst bu;have aG:p.drop xs.length=[]:=by rw[D];exact List.drop_length
         rw[aG]at J;clear F v A D aG;go_wp2_with fail;refine(bQ.o wr).mono ?_;rintro _ w12 ⟨c5,c3,rfl,aT, -,bt,cg⟩;have bH:=Aa aT;have a9:=Aa (bT Q.o aT);have bz:Eo x []=0:=AFF af.o (List.nil_sublist _);have bB:QI []:=au.o.sub (List.nil_sublist _);have cO:=Aa (fun(h:World) (f:yG w12 h)=>ag.o h (bT a9.o f) [] bB av G (((bT bH.o f).block _ (Ab I.o)).trans I.o) (J.o.below (bT bH.o f)) bz);have cP:=Aa (fun(h:World) (f:yG w12 h)=>ag.o h (bT a9.o f) [] bB c5 c3 ((f.block _ (Ab bt)).trans bt) (cg.below f) bz);have cc:yG w3 w12:=(P.o.trans (t.o.mono P.o.size)).trans (aT.mono (wV P.o.size t.o.size));have aV:=(cc.block _ (Ab aN.o)).trans aN.o;have S:=Ac aV;have L:=Ab aV;have cV:=Aa aV;generalize Ft x [] role vid qt vt b=bG at*;have dP:(bG.toList==bG.toList)=true:=by simp
         clear aT bz bB cc aV bt cg ag;have bj:=Aa (fun Y (ak:yG w12 Y)=>xZ ak (xZ (Ac ((ak.block _ L).trans cV.o)) (xA L ak.size)));go_wp2;go_region_held3 (fun Y=>yG w12 Y/\(∀j,Y.cell? ⟨w.heap.size,j,none⟩=(#[.string role,.string vid,.string qt,.string vt,.int .i64 b]:Array Value)[j]?)/\w.heap.size<Y.heap.size)
          (first|exact bj.o _ (wR _ _).drew|exact bj.o _ (bT b5 c9)|exact bj.o _ (bT b6 aw))
          (first|(go_at_call 16;obtain⟨b5, -⟩:= ‹yG w12 _/\_›;refine(cO.o _ b5).mono ?_;rintro _ dU ⟨rfl,c9⟩)|(go_at_call 16;obtain⟨b6, -⟩:= ‹yG w12 _/\_›;refine(cP.o _ b6).mono ?_;rintro _ dV ⟨rfl,aw⟩))
         all_goals(
          obtain⟨b7, -⟩:= ‹yG w12 _/\_›;have aR:=Aa (bT a9.o b7);clear b7 S L
          (try go_wp2_with fail)
          go_ret;exact⟨rfl,aR.o⟩)
end Go.Proofs.YtogdodlibkckkaaGreatDoor
