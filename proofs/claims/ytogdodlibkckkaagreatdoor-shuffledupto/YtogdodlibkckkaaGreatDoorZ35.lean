import Derived.Test.YtogdodlibkckkaaGreatDoorZ33
import Derived.BigQuiet
import Derived.Deep.RegionHeld3
namespace Go.Proofs.YtogdodlibkckkaaGreatDoor
set_option maxHeartbeats 20000000
set_option maxRecDepth 100000
open Go.RowKit Tryz
structure Gp(w:World)(gO:Nat)(LO:List AX)(g o:Nat)(l:List BU)(r:MR):Prop where
 k:r.1<LO.length
 c0:w.cell? ⟨g,o,none⟩=some (.pointer (some ⟨gO,r.1*4,none⟩))
 c2:∃vC,w.cell? ⟨g,o+2,none⟩=some vC/\Gn w vC l
 n:l.length<=1000000
 nm:l.map CC=r.2.map Prod.fst
 v:∀(j:Nat) (c:BU) (x:yF×RV),l[j]?=some c->r.2[j]?=some x->Ba w (fun g=>g<w.heap.size) 1603 c.c x.2
 lc:∀c∈l,c.c.ln<=c.c.lc
theorem Gp.below{w w':World}{gO g o:Nat}{LO:List AX}{l:List BU}{r:MR}(a:Gp w gO LO g o l r)(hb:yG w w'):Gp w' gO LO g o l r:=by
 obtain⟨i,d,e⟩:=a.c2;exact⟨a.k,Ah hb a.c0,⟨i,Ah hb d,e.below hb⟩,a.n,a.nm,fun j c x f h=>(a.v j c x f h).frame (fun g b o=>hb.cell (p:=⟨g,o,none⟩) b) (fun g b=>xA b hb.size),a.lc⟩
def Qh:RV->Nat×Int×yF->Bool
 | .mk k n t _,m=>((k:Int)==(m.1:Int))&&((n==m.2.1)&&(t.toList==m.2.2.toList))
def UQ(r:MR)(id n:yF)(y:Option (Nat×Int×yF)):Bool:=Qh (EM r n) (GD id (Fy y).1 (Fy y).2.1 (Fy y).2.2)
def Nx(roles:List yF)(id:yF)(r:MR)(o:Aq):Bool:=o.rule.isSome&&!Ia (fun n=>AS n roles) (UQ r id) o.tree
theorem Ba.eq3{w:World}{B:Nat->Prop}:∀{k:Nat} {f:FV} {r:RV} (m:Nat×Int×yF),Ba w B k f r->Go.Proofs.YtogdodlibkckkaaGreatDoor.eq3 f m=Qh r m
 |0,f,.mk sh n s l,m,a=>by
  obtain⟨b,c,d,_⟩:=a;unfold Go.Proofs.YtogdodlibkckkaaGreatDoor.eq3 Qh;rw[b,c,d]
 |k+1,f,.mk sh n s l,m,a=>by
  obtain⟨b,c,d,_⟩:=a;unfold Go.Proofs.YtogdodlibkckkaaGreatDoor.eq3 Qh;rw[b,c,d]
theorem Gp.cont{w:World}{gO g o:Nat}{LO:List AX}{l:List BU}{r:MR}(b:Gp w gO LO g o l r)(n:yF):Ba w (fun g=>g<w.heap.size) 1603 (EN l n) (EM r n):=by
 unfold EN EM;rw[b.nm];by_cases a:Af (r.2.map Prod.fst) n<0
 ·rw[xH a,xH a]
  exact⟨rfl,rfl,rfl,rfl,[],rfl,.inl rfl,fun i f x h=>by simp at h⟩
 ·rw[xG a,xG a]
  obtain⟨j,x,k,e,_,m⟩:=Cu Prod.fst r.2 n a;rw[k,xS,e];have p:l.length=r.2.length:=by have:=congrArg List.length b.nm;simpa using this
  obtain⟨c,d⟩:∃c,l[j]?=some c:=⟨_,wS (by omega)⟩;rw[d];exact b.v j c x d e
theorem Gp.cap{w:World}{gO g o:Nat}{LO:List AX}{l:List BU}{r:MR}(b:Gp w gO LO g o l r)(n:yF):(EN l n).ln<=(EN l n).lc:=by
 unfold EN;by_cases a:Af (l.map CC) n<0
 ·rw[xH a];exact wQ _
 ·rw[xG a]
  cases d:l[(Af (l.map CC) n).toNat]? with
  |none=>exact wQ _
  |some c=>exact b.lc c (wT d)
theorem Gp.eqP{w:World}{gO g o:Nat}{LO:List AX}{l:List BU}{r:MR}(a:Gp w gO LO g o l r)(id:yF):Go.Proofs.YtogdodlibkckkaaGreatDoor.eqP l id=UQ r id:=by
 funext n y;exact(a.cont n).eq3 _
structure IU(w:World)(T S M gO B:Nat)(LO:List AX)(vL:Value)(qs:List AE)(rows:List (yF×MR)):Prop where
 st:EL w T S M gO B vL qs
 ids:qs.map AE.id=rows.map Prod.fst
 row:∀(j:Nat) (q:AE) (x:yF×MR) (g cap:Nat),qs[j]?=some q->rows[j]?=some x->vL=.slice (some ⟨g,0,none⟩) qs.length cap->Gp w gO LO g (j*3) q.cs x.2
theorem IU.below{w w':World}{T S M gO B:Nat}{LO:List AX}{vL:Value}{qs:List AE}{rows:List (yF×MR)}(a:IU w T S M gO B LO vL qs rows)(hb:yG w w'):IU w' T S M gO B LO vL qs rows:=⟨a.st.below hb,a.ids,fun j q x g cap b c d=>(a.row j q x g cap b c d).below hb⟩
def Fl(rows:List (yF×MR))(id:yF):Option MR:=if Af (rows.map Prod.fst) id<0 then none else rows[(Af (rows.map Prod.fst) id).toNat]?.map Prod.snd
def Ej(objs:List Aq)(roles:List yF)(vid:yF)(rows:List (yF×MR))(id:yF):Option MR:=(Fl rows id).bind fun r=>if Nx roles vid r (objs.getD r.1 Ge)=true then none else some r
def KN(w:World)(gO:Nat)(LO:List AX)(q:Option Addr):Option MR->Prop
 |none=>q=none
 |some r=>∃g o l,q=some ⟨g,o,none⟩/\Gp w gO LO g o l r
section
variable {w w0:World} {S:Nat} {vR vO vI vU vN:Value} {LR:List (Au×Value)} {LO:List AX} {LI:List (At×Value)} {LU:List (Aw×Value)} {names:List yF} {T M gO B V:Nat} {vL:Value} {qs:List AE} {rows:List (yF×MR)}
theorem Vc(a:IU w0 T S M gO B LO vL qs rows)(hb:yG w0 w)(id:yF)(hid:id.size<=maxLen):Calls prog 76 #[.pointer (some ⟨T,0,none⟩),.string id] w fun e w'=>(∃q,e=.returned (.pointer q)/\KN w0 gO LO q (Fl rows id))/\w'=w:=by
 refine(SN (a.st.below hb) id hid).mono ?_;rintro e w' ⟨rfl,rfl⟩;refine⟨?_,rfl⟩;unfold Fl;rw[a.ids];by_cases b:Af (rows.map Prod.fst) id<0
 ·rw[xH b]
  exact⟨none,by unfold AC;rw[xH b],rfl⟩
 ·rw[xG b]
  obtain⟨j,x,g,f,_,h⟩:=Cu Prod.fst rows id b;rw[g,xS,f];have i:qs.length=rows.length:=by have:=congrArg List.length a.ids;simpa using this
  obtain⟨q,d⟩:∃q,qs[j]?=some q:=⟨_,wS (by omega)⟩;obtain⟨c,cap,e,_⟩:=a.st.at d;refine⟨some ⟨c,j*3,none⟩,by rw[e];unfold AC;rw[xG (by omega)];rfl,c,j*3,q.cs,rfl,a.row j q x c cap d f e⟩
theorem Zm(i:yG w0 w)(d:SV w0 S vR vO vI vU vN LR LO LI LU names)(N:∃c,vO=.slice (some ⟨gO,0,none⟩) LO.length c){vid:yF}{roles:List yF}(j:DV w0 V vid roles)(C:IU w0 T S M gO B LO vL qs rows)(id:yF)(hid:id.size<=maxLen):Calls prog 249 #[.pointer (some ⟨V,0,none⟩),.pointer (some ⟨T,0,none⟩),.string id] w fun e w'=>∃q,e=.returned (.pointer q)/\yG w w'/\KN w0 gO LO q (Ej (LO.map Prod.fst) roles vid rows id):=by
 have D:=Aa (Vc C i id hid);have s:=Aa (Ej.eq_1 (LO.map Prod.fst) roles vid rows id);generalize Ej (LO.map Prod.fst) roles vid rows id=f at*;have x:=Aa (fun g o l r (R:Gp w0 gO LO g o l r)=>(show Calls prog 37 #[.pointer (some ⟨V,0,none⟩),.pointer (some ⟨g,o,none⟩)] w fun e w'=>e=.returned (.bool (Nx roles vid r ((LO.map Prod.fst).getD r.1 Ge)))/\yG w w' from by
  obtain⟨c,G⟩:=N;have a:=R.below i;have d:=d.below i;have j:=j.below i;obtain⟨U,K,Q⟩:=a.c2;obtain⟨y,v⟩:∃y,LO[r.1]?=some y:=⟨_,wS a.k⟩;have O:=wT v;obtain⟨X,W,A,L⟩:=d.o.cell (fun _=>rfl) r.1 y v;rw[G]at A;have F:=Addr.mk.inj (xD (Value.slice.inj A).1);have J:w.cell? ⟨gO,r.1*4+3,none⟩=some y.2.2.2:=by rw[F.1];exact L 3 _ rfl
  have P:=d.o.ok y O;have q:=pX (id:=vid) j U y.2.2.2 l y.1.rule y.1.tree a.c0 J K Q a.n P.2.2.2.2;have H:(LO.map Prod.fst).getD r.1 Ge=y.1:=by rw[List.getD_eq_getElem?_getD,xI,v];rfl
  unfold Nx;rw[H,<-a.eqP vid];exact q))
 generalize Fl rows id=I at*;clear C d j;go_enter func249,ntmps249;go_wp2_with fail;refine D.o.mono ?_;rintro _ w1 ⟨⟨q,rfl,t⟩,u⟩;have u:=u.symm;subst u;cases I with
 |none=>
  have e:q=none:=t;subst e;have h:=Aa (show f=none from s.o);clear t;go_wp2;go_ret;rw[h.o];exact⟨none,rfl,wR _ _,rfl⟩
 |some r=>
  obtain⟨g,o,l,e,a⟩:=t;subst e;have E:=Aa a;have z:=Aa (x.o g o l r a);have h:=Aa (show f=if Nx roles vid r ((LO.map Prod.fst).getD r.1 Ge)=true then none else some r from s.o);generalize Nx roles vid r ((LO.map Prod.fst).getD r.1 Ge)=hb at*;clear a x s;cases hb
  ·have p:=Aa (show f=some r from h.o)
   go_wp2_with fail;refine z.o.mono ?_;rintro _ w2 ⟨rfl,b⟩;have m:=Aa b;clear b;go_wp2;go_ret;rw[p.o];exact⟨_,rfl,m.o,g,o,l,rfl,E.o⟩
  ·have p:=Aa (show f=none from h.o)
   go_wp2_with fail;refine z.o.mono ?_;rintro _ w2 ⟨rfl,b⟩;have m:=Aa b;clear b;go_wp2;go_ret;rw[p.o];exact⟨none,rfl,m.o,rfl⟩
end
def KT(objs:List Aq)(uns:List Aw)(typ:yF)(r:Option MR):Option MR:=r.bind fun r=>if decide ((objs.getD r.1 Ge).name=bQ)||!AW (objs.getD r.1 Ge) uns typ then none else some r
section
variable {w w0:World} {S:Nat} {vR vO vI vU vN:Value} {LR:List (Au×Value)} {LO:List AX} {LI:List (At×Value)} {LU:List (Aw×Value)} {names:List yF} {T M gO B V:Nat} {vL:Value} {qs:List AE} {rows:List (yF×MR)}
theorem bC(i:yG w0 w)(D:SV w0 S vR vO vI vU vN LR LO LI LU names)(J:∃c,vO=.slice (some ⟨gO,0,none⟩) LO.length c){vid:yF}{roles:List yF}(Y:DV w0 V vid roles)(A:IU w0 T S M gO B LO vL qs rows){z:Nat}{v2 v3 v4 v5 v6:Value}(C:w.heap[z]?=some (.cells #[.pointer (some ⟨T,0,none⟩),.pointer (some ⟨V,0,none⟩),v2,v3,v4,v5,v6] 117 (0,0)))(id typ:yF)(hid:id.size<=maxLen):Calls prog 221 #[.pointer (some ⟨z,0,none⟩),.string id,.string typ] w fun e w'=>∃q,e=.returned (.pointer q)/\yG w w'/\KN w0 gO LO q (KT (LO.map Prod.fst) (LU.map Prod.fst) typ (Ej (LO.map Prod.fst) roles vid rows id)):=by
 have U:=Aa (fun W (s:yG w W)=>Zm (i.trans (s.mono i.size)) D J Y A id hid);have H:=Aa (fun W (s:yG w W) k x (f:LO[k]?=some x)=>Sq (D.below (i.trans (s.mono i.size))) k x f typ gO J);have O:=Aa (fun k x (f:LO[k]?=some x)=>(show w.cell? ⟨gO,k*4,none⟩=some (.string x.1.name)from by
  refine Ah i ?_;obtain⟨c,aj⟩:=J;obtain⟨au,ar,X,al⟩:=D.o.cell (fun _=>rfl) k x f;rw[aj]at X;have ai:=Addr.mk.inj (xD (Value.slice.inj X).1);rw[ai.1];simpa using al 0 _ rfl))
 have ag:=Ac C;have K:=Ab C;have E:=(i.block _ (Ab A.st.b)).trans A.st.b;have ah:=Ac E;have L:=Ab E;have v:=Aa C;have y:=Aa E;have N:=Aa i;have P:=Aa (KT.eq_1 (LO.map Prod.fst) (LU.map Prod.fst) typ (Ej (LO.map Prod.fst) roles vid rows id));generalize KT (LO.map Prod.fst) (LU.map Prod.fst) typ (Ej (LO.map Prod.fst) roles vid rows id)=m at*;generalize Ej (LO.map Prod.fst) roles vid rows id=aa at*;clear D Y A C E;go_enter func221,ntmps221;go_wp2;go_cut [7] (fun v7 wc=>∃q,v7=.pointer q/\yG w wc/\KN w0 gO LO q aa)
 case first=>
  go_region_with (go_at_call 249;refine(U.o _ ?_).mono ?_;(first|exact(wR _ _).drew|exact wR _ _);rintro _ w1 ⟨q,rfl,I,n⟩);all_goals(
   have ab:=Aa (show yG w w1 from(by first|exact I|exact(wR w.heap.size w).drew.trans I));have ae:=Aa n;clear I n;go_wp2;go_meet;exact⟨q,rfl,ab.o,ae.o⟩)
 case rest=>
 obtain⟨q,rfl,hb,n⟩:=hcut;have F:=Aa hb;have ap:=Ac ((hb.block _ K).trans v.o);have av:=xA K hb.size;have aq:=Ac ((hb.block _ L).trans y.o);have aw:=xA L hb.size;clear ag K ah L U;cases aa with
 |none=>
  have e:q=none:=n;subst e;have d:=Aa (show m=none from P.o);clear n hb;go_wp2;go_quiet (fail);go_wp2;go_ret;rw[d.o];exact⟨none,rfl,below_drewN F.o _,rfl⟩
 |some r=>
  obtain⟨g,o,l,e,t⟩:=n;subst e;obtain⟨x,f⟩:∃x,LO[r.1]?=some x:=⟨_,wS t.k⟩;have Q:=Aa t;have ao:=Ah hb (Ah N.o t.c0);have ay:=wW wc _ ao;have am:=Ah hb (O.o r.1 x f);have ax:=wW wc _ am;have ak:(LO.map Prod.fst).getD r.1 Ge=x.1:=by rw[List.getD_eq_getElem?_getD,xI,f];rfl
  have d:=Aa (show m=if ((x.1.name.toList==[81,117,101,114,121])||!AW x.1 (LU.map Prod.fst) typ)=true then none else some r from by
   rw[P.o];simp only[Option.bind_some];rw[ak,show(x.1.name.toList==[81,117,101,114,121])=decide (x.1.name=bQ)from by rw[<-Cy,Lib.toList_data bQ];rfl])
  have ad:=Aa (fun W (s:yG w W)=>H.o W s r.1 x f);generalize AW x.1 (LU.map Prod.fst) typ=ob at*;cases Z:(x.1.name.toList==[81,117,101,114,121])
  ·rw[Z]at d
   have u:=Aa (show m=if ob=false then none else some r from by rw[d.o];cases ob<;>rfl);have R:=Aa (fun a (h:yG w a)=>xZ h (xZ (Ac ((h.block _ (Ab v.o)).trans v.o)) (xZ (Ac ((h.block _ (Ab y.o)).trans y.o)) (xZ (Ah h (Ah N.o Q.o.c0)) (xZ (Ah h (O.o r.1 x f)) (xZ (xA (Ab v.o) h.size) (xA (Ab y.o) h.size)))))));clear t hb d H;go_wp2;go_region_held3 (fun a=>yG w a/\(∀j,a.cell? ⟨z,j,none⟩=(#[.pointer (some ⟨T,0,none⟩),.pointer (some ⟨V,0,none⟩),v2,v3,v4,v5,v6]:Array Value)[j]?)/\(∀j,a.cell? ⟨T,j,none⟩=(#[vL,.pointer (some ⟨S,0,none⟩),.map (some M)]:Array Value)[j]?)/\a.cell? ⟨g,o,none⟩=some (.pointer (some ⟨gO,r.1*4,none⟩))/\a.cell? ⟨gO,r.1*4,none⟩=some (.string x.1.name)/\z<a.heap.size/\T<a.heap.size)
    (first|exact R.o _ F.o.drew|exact R.o _ (bT p af))
    (first|(go_at_call 217;obtain⟨p, -⟩:= ‹yG w _/\_›;refine(ad.o _ p).mono ?_;rintro _ w2 ⟨rfl,af⟩))
   all_goals(
    obtain⟨p, -⟩:= ‹yG w _/\_›;cases ob
    ·have G:=Aa (show m=none from u.o)
     go_wp2;go_ret;rw[G.o];exact⟨none,rfl,p,rfl⟩
    ·have G:=Aa (show m=some r from u.o)
     go_wp2;go_ret;rw[G.o];exact⟨_,rfl,p,g,o,l,rfl,Q.o⟩)
  ·rw[Z]at d
   have u:=Aa (show m=none from d.o);clear t hb d H;go_wp2;go_quiet (fail);go_wp2;go_ret;rw[u.o];exact⟨none,rfl,below_drewN F.o _,rfl⟩
end
section
variable {w:World} {B0 M T V n:Nat} {s:Aj} {vps:Value}
theorem nZ(b:MK w B0 M T V n s)(d:s.errs.length<=70000000000000)(e:s.path.length<=1000000000)(f:s.path≠[])(g:B0<=w.heap.size):Calls prog 220 #[.pointer (some ⟨M,0,none⟩),.pointer none,vps] w (AQ w B0 M T V n (.int .i64 2) s.fail):=by
 have a:=Aa (Pv b d e f g);unfold AQ at a⊢;clear b;go_enter func220,ntmps220;go_wp2_with fail;refine a.o.mono ?_;rintro _ w1 ⟨rfl,c,f1⟩;go_wp2;go_ret;exact⟨rfl,c,f1⟩
theorem oA{g o c:Nat}{d:Aj}(b:Calls prog 79 #[.pointer (some ⟨M,0,none⟩),.pointer (some ⟨g,o,none⟩),vps] w (AQ w B0 M T V n (.int .i64 c) d)):Calls prog 220 #[.pointer (some ⟨M,0,none⟩),.pointer (some ⟨g,o,none⟩),vps] w (AQ w B0 M T V n (.int .i64 c) d):=by
 have a:=Aa b;unfold AQ at a⊢;clear b;go_enter func220,ntmps220;go_wp2_with fail;refine a.o.mono ?_;rintro _ w1 ⟨rfl,e,f1⟩;go_wp2;go_ret;exact⟨rfl,e,f1⟩
end
end Go.Proofs.YtogdodlibkckkaaGreatDoor
