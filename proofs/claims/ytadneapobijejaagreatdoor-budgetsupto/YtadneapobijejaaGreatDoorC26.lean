import Derived.Test.YtadneapobijejaaGreatDoorC25
import Derived.Deep.RegionHeld3
import Derived.BigQuiet
namespace Go.Proofs.YtadneapobijejaaGreatDoor
set_option maxHeartbeats 20000000
set_option maxRecDepth 100000
open Go.RowKit Tryz
open Go.Maps Tryz
def Dm(v:PV)(c:vD)(strict:Bool):Bool:=if v.1=0 then !strict else IK v.1 c
theorem MU(w:World)(v:PV)(c:vD)(strict:Bool):Calls prog 44 #[.agg #[.int .i64 v.1,.int .i64 v.2.1,.string v.2.2],.string c,.bool strict] w fun e w'=>e=.returned (.bool (Dm v c strict))/\vE w w':=by
 obtain⟨k,n,t⟩:=v;have HQ:=Aa (show Dm (k,n,t) c strict=if k=0 then !strict else IK k c from rfl);generalize Dm (k,n,t) c strict=q at*;have HC:=Aa (fun W=>Uy W k n t c);generalize IK k c=qo at*;by_cases h0:k=0
 ·have T:((k:Int)==0)=true:=by simp;omega
  rw[uC h0]at HQ;go_enter func44,ntmps44;go_wp2_with fail;go_ret;rw[HQ.o];exact⟨rfl,(tM _ _).alloc (tL _) _⟩
 ·have T:((k:Int)==0)=false:=by simp;omega
  rw[uB h0]at HQ;go_enter func44,ntmps44;go_wp2_with fail;refine(HC.o _).mono ?_;rintro _ w1 ⟨rfl,b1⟩;go_wp2_with fail;go_ret;rw[HQ.o];exact⟨rfl,bT (bA (tM _ _) _) b1⟩
def Md(x:DS):Bool:=Ef x.scalar&&(!x.has||Dm x.dflt x.scalar x.strict)
section
variable {w:World} {k:Nat} {x:DS}
theorem qH(h:w.heap[k]?=some (.cells #[.string x.name,.string x.scalar,.bool x.strict,.bool x.has,.int .i64 x.dflt.1,.int .i64 x.dflt.2.1,.string x.dflt.2.2] 118 (0,0))):Calls prog 42 #[.pointer (some ⟨k,0,none⟩)] w fun e w'=>e=.returned (.bool (Md x))/\vE w w':=by
 have ct:=Ac h;have lk:=Ab h;have HS:=Aa (fun V (hV:vE w V)=>uV hV (fun j=>(hV.cell (p:=⟨k,j,none⟩) lk).trans (ct j)));have HI:=Aa (fun W=>Nb x.scalar W);have HF:=Aa (fun W=>MU W x.dflt x.scalar x.strict);have HQ:=Aa (Md.eq_1 x);generalize Md x=q at*;generalize Dm x.dflt x.scalar x.strict=qf at*;cases es:Ef x.scalar
 ·rw[es]at HQ HI
  have HQ2:=Aa (show q=false from HQ.o);clear h;go_enter func42,ntmps42;go_wp2_with fail;go_quiet ((go_at_call 75;refine Calls.quiet_of_same (HI.o _)));go_wp2_with fail;go_ret;rw[HQ2.o];exact⟨rfl,below_drewN (tM _ _) _⟩
 ·rw[es]at HQ HI
  cases eh:x.has
  ·rw[eh]at HQ ct
   have HQ2:=Aa (show q=true from HQ.o);clear h HS;go_enter func42,ntmps42;go_wp2_with fail;go_quiet ((go_at_call 75;refine Calls.quiet_of_same (HI.o _)));go_wp2_with fail;go_ret;rw[HQ2.o];exact⟨rfl,below_drewN (tM _ _) _⟩
  ·rw[eh]at HQ HS
   have HQ2:=Aa (show q=qf from HQ.o);clear h ct;go_enter func42,ntmps42;go_wp2_with fail;go_region_held3 (fun V=>vE w V/\(∀j,V.cell? ⟨k,j,none⟩=(#[.string x.name,.string x.scalar,.bool x.strict,.bool true,.int .i64 x.dflt.1,.int .i64 x.dflt.2.1,.string x.dflt.2.2]:Array Value)[j]?))
    (first|exact HS.o _ (tM _ _).drew|exact HS.o _ (bT bh b2)|exact HS.o _ bh)
    (first|(go_at_call 75;obtain⟨bh, -⟩:= ‹vE w _/\_›;refine(HI.o _).mono ?_;rintro _ w2 ⟨rfl,rfl⟩)|(go_at_call 44;obtain⟨bh, -⟩:= ‹vE w _/\_›;refine(HF.o _).mono ?_;rintro _ w2 ⟨rfl,b2⟩))
   all_goals(obtain⟨bh, -⟩:= ‹vE w _/\_›;(try go_wp2_with fail);go_ret;rw[HQ2.o];exact⟨rfl,bh⟩)
def Ga(l:AL)(x:DS):PV:=(BF l x.name).getD x.dflt
theorem sV(h:w.heap[k]?=some (.cells #[.string x.name,.string x.scalar,.bool x.strict,.bool x.has,.int .i64 x.dflt.1,.int .i64 x.dflt.2.1,.string x.dflt.2.2] 118 (0,0))){M n:Nat}{D:DataW Unit}{l:AL}(hm:BQ w M n D)(hv:VM D l)(hx:x.name.size<=4000):Calls prog 43 #[.pointer (some ⟨k,0,none⟩),.map (some M)] w fun e w'=>e=.returned (.agg #[.int .i64 (Ga l x).1,.int .i64 (Ga l x).2.1,.string (Ga l x).2.2])/\vE w w':=by
 have ct:=Ac h;have lk:=Ab h;have hkey:=Ho x.name hx;have hhas:=hv.has x.name;have HG:=Aa (fun(u:Value) (ps:List MemPlace) (hu:Ff u=some (D.atKey (kl x.name) (EE (0,0,⟨#[]⟩)),ps))=>hv.get hu);have HQ:=Aa (Ga.eq_1 l x);have HGV:=Aa (Iz.eq_1 l x.name);generalize Ga l x=q at*;generalize Iz l x.name=gv at*;have hO1:BQ (w.alloc (.cells #[.int .i64 0,.int .i64 0,.string ⟨#[]⟩] 116)) M n D:=hm.below (bA (tM _ _) _);clear h hm hv;cases el:BF l x.name with
 |none=>
  rw[el]at hhas HQ HGV;have HQ2:=Aa (show q=x.dflt from HQ.o);go_enter func43,ntmps43;go_wp2_with (at_lookup;refine wpList_lookup_own_ok _ rfl _ _ 66 rfl 9 116 Ca underlying66 Ff (Km _) (EE (0,0,⟨#[]⟩)) [] (Jc _) M n D rfl hO1 _ _ rfl hkey ?_;intro uv ps huv;rw[hhas];have euv:=HG.o uv ps huv;unfold GP at euv;subst euv);rw[HQ2.o];refine bodyPost_ret (v:=.agg #[.int .i64 x.dflt.1,.int .i64 x.dflt.2.1,.string x.dflt.2.2]) (by simp[results,results43,go_sem, *]) rfl ⟨rfl,?_⟩;repeat' with_reducible first|exact tM _ _|refine bA ?_ _|refine bS ?_ _ (tL _) _
 |some v=>
  rw[el]at hhas HQ HGV;have HQ2:=Aa (show q=v from HQ.o);have HG2:=Aa (show gv=v from HGV.o);have e:=HG2.o;subst e;go_enter func43,ntmps43;go_wp2_with (at_lookup;refine wpList_lookup_own_ok _ rfl _ _ 66 rfl 9 116 Ca underlying66 Ff (Km _) (EE (0,0,⟨#[]⟩)) [] (Jc _) M n D rfl hO1 _ _ rfl hkey ?_;intro uv ps huv;rw[hhas];have euv:=HG.o uv ps huv;unfold GP at euv;subst euv);rw[HQ2.o];refine bodyPost_ret (v:=.agg #[.int .i64 gv.1,.int .i64 gv.2.1,.string gv.2.2]) (by simp[results,results43,go_sem, *]) rfl ⟨rfl,?_⟩;repeat' with_reducible first|exact tM _ _|refine bA ?_ _|refine bS ?_ _ (tL _) _
end
def CV(l:AL)(v:PV):PV:=if v.1=9 then(BF l v.2.2).getD v else v
structure Jn(cur cur':Array Value)(o:Nat)(v:PV):Prop where
 size:cur'.size=cur.size
 k:cur'[o]?=some (.int .i64 v.1)
 n:cur'[o+1]?=some (.int .i64 v.2.1)
 t:cur'[o+2]?=some (.string v.2.2)
 oth:∀i,i≠o->i≠o+1->i≠o+2->cur'[i]?=cur[i]?
theorem Jn.same{cur:Array Value}{o:Nat}{v:PV}(hk:cur[o]?=some (.int .i64 v.1))(hn:cur[o+1]?=some (.int .i64 v.2.1))(ht:cur[o+2]?=some (.string v.2.2)):Jn cur cur o v:=⟨rfl,hk,hn,ht,fun _ _ _ _=>rfl⟩
theorem QK{cur:Array Value}{i:Nat}{v:Value}(h:cur[i]?=some v):i<cur.size:=by
 rcases Nat.lt_or_ge i cur.size with a|a
 ·exact a
 ·rw[Array.getElem?_eq_none a]at h;cases h
theorem Jn.set{cur:Array Value}{o:Nat}{v:PV}{a b c:Value}(hk:cur[o]?=some a)(hn:cur[o+1]?=some b)(ht:cur[o+2]?=some c):Jn cur (((cur.setIfInBounds o (.int .i64 v.1)).setIfInBounds (o+1) (.int .i64 v.2.1)).setIfInBounds (o+2) (.string v.2.2)) o v:=by
 have h1:=QK hk;have h2:=QK hn;have h3:=QK ht;refine⟨by simp,?_,?_,?_,fun i e1 e2 e3=>?_⟩
 ·rw[Array.getElem?_setIfInBounds,uB (by omega),Array.getElem?_setIfInBounds,uB (by omega),Array.getElem?_setIfInBounds];simp[h1]
 ·rw[Array.getElem?_setIfInBounds,uB (by omega),Array.getElem?_setIfInBounds];simp[h2]
 ·rw[Array.getElem?_setIfInBounds];simp[h3]
 ·rw[Array.getElem?_setIfInBounds,uB (by omega),Array.getElem?_setIfInBounds,uB (by omega),Array.getElem?_setIfInBounds,uB (by omega)]
section
variable {w:World} {M n g o:Nat} {D:DataW Unit} {l:AL} {v:PV} {cur:Array Value} {T:TypeId}
theorem qE(hg:w.heap[g]?=some (.cells cur T (0,0)))(hk:cur[o]?=some (.int .i64 v.1))(hn:cur[o+1]?=some (.int .i64 v.2.1))(ht:cur[o+2]?=some (.string v.2.2))(hm:BQ w M n D)(hv:VM D l)(hs:v.1=9->v.2.2.size<=4000):
 Calls prog 77 #[.map (some M),.pointer (some ⟨g,o,none⟩)] w fun e w'=>e=.returned (.tuple #[])/\Ag g w w'/\∃cur',w'.heap[g]?=some (.cells cur' T (0,0))/\Jn cur cur' o (CV l v):=by
 have HG:=Aa hg;have H3:=Aa (uV hk (uV hn ht));have x0:w.cell? ⟨g,o,none⟩=some (.int .i64 v.1):=(Ac hg o).trans hk;have x1:w.cell? ⟨g,o+1,none⟩=some (.int .i64 v.2.1):=(Ac hg _).trans hn;have x2:w.cell? ⟨g,o+2,none⟩=some (.string v.2.2):=(Ac hg _).trans ht;have fg:=Am hg;have lg:=Ab hg;have hhas:=hv.has v.2.2;have HGT:=Aa (fun(u:Value) (ps:List MemPlace) (hu:Ff u=some (D.atKey (kl v.2.2) (EE (0,0,⟨#[]⟩)),ps))=>hv.get hu);have HQ:=Aa (CV.eq_1 l v);have HGV:=Aa (Iz.eq_1 l v.2.2);generalize Iz l v.2.2=gv at*;generalize CV l v=q at*;have hO:=hm;clear hg hk hn ht hm hv;by_cases h9:v.1=9
 ·rw[uC h9]at HQ
  have hkey:=Ho v.2.2 (hs h9);have T9:((v.1:Int)!=9)=false:=by simp;omega
  cases el:BF l v.2.2 with
  |none=>
   rw[el]at hhas HQ HGV;have HQ2:=Aa (show q=v from HQ.o);go_enter func77,ntmps77;go_wp2_with (at_lookup;refine wpList_lookup_own_ok _ rfl _ _ 66 rfl 9 116 Ca underlying66 Ff (Km _) (EE (0,0,⟨#[]⟩)) [] (Jc _) M n D rfl hO _ _ rfl hkey ?_;intro uv ps huv;rw[hhas];have euv:=HGT.o uv ps huv;unfold GP at euv;subst euv);go_end0;rw[HQ2.o];exact⟨rfl,(Ag.refl g w).alloc _,cur,(AK _ _ _ lg).trans HG.o,Jn.same H3.o.1 H3.o.2.1 H3.o.2.2⟩
  |some u=>
   rw[el]at hhas HQ HGV;have HQ2:=Aa (show q=u from HQ.o);have e:gv=u:=HGV.o;subst e;go_enter func77,ntmps77;go_wp2_with (at_lookup;refine wpList_lookup_own_ok _ rfl _ _ 66 rfl 9 116 Ca underlying66 Ff (Km _) (EE (0,0,⟨#[]⟩)) [] (Jc _) M n D rfl hO _ _ rfl hkey ?_;intro uv ps huv;rw[hhas];have euv:=HGT.o uv ps huv;unfold GP at euv;subst euv);go_end0;rw[HQ2.o];have hb:=AI (AI (AI HG.o o (.int .i64 gv.1)) (o+1) (.int .i64 gv.2.1)) (o+2) (.string gv.2.2);exact⟨rfl,((((Ag.refl g w).setCell _ _).setCell _ _).setCell _ _).alloc _,_,(AK _ _ _ (Ab hb)).trans hb,Jn.set H3.o.1 H3.o.2.1 H3.o.2.2⟩
 ·rw[uB h9]at HQ
  have T9:((v.1:Int)!=9)=true:=by simp;omega
  go_enter func77,ntmps77;go_wp2_with fail;rw[HQ.o];exact bodyPost_ret (v:=.tuple #[]) (by simp[results,results77,go_sem]) rfl ⟨rfl,Ag.refl g w,cur,HG.o,Jn.same H3.o.1 H3.o.2.1 H3.o.2.2⟩
end
def Ib(cur:Array Value)(j:Nat)(v:PV):Prop:=cur[j*4+1]?=some (.int .i64 v.1)/\cur[j*4+2]?=some (.int .i64 v.2.1)/\cur[j*4+3]?=some (.string v.2.2)
structure Gc(l:AL)(cur cur':Array Value):Prop where
 size:cur'.size=cur.size
 hd:∀j,cur'[j*4]?=cur[j*4]?
 tri:∀j,(cur'[j*4+1]?=cur[j*4+1]?/\cur'[j*4+2]?=cur[j*4+2]?/\cur'[j*4+3]?=cur[j*4+3]?)\/∃t v,cur[j*4+1]?=some (.int .i64 9)/\cur[j*4+3]?=some (.string t)/\BF l t=some v/\Ib cur' j v
def N9(l:AL):Prop:=∀t v,BF l t=some v->v.1≠9
abbrev kB:List TypeId:=[184,186]
structure Bd(l:AL)(B0:Nat)(w X:World):Prop where
 os:X.os=w.os
 tape:X.tape=w.tape
 output:X.output=w.output
 size:w.heap.size<=X.heap.size
 low:∀k,k<B0->X.heap[k]?=w.heap[k]?
 oth:∀(k:Nat) (o:Obj),w.heap[k]?=some o->(∀(cs:Array Value) (t:TypeId) (fr:Nat×Nat),o=.cells cs t fr->t∉kB)->X.heap[k]?=some o
 arr:∀(k:Nat) (cur:Array Value) (t:TypeId) (fr:Nat×Nat),w.heap[k]?=some (.cells cur t fr)->t∈kB->∃cur',X.heap[k]?=some (.cells cur' t fr)/\Gc l cur cur'
section
variable {l:AL} {B0:Nat} {w X Y:World}
theorem Gc.refl(cur:Array Value):Gc l cur cur:=⟨rfl,fun _=>rfl,fun _=>.inl ⟨rfl,rfl,rfl⟩⟩
theorem Gc.trans{a b c:Array Value}(h9:N9 l)(h:Gc l a b)(k:Gc l b c):Gc l a c:=by
 refine⟨k.size.trans h.size,fun j=>(k.hd j).trans (h.hd j),fun j=>?_⟩;rcases k.tri j with⟨e1,e2,e3⟩|⟨t,v,e1,e2,e3,e4⟩
 ·rcases h.tri j with⟨f1,f2,f3⟩|⟨t,v,f1,f2,f3,f4⟩
  ·exact .inl ⟨e1.trans f1,e2.trans f2,e3.trans f3⟩
  ·exact .inr ⟨t,v,f1,f2,f3,e1.trans f4.1,e2.trans f4.2.1,e3.trans f4.2.2⟩
 ·rcases h.tri j with⟨f1,f2,f3⟩|⟨t',v',f1,f2,f3,f4⟩
  ·exact .inr ⟨t,v,f1.symm.trans e1,f3.symm.trans e2,e3,e4⟩
  ·have:=f4.1.symm.trans e1
   simp only[Option.some.injEq,Value.int.injEq,true_and]at this;exact absurd (show v'.1=9 by omega) (h9 t' v' f3)
theorem Bd.refl:Bd l B0 w w:=⟨rfl,rfl,rfl,tL _,fun _ _=>rfl,fun _ _ h _=>h,fun _ cur _ _ h _=>⟨cur,h,Gc.refl _⟩⟩
theorem Bd.trans(h9:N9 l)(h:Bd l B0 w X)(k:Bd l B0 X Y):Bd l B0 w Y:=
 ⟨k.os.trans h.os,k.tape.trans h.tape,k.output.trans h.output,tQ h.size k.size,fun i hi=>(k.low i hi).trans (h.low i hi),fun i o hi ho=>k.oth i o (h.oth i o hi ho) ho,fun i cur t fr hi ht=>by
  obtain⟨c1,h1,h2⟩:=h.arr i cur t fr hi ht;obtain⟨c2,h3,h4⟩:=k.arr i c1 t fr h1 ht;exact⟨c2,h3,h2.trans h9 h4⟩⟩
theorem Bd.of_below(h:vE w X)(hb:B0<=w.heap.size):Bd l B0 w X:=
 ⟨h.os,h.tape,h.output,h.size,fun k hk=>h.block k (by omega),fun k o hk _=>(h.block k (Ab hk)).trans hk,fun k cur t fr hk _=>⟨cur,(h.block k (Ab hk)).trans hk,Gc.refl _⟩⟩
theorem Bd.rep{g j:Nat}{cur cur':Array Value}{T:TypeId}{v:PV}(hg:X.heap[g]?=some (.cells cur T (0,0)))(hT:T∈kB)(hk:Ag g X Y)(hg':Y.heap[g]?=some (.cells cur' T (0,0)))(h3:Jn cur cur' (j*4+1) (CV l v))(hv:Ib cur j v)(hB:B0<=g):Bd l B0 X Y:=by
 have hlg:=Ab hg;refine⟨hk.os,hk.tape,hk.output,hk.size,fun k h=>hk.block k (by omega) (by omega),fun k o h ho=>(hk.block k (Ab h) (fun e=>by subst e;rw[hg]at h;exact ho _ _ _ (tY h).symm hT)).trans h,fun k c t fr h ht=>?_⟩;by_cases e:k=g
 ·subst e
  rw[hg]at h;cases h;refine⟨cur',hg',h3.size,fun i=>h3.oth _ (by omega) (by omega) (by omega),fun i=>?_⟩;by_cases ei:i=j
  ·subst ei
   have hb:CV l v=if v.1=9 then(BF l v.2.2).getD v else v:=rfl;by_cases h9:v.1=9
   ·rw[uC h9]at hb
    cases el:BF l v.2.2 with
    |none=>
     rw[el]at hb;have hb':CV l v=v:=hb;rw[hb']at h3;exact .inl ⟨h3.k.trans hv.1.symm,h3.n.trans hv.2.1.symm,h3.t.trans hv.2.2.symm⟩
    |some u=>
     rw[el]at hb;have hb':CV l v=u:=hb;rw[hb']at h3;exact .inr ⟨v.2.2,u,by rw[hv.1];simp[h9],hv.2.2,el,h3.k,h3.n,h3.t⟩
   ·rw[uB h9]at hb
    rw[hb]at h3;exact .inl ⟨h3.k.trans hv.1.symm,h3.n.trans hv.2.1.symm,h3.t.trans hv.2.2.symm⟩
  ·exact .inl ⟨h3.oth _ (by omega) (by omega) (by omega),h3.oth _ (by omega) (by omega) (by omega),h3.oth _ (by omega) (by omega) (by omega)⟩
 ·exact⟨c,(hk.block k (Ab h) e).trans h,Gc.refl _⟩
theorem Bd.at{k:Nat}{cs:Array Value}{T:TypeId}{fr:Nat×Nat}(h:Bd l B0 w X)(hk:w.heap[k]?=some (.cells cs T fr))(hT:T∉kB):X.heap[k]?=some (.cells cs T fr):=h.oth k _ hk (fun _ _ _ e=>by cases e;exact hT)
theorem Bd.own{B n size:Nat}{e:TypeId}{v:Value}{xs:List Value}(h:Bd l B0 w X)(ho:w.ownsRow B e size v n xs)(he:e∉kB):X.ownsRow B e size v n xs:=Ir ho (fun _ _ _ hk=>h.at hk he)
theorem Gc.fin{cur cur':Array Value}{j:Nat}{b:PV}(h:Gc l cur cur')(hb:Ib cur j b)(h9:b.1=9->BF l b.2.2=none):Ib cur' j b:=by
 rcases h.tri j with⟨e1,e2,e3⟩|⟨t,v,e1,e2,e3,_⟩
 ·exact⟨e1.trans hb.1,e2.trans hb.2.1,e3.trans hb.2.2⟩
 ·have f1:=hb.1.symm.trans e1
  have f2:=hb.2.2.symm.trans e2;simp only[Option.some.injEq,Value.int.injEq,true_and]at f1;cases f2;rw[h9 (by omega)]at e3;cases e3
theorem To(h9:N9 l)(v:PV):(CV l v).1=9->BF l (CV l v).2.2=none:=by
 intro h;unfold CV at h⊢;by_cases e:v.1=9
 ·rw[uC e]at h⊢
  cases el:BF l v.2.2 with
  |none=>exact el
  |some u=>rw[el]at h;exact absurd h (h9 _ _ el)
 ·rw[uB e]at h;exact absurd h e
end
def MJ(l:AL)(a:Eh):Eh:=(a.1,CV l a.2)
def NX(l:AL)(a:GZ):GZ:=(a.1,CV l a.2)
def Ii(l:AL)(x:Aq):Aq:=⟨x.kind,x.key,x.name,x.args.map (MJ l),x.conds.map (NX l),x.part⟩
def Ds(l:AL)(Q:Qy):Qy:=⟨Q.ops,Q.frags,Q.parts.map (fun P=>⟨P.typ,P.sels.map (Ii l)⟩)⟩
def PE(X:World)(l:AL)(v:Value)(vals:List PV):Prop:=∀j u g cap,vals[j]?=some u->v=.slice (some ⟨g,0,none⟩) vals.length cap->∃cur T,X.heap[g]?=some (.cells cur T (0,0))/\Ib cur j (CV l u)
theorem Zh{l:AL}{B0 B:Nat}{W X:World}{v:Value}{xs:List Eh}(h:W.ownsRow B 184 4 v xs.length (xs.flatMap aL))(hl:Bd l B0 W X)(hd:PE X l v (xs.map Prod.snd)):X.ownsRow B 184 4 v (xs.map (MJ l)).length ((xs.map (MJ l)).flatMap aL):=by
 rcases h.2 with⟨e,e0⟩|⟨g,cap,cur,hv,hg,hh,hn,hcap,hs,ht⟩
 ·have:xs=[]:=tZ e0
  subst this;rw[e];exact uA _ _ _ _
 ·obtain⟨cur',g1,g2⟩:=hl.arr g cur _ _ hh (by decide)
  rw[hv,show xs.length=(xs.map (MJ l)).length by simp];refine RD (fun _=>rfl) (by decide) hg g1 (by simpa using hn) hcap (g2.size.trans hs) (fun j x c u hx hu=>?_);rw[uD]at hx;obtain⟨y,hy,rfl⟩:=uY.1 hx;obtain⟨g',cap',hv',hc⟩:=Cn h (fun _=>rfl) j y hy;rw[hv]at hv';cases hv';obtain⟨cur2,T2,q1,q2⟩:=hd j y.2 g cap (by rw[uD,hy];rfl) (by rw[hv,uP]);rw[g1]at q1;cases q1
  match c,hu with
  |0,hu=>cases hu;rw[Nat.add_zero,g2.hd];show cur[j*4]?=some (.string y.1);have:=hc 0 _ rfl;rw[Ac hh]at this;simpa using this
  |1,hu=>cases hu;exact q2.1
  |2,hu=>cases hu;exact q2.2.1
  |3,hu=>cases hu;exact q2.2.2
  |c+4,hu=>simp[aL]at hu
theorem aE{l:AL}{B0 B:Nat}{W X:World}{v:Value}{xs:List GZ}(h:W.ownsRow B 186 4 v xs.length (xs.flatMap cL))(hl:Bd l B0 W X)(hd:PE X l v (xs.map Prod.snd)):X.ownsRow B 186 4 v (xs.map (NX l)).length ((xs.map (NX l)).flatMap cL):=by
 rcases h.2 with⟨e,e0⟩|⟨g,cap,cur,hv,hg,hh,hn,hcap,hs,ht⟩
 ·have:xs=[]:=tZ e0
  subst this;rw[e];exact uA _ _ _ _
 ·obtain⟨cur',g1,g2⟩:=hl.arr g cur _ _ hh (by decide)
  rw[hv,show xs.length=(xs.map (NX l)).length by simp];refine RD (fun _=>rfl) (by decide) hg g1 (by simpa using hn) hcap (g2.size.trans hs) (fun j x c u hx hu=>?_);rw[uD]at hx;obtain⟨y,hy,rfl⟩:=uY.1 hx;obtain⟨g',cap',hv',hc⟩:=Cn h (fun _=>rfl) j y hy;rw[hv]at hv';cases hv';obtain⟨cur2,T2,q1,q2⟩:=hd j y.2 g cap (by rw[uD,hy];rfl) (by rw[hv,uP]);rw[g1]at q1;cases q1
  match c,hu with
  |0,hu=>cases hu;rw[Nat.add_zero,g2.hd];show cur[j*4]?=some (.int .i64 y.1);have:=hc 0 _ rfl;rw[Ac hh]at this;simpa using this
  |1,hu=>cases hu;exact q2.1
  |2,hu=>cases hu;exact q2.2.1
  |3,hu=>cases hu;exact q2.2.2
  |c+4,hu=>simp[cL]at hu
theorem Zw{l:AL}(h9:N9 l)(v:PV):CV l (CV l v)=CV l v:=by
 have h:=To h9 v;generalize CV l v=b at*;unfold CV;by_cases e:b.1=9
 ·rw[uC e,h e];rfl
 ·rw[uB e]
theorem Gc.cur{l:AL}{cur cur':Array Value}{j:Nat}{v:PV}(h:Gc l cur cur')(hv:Ib cur j v):∃u,Ib cur' j u/\(u=v\/u=CV l v):=by
 rcases h.tri j with⟨e1,e2,e3⟩|⟨t,u,e1,e2,e3,e4⟩
 ·exact⟨v,⟨e1.trans hv.1,e2.trans hv.2.1,e3.trans hv.2.2⟩,.inl rfl⟩
 ·refine⟨u,e4,.inr ?_⟩
  have f1:=hv.1.symm.trans e1;have f2:=hv.2.2.symm.trans e2;simp only[Option.some.injEq,Value.int.injEq,true_and]at f1;cases f2;unfold CV;rw[uC (by omega),e3];rfl
def JE(X:World)(l:AL)(g:Nat)(T:TypeId)(vals:List PV)(m:Nat):Prop:=∃cur,X.heap[g]?=some (.cells cur T (0,0))/\∀j u,j<m->vals[j]?=some u->Ib cur j (CV l u)
theorem JE.bd{X Y:World}{l:AL}{g m B0:Nat}{T:TypeId}{vals:List PV}(h:JE X l g T vals m)(hT:T∈kB)(h9:N9 l)(hl:Bd l B0 X Y):JE Y l g T vals m:=by
 obtain⟨cur,h1,h2⟩:=h;obtain⟨cur',g1,g2⟩:=hl.arr g cur T _ h1 hT;exact⟨cur',g1,fun j u hj hu=>g2.fin (h2 j u hj hu) (To h9 u)⟩
theorem Tq{W X:World}{l:AL}{B0 g M n j:Nat}{T:TypeId}{D:DataW Unit}{vals:List PV}{u:PV}{yM:Array Value}(hT:T∈kB)(h9:N9 l)(hW:W.heap[g]?=some (.cells yM T (0,0)))(hB:B0<=g)(hl:Bd l B0 W X)(hu:vals[j]?=some u)(ht:Ib yM j u)(hs:u.1=9->u.2.2.size<=4000)(hm:BQ X M n D)(hv:VM D l)(hd:JE X l g T vals j):
 Calls prog 77 #[.map (some M),.pointer (some ⟨g,j*4+1,none⟩)] X fun e Y=>e=.returned (.tuple #[])/\Bd l B0 X Y/\JE Y l g T vals (j+1):=by
 obtain⟨cur,g1,g2⟩:=hl.arr g yM T _ hW hT;obtain⟨u',t',hu'⟩:=g2.cur ht;have hbu:CV l u'=CV l u:=by
  rcases hu' with e|e
  ·rw[e]
  ·rw[e,Zw h9]
 have hs':u'.1=9->u'.2.2.size<=4000:=by
  rcases hu' with e|e
  ·rw[e];exact hs
  ·intro h
   rw[e]at h⊢;unfold CV at h⊢;by_cases e9:u.1=9
   ·rw[uC e9]at h⊢
    cases el:BF l u.2.2 with
    |none=>rw[el]at h;exact hs e9
    |some z=>rw[el]at h;exact absurd h (h9 _ _ el)
   ·rw[uB e9]at h;exact absurd h e9
 refine(qE g1 t'.1 t'.2.1 t'.2.2 hm hv hs').mono ?_;rintro _ Y ⟨rfl,hk,cur',hg',h3⟩;have hbd:=Bd.rep (l:=l) (B0:=B0) g1 hT hk hg' h3 t' hB;refine⟨rfl,hbd,cur',hg',fun j' z hj' hz=>?_⟩;by_cases e:j'=j
 ·subst e
  rw[hu]at hz;cases hz;rw[hbu]at h3;exact⟨h3.k,h3.n,h3.t⟩
 ·obtain⟨c0,q1,q2⟩:=hd
  rw[g1]at q1;cases q1;have q:=q2 j' z (by omega) hz;exact⟨(h3.oth _ (by omega) (by omega) (by omega)).trans q.1,(h3.oth _ (by omega) (by omega) (by omega)).trans q.2.1,(h3.oth _ (by omega) (by omega) (by omega)).trans q.2.2⟩
def Je(X:World)(l:AL)(v:Value)(T:TypeId)(vals:List PV):Prop:=∀g cap,v=.slice (some ⟨g,0,none⟩) vals.length cap->JE X l g T vals vals.length
theorem Je.bd{X Y:World}{l:AL}{B0:Nat}{v:Value}{T:TypeId}{vals:List PV}(h:Je X l v T vals)(hT:T∈kB)(h9:N9 l)(hl:Bd l B0 X Y):Je Y l v T vals:=fun g cap e=>(h g cap e).bd hT h9 hl
theorem Wm{w:World}{B e size n cap:Nat}{a:Option Addr}{xs:List Value}(h:w.ownsRow B e size (.slice a n cap) n xs):a=none\/∃g cur,a=some ⟨g,0,none⟩/\B<=g/\w.heap[g]?=some (.cells cur e (0,0)):=by
 rcases h.2 with⟨q,_⟩|⟨g,c,cur,hv,hg,hh,_⟩
 ·left;exact(Value.slice.inj q).1
 ·right;exact⟨g,cur,(Value.slice.inj hv).1,hg,hh⟩
structure Mp(W:World)(B0 k i:Nat)(typ:vD)(pp:List Nat)(a:Option Addr)(cap:Nat)(L:List SX):Prop where
 b:W.heap[k]?=some (.cells #[.string typ,.int .i64 i,.slice a L.length cap] 171 (0,0))
 o:W.ownsRow B0 177 6 (.slice a L.length cap) L.length (L.flatMap (sL pp))
 s:∀x∈L,Dr W B0 pp.length x
 l:L.length<=1000
 za:∀x∈L,∀y∈x.1.args,y.2.1=9->y.2.2.2.size<=4000
 zc:∀x∈L,∀y∈x.1.conds,y.2.1=9->y.2.2.2.size<=4000
section
variable {W X:World} {B0 k i cap M n:Nat} {typ:vD} {pp:List Nat} {a:Option Addr} {L:List SX} {l:AL} {D:DataW Unit}
def IE(Y:World)(l:AL)(L:List SX)(m:Nat):Prop:=∀t x,t<m->L[t]?=some x->Je Y l x.2.1 184 (x.1.args.map Prod.snd)/\Je Y l x.2.2 186 (x.1.conds.map Prod.snd)
theorem IE.bd{Y Z:World}{m:Nat}(h:IE Y l L m)(h9:N9 l)(hl:Bd l B0 Y Z):IE Z l L m:=fun t x ht hx=>⟨(h t x ht hx).1.bd (by decide) h9 hl,(h t x ht hx).2.bd (by decide) h9 hl⟩
theorem BQ.bd{Y Z:World}(h:BQ Y M n D)(hl:Bd l B0 Y Z):BQ Z M n D:=by
 obtain⟨es,clock,m1,m2,m3,m4⟩:=h;exact⟨es,clock,hl.oth _ _ m1 (fun _ _ _ e=>by cases e),m2,m3,m4⟩
theorem Zx(hp:Mp W B0 k i typ pp a cap L)(hl:Bd l B0 W X)(h9:N9 l)(hm:BQ X M n D)(hv:VM D l)(hBX:B0<=X.heap.size):
 Calls prog 45 #[.pointer (some ⟨k,0,none⟩),.map (some M)] X fun e Y=>e=.returned (.tuple #[])/\Bd l B0 X Y/\IE Y l L L.length:=by
 have HP:=Aa hp;have HL:=Aa hl;have H9:=Aa h9;have HM:=Aa hm;have HV:=Aa hv;have hkb:=hl.at hp.b (by decide);have ck:=Ac hkb;have lk:=Ab hkb;have hL1:=hp.l;clear hp hl h9 hm hv hkb;go_enter func45,ntmps45;go_wp2_with fail;go_loopg [5,6,7,13,20,34] L.length (fun m v5 v6 v7 v13 v20 v34 wr=>∃(t:Nat),v13=.int .i64 t/\t<=L.length/\L.length-t<=m/\Bd l B0 X wr/\IE wr l L t)
 case atStart=>exact⟨0,rfl,tU _,tL _,Bd.refl,fun t x ht=>absurd ht (Nat.not_lt_zero _)⟩
 case round=>
  obtain⟨t,rfl,htl,htm,hb,hd⟩:=hrel;obtain⟨wo,rfl⟩:∃wo:World,wo=wr:=⟨_,rfl⟩;have HB:=Aa hb;have HD:=Aa hd;by_cases hlt:t<L.length
  ·have hx:=tN hlt
   have hmem:L[t]∈L:=List.getElem_mem hlt;generalize L[t]=y at hx hmem;obtain⟨⟨kd,ky,nme,args,conds,pt⟩,va,vc⟩:=y;have hW:=HL.o.trans H9.o hb;obtain⟨g,cap',hv',hc⟩:=Cn (hW.own HP.o.o (by decide)) (fun _=>rfl) t _ hx;have ea:=(Value.slice.inj hv').1;subst ea;have hok:=HP.o.s _ hmem;obtain⟨aA,cA,e1⟩:=An hok.a;obtain⟨aC,cC,e2⟩:=An hok.c;simp only[]at e1 e2;subst e1 e2;obtain⟨fp,hfp⟩:∃f,AM pp pt=.pointer f:=by
    cases pt with
    |none=>exact⟨_,rfl⟩
    |some i=>exact⟨_,rfl⟩
   have x0:wo.cell? ⟨g,t*6,none⟩=some (.int .i64 kd):=by simpa using hc 0 _ rfl
   have x1:wo.cell? ⟨g,t*6+1,none⟩=some (.string ky):=hc 1 _ rfl;have x2:wo.cell? ⟨g,t*6+2,none⟩=some (.string nme):=hc 2 _ rfl;have x3:wo.cell? ⟨g,t*6+3,none⟩=some (.slice aA args.length cA):=hc 3 _ rfl;have x4:wo.cell? ⟨g,t*6+4,none⟩=some (.slice aC conds.length cC):=hc 4 _ rfl;have x5:wo.cell? ⟨g,t*6+5,none⟩=some (.pointer fp):=by rw[hc 5 _ rfl];show some (AM pp pt)=_;rw[hfp]
   have hlg:g<wo.heap.size:=tR wo _ x0;have hal:=hok.al;have hcl:=hok.cl;simp only[]at hal hcl;have HA:=Aa hok.a;have HC:=Aa hok.c;have HZA:=Aa (HP.o.za _ hmem);have HZC:=Aa (HP.o.zc _ hmem);have HW:=Aa hW;have HX:=Aa hx;have hBo:B0<=wo.heap.size:=tQ hBX hb.size;clear hc hv' hok hmem hx hW hb hd;go_wp2_with fail;have hN:(wo.alloc (.cells #[.int .i64 kd,.string ky,.string nme,.slice aA args.length cA,.slice aC conds.length cC,.pointer fp] 177)).heap[wo.heap.size]?=some (.cells #[.int .i64 kd,.string ky,.string nme,.slice aA args.length cA,.slice aC conds.length cC,.pointer fp] 177 (0,0)):=tS wo _;have hB1:Bd l B0 wo (wo.alloc (.cells #[.int .i64 kd,.string ky,.string nme,.slice aA args.length cA,.slice aC conds.length cC,.pointer fp] 177)):=Bd.of_below ((tM _ _).alloc (tL _) _) hBo;generalize wo.alloc (.cells #[.int .i64 kd,.string ky,.string nme,.slice aA args.length cA,.slice aC conds.length cC,.pointer fp] 177)=W1 at*;generalize hNo:wo.heap.size=No at*;clear hNo;go_loopg [6,20] args.length (fun m v6 v20 wr=>∃(j:Nat),v20=.int .i64 j/\j<=args.length/\args.length-j<=m/\Bd l B0 wo wr/\wr.heap[No]?=some (.cells #[.int .i64 kd,.string ky,.string nme,.slice aA args.length cA,.slice aC conds.length cC,.pointer fp] 177 (0,0))/\∀g',aA=some ⟨g',0,none⟩->JE wr l g' 184 (args.map Prod.snd) j)
   case atStart=>
    refine⟨0,rfl,tU _,tL _,hB1,hN,fun g' eg=>by
    rcases Wm HA.o with e|⟨g2,cur2,e,hg2,hh2⟩
    ·rw[e]at eg;cases eg
    ·rw[e]at eg
     cases eg;obtain⟨c3,q1,_⟩:=(HW.o.trans H9.o hB1).arr _ _ _ _ hh2 (by decide);exact⟨c3,q1,fun j u hj=>absurd hj (Nat.not_lt_zero _)⟩⟩
   case round=>
    obtain⟨j,rfl,hjl,hjm,hb1,hn1,ha1⟩:=hrel;obtain⟨w1,rfl⟩:∃w1:World,w1=wr:=⟨_,rfl⟩;have HB1:=Aa hb1;have HN1:=Aa hn1;have HD1:=Aa ha1;have cN:=Ac hn1;have lN:=Ab hn1;by_cases hjlt:j<args.length
    ·have hu:=tN hjlt
     have hum:args[j]∈args:=List.getElem_mem hjlt;generalize args[j]=u at hu hum;obtain⟨gA,capA,hvA,hcA⟩:=Cn HA.o (fun _=>rfl) j u hu;have eA:=(Value.slice.inj hvA).1;subst eA;obtain⟨yM,hcW⟩:=Fx HA.o gA rfl;have hB:=(HA.o.lt gA rfl).1;have tri:Ib yM j u.2:=⟨by rw[<-Ac hcW];exact hcA 1 _ rfl,by rw[<-Ac hcW];exact hcA 2 _ rfl,by rw[<-Ac hcW];exact hcA 3 _ rfl⟩;have hbw:=HW.o.trans H9.o hb1;have HS:=Aa (Tq (by decide) H9.o hcW hB hbw (show(args.map Prod.snd)[j]?=some u.2 by rw[uD,hu];rfl) tri (HZA.o u hum) ((HM.o.bd HB.o).bd hb1) HV.o (ha1 gA rfl));clear hcA hvA hcW tri hbw hu hum hb1 hn1 ha1;go_wp2_with fail;refine HS.o.mono ?_;rintro _ w5 ⟨rfl,b5,d5⟩;have HX5:=Aa (uV (HB1.o.trans H9.o b5) (uV (b5.at HN1.o (by decide)) d5));clear b5 d5 HS;go_wp2_with fail;go_roundg (args.length-(j+1))
     case measure=>omega
     case rel=>exact⟨j+1,by go_num,by omega,tL _,HX5.o.1,HX5.o.2.1,fun g' e=>by cases e;exact HX5.o.2.2⟩
    ·have ej:j=args.length:=by omega
     subst ej;have HA1:=Aa (show Je w1 l (.slice aA args.length cA) 184 (args.map Prod.snd)from fun g' cap' e=>by
      have e1:=(Value.slice.inj e).1;have:=ha1 g' e1
      rwa [uP])
     clear hb1 hn1 ha1 HD1;go_wp2_with fail;go_loopg [7,34] conds.length (fun m v7 v34 wr=>∃(j:Nat),v34=.int .i64 j/\j<=conds.length/\conds.length-j<=m/\Bd l B0 w1 wr/\wr.heap[No]?=some (.cells #[.int .i64 kd,.string ky,.string nme,.slice aA args.length cA,.slice aC conds.length cC,.pointer fp] 177 (0,0))/\∀g',aC=some ⟨g',0,none⟩->JE wr l g' 186 (conds.map Prod.snd) j)
     case atStart=>
      refine⟨0,rfl,tU _,tL _,Bd.refl,HN1.o,fun g' eg=>by
      rcases Wm HC.o with e|⟨g2,cur2,e,hg2,hh2⟩
      ·rw[e]at eg;cases eg
      ·rw[e]at eg
       cases eg;obtain⟨c3,q1,_⟩:=(HW.o.trans H9.o HB1.o).arr _ _ _ _ hh2 (by decide);exact⟨c3,q1,fun j u hj=>absurd hj (Nat.not_lt_zero _)⟩⟩
     case round=>
      obtain⟨j,rfl,hjl,hjm,hb2,hn2,ha2⟩:=hrel;obtain⟨w2,rfl⟩:∃w2:World,w2=wr:=⟨_,rfl⟩;have HB2:=Aa hb2;have HN2:=Aa hn2;have cN2:=Ac hn2;have lN2:=Ab hn2;by_cases hjlt:j<conds.length
      ·have hu:=tN hjlt
       have hum:conds[j]∈conds:=List.getElem_mem hjlt;generalize conds[j]=u at hu hum;obtain⟨gC,capC,hvC,hcC⟩:=Cn HC.o (fun _=>rfl) j u hu;have eC:=(Value.slice.inj hvC).1;subst eC;obtain⟨yM,hcW⟩:=Fx HC.o gC rfl;have hB:=(HC.o.lt gC rfl).1;have tri:Ib yM j u.2:=⟨by rw[<-Ac hcW];exact hcC 1 _ rfl,by rw[<-Ac hcW];exact hcC 2 _ rfl,by rw[<-Ac hcW];exact hcC 3 _ rfl⟩;have hbw:=(HW.o.trans H9.o HB1.o).trans H9.o hb2;have HS:=Aa (Tq (by decide) H9.o hcW hB hbw (show(conds.map Prod.snd)[j]?=some u.2 by rw[uD,hu];rfl) tri (HZC.o u hum) (((HM.o.bd HB.o).bd HB1.o).bd hb2) HV.o (ha2 gC rfl));clear hcC hvC hcW tri hbw hu hum hb2 hn2 ha2;go_wp2_with fail;refine HS.o.mono ?_;rintro _ w5 ⟨rfl,b5,d5⟩;have HX5:=Aa (uV (HB2.o.trans H9.o b5) (uV (b5.at HN2.o (by decide)) d5));clear b5 d5 HS;go_wp2_with fail;go_roundg (conds.length-(j+1))
       case measure=>omega
       case rel=>exact⟨j+1,by go_num,by omega,tL _,HX5.o.1,HX5.o.2.1,fun g' e=>by cases e;exact HX5.o.2.2⟩
      ·have ej:j=conds.length:=by omega
       subst ej;have HC1:=Aa (show Je w2 l (.slice aC conds.length cC) 186 (conds.map Prod.snd)from fun g' cap' e=>by
        have e1:=(Value.slice.inj e).1;have:=ha2 g' e1
        rwa [uP])
       have HFB:=Aa (show Bd l B0 wo w2 from HB1.o.trans H9.o hb2);have HFD:=Aa (show IE w2 l L (t+1)from fun t' x' ht' hx'=>by
        by_cases et:t'=t
        ·subst et
         rw[HX.o]at hx';cases hx';exact⟨HA1.o.bd (by decide) H9.o hb2,HC1.o⟩
        ·exact(HD.o.bd H9.o HFB.o) t' x' (by omega) hx')
       clear hb2 hn2 ha2;go_wp2_with fail;go_roundg (L.length-(t+1))
       case measure=>omega
       case rel=>exact⟨t+1,by go_num,by omega,tL _,HB.o.trans H9.o HFB.o,HFD.o⟩
  ·have ht:t=L.length:=by omega
   subst ht;clear hb hd;go_wp2_with fail;go_end0;exact⟨rfl,HB.o,HD.o⟩
end
theorem Je.b{X:World}{l:AL}{v:Value}{T:TypeId}{vals:List PV}(h:Je X l v T vals):PE X l v vals:=fun j u g cap hu hv=>by
 obtain⟨cur,h1,h2⟩:=h g cap hv;exact⟨cur,T,h1,h2 j u (tP.1 hu).1 hu⟩
theorem XB(l:AL)(pp:List Nat):∀L:List SX,(L.map (fun y=>((Ii l y.1,y.2.1,y.2.2):SX))).flatMap (sL pp)=L.flatMap (sL pp)
 |[]=>rfl
 |y::r=>by rw[List.map_cons,List.flatMap_cons,List.flatMap_cons,XB l pp r];rfl
theorem CH.bp{W:World}{B0 i:Nat}{pp:List Nat}{P:Ai}(h:CH W B0 pp i P)(ha:∀x∈P.sels,∀y∈x.args,y.2.1=9->y.2.2.2.size<=4000)(hc:∀x∈P.sels,∀y∈x.conds,y.2.1=9->y.2.2.2.size<=4000):∃k a cap L,pp[i]?=some k/\B0<=k/\Mp W B0 k i P.typ pp a cap L/\L.map Prod.fst=P.sels:=by
 obtain⟨k,vS,L,h1,h2,h3,h4,h5,h6,h7⟩:=h.ex;obtain⟨a,cap,rfl⟩:=An h5;exact⟨k,a,cap,L,h1,h3,⟨h2,h5,h7,h6,fun x hx=>ha x.1 (by rw[<-h4];exact List.mem_map.2 ⟨x,hx,rfl⟩),fun x hx=>hc x.1 (by rw[<-h4];exact List.mem_map.2 ⟨x,hx,rfl⟩)⟩,h4⟩
theorem Mp.bound{W Y:World}{B0 k i cap:Nat}{pp:List Nat}{P:Ai}{a:Option Addr}{L:List SX}{l:AL}(h:Mp W B0 k i P.typ pp a cap L)(hk:pp[i]?=some k)(hB:B0<=k)(hL:L.map Prod.fst=P.sels)(hl:Bd l B0 W Y)(hd:IE Y l L L.length):CH Y B0 pp i ⟨P.typ,P.sels.map (Ii l)⟩:=by
 refine⟨k,.slice a L.length cap,L.map (fun y=>(Ii l y.1,y.2.1,y.2.2)),hk,hl.at h.b (by decide),hB,?_,?_,by simpa using h.l,fun x hx=>?_⟩
 ·rw[List.map_map]
  show L.map (fun y=>Ii l y.1)=P.sels.map (Ii l);rw[<-hL,List.map_map];rfl
 ·rw[XB,uP]
  exact hl.own h.o (by decide)
 ·obtain⟨y,hy,rfl⟩:=List.mem_map.1 hx
  obtain⟨t,ht⟩:=List.getElem?_of_mem hy;have hdt:=hd t y (tP.1 ht).1 ht;have o:=h.s y hy;exact⟨Zh o.a hl hdt.1.b,aE o.c hl hdt.2.b,by simpa [Ii]using o.al,by simpa [Ii]using o.cl,o.p⟩
end Go.Proofs.YtadneapobijejaaGreatDoor
