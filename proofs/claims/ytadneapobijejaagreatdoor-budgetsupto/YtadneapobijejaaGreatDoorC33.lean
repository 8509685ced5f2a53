import Derived.Test.YtadneapobijejaaGreatDoorC28
import Derived.Test.YtadneapobijejaaGreatDoorC23
import Derived.Lib.ItoaNum
import Derived.Lib.AppendStr
import Derived.Deep.AppendLies
import Derived.BigQuiet
namespace Go.Proofs.YtadneapobijejaaGreatDoor
set_option maxHeartbeats 20000000
set_option maxRecDepth 100000
open Go.RowKit Tryz
abbrev QF:=Aq×List Nat
def LK(x:Aq):Bool:=x.conds.any (fun c=>decide (c.2.1=c.1))
def CU(x:Aq):List QF->List QF
 |[]=>[(x,x.part.toList)]
 |y::l=>if y.1.key=x.key then(y.1,y.2++x.part.toList)::l else y::CU x l
abbrev EO:=List QF×List Bool
abbrev Lj:=Nat->EO->EO
def Ct(parts:List Ai)(of:vD->Bool)(rec:Lj):List Aq->EO->EO
 |[],c=>c
 |x::l,c=>
  if LK x=true then Ct parts of rec l c
  else if x.kind=0 then Ct parts of rec l (CU x c.1,c.2)
  else match x.part with
   |none=>Ct parts of rec l c
   |some i=>if (decide ((Ax parts i).typ=bE)||of (Ax parts i).typ)=true then Ct parts of rec l (rec i c)else Ct parts of rec l c
def Cw(parts:List Ai)(of:vD->Bool):Nat->Lj
 |0,_,c=>c
 |f+1,i,c=>if c.2.getD i false=true then c else Ct parts of (Cw parts of f) (Ax parts i).sels (c.1,c.2.set i true)
def FK(parts:List Ai)(of:vD->Bool):List Nat->EO->EO
 |[],c=>c
 |i::l,c=>FK parts of l (Cw parts of (parts.length+1) i c)
def Dt(parts:List Ai)(of:vD->Bool)(ps:List Nat):List QF:=(FK parts of ps ([],List.replicate parts.length false)).1
structure Aj where
 left:Int
 data:List UInt8
 errs:List UInt8
 path:List UInt8
def Cj(l:List UInt8):List UInt8:=if l=[]then []else l++[44]
def Hy:List UInt8:=[110,117,108,108]
def Ie:List UInt8:=[123,34,109,101,115,115,97,103,101,34,58,34,110,111,116,32,97,118,97,105,108,97,98,108,101,34,44,34,112,97,116,104,34,58,91]
def JP:List UInt8:=[93,125]
def Aj.write(s:Aj)(t:List UInt8):Aj:=⟨s.left,s.data++t,s.errs,s.path⟩
def Aj.step(s:Aj):Aj:=⟨s.left-1,s.data,s.errs,s.path⟩
def Aj.fail(s:Aj):Aj:=⟨s.left,s.data,Cj s.errs++Ie++s.path++JP,s.path⟩
def Aj.enter(s:Aj)(t:List UInt8):Aj:=⟨s.left,s.data,s.errs,Cj s.path++t⟩
def Aj.leave(s:Aj)(n:Nat):Aj:=⟨s.left,s.data,s.errs,s.path.take n⟩
def Aj.cutNull(s:Aj)(n:Nat):Aj:=⟨s.left,s.data.take n++Hy,s.errs,s.path⟩
def BE(start how:Nat)(strict:Bool)(s:Aj):Bool×Aj:=
 if how=0 then(true,s)else(!strict,if how=1/\strict=true then(s.cutNull start).fail else s.cutNull start)
def EW(c:UInt8):List UInt8:=if c=34\/c=92 then [92,c]else if c=10 then [92,110]else if c=9 then [92,116]else [c]
def FC(t:List UInt8):List UInt8:=34::(t.flatMap EW++[34])
def AH(n:Int):List UInt8:=Lib.itoa n
def Yo:List UInt8:=[116,114,117,101]
def Su:List UInt8:=[102,97,108,115,101]
def Me(k:Nat)(n:Int)(t:vD):List UInt8:=if k=1 then AH n else if k=2 then FC t.data.toList else if k=3 then Yo else if k=4 then Su else []
def DN:Nat->List vD->List UInt8
 |_,[]=>[]
 |i,x::l=>(if 0<i then [44]else [])++FC x.data.toList++DN (i+1) l
def Hs(l:List vD):List UInt8:=91::(DN 0 l++[93])
abbrev MR:=Nat×List (vD×RV)
def RV.k:RV->Nat
 | .mk k _ _ _=>k
def Ru:RV:=.mk 0 0 ⟨#[]⟩ []
def Fm(r:MR)(n:vD):RV:=if Ae (r.2.map Prod.fst) n<0 then Ru else match r.2[(Ae (r.2.map Prod.fst) n).toNat]? with
 |some c=>c.2
 |none=>Ru
structure AJ where
 objs:List Ap
 ifs:List As
 uns:List Au
 names:List vD
 roles:List vD
 parts:List Ai
 row:vD->Option MR
def Gt:Ap:=⟨⟨#[]⟩,[],[],none,.all⟩
def AJ.obj(E:AJ)(k:Nat):Ap:=E.objs.getD k Gt
def QJ:Al:=⟨⟨#[]⟩,⟨#[]⟩,⟨#[]⟩,⟨#[]⟩,⟨#[]⟩,.one ⟨#[]⟩ false⟩
def NI:Bo->Bo
 | .one n st=>.one n st
 | .list t _=>t
def Sn:Bo->vD
 | .one n _=>n
 | .list _ _=>⟨#[]⟩
def CA:Bo->Bool
 | .one _ st=>st
 | .list _ st=>st
abbrev BW:=MR->List Nat->Aj->Nat×Aj
def Fb(obj:BW)(r:Option MR)(ps:List Nat)(s:Aj):Nat×Aj:=match r with
 |none=>(2,s.fail)
 |some r=>obj r ps s
mutual
def Bj(E:AJ)(obj:BW):RV->Bo->List Nat->Aj->Nat×Aj
 | .mk k n t l,ty,ps,s=>
   if k=0 then(1,s)else if k=8 then(2,s.fail)else if k=6 then Fb obj (E.row t) ps s
   else if k=7 then BO E obj l 0 (NI ty) ps 0 (s.write [91])
   else(0,s.write (Me k n t))
def BO(E:AJ)(obj:BW):List RV->Nat->Bo->List Nat->Nat->Aj->Nat×Aj
 |[],_,_,_,how,s=>(how,s.write [93])
 |c::l,i,ty,ps,how,s=>
  if s.step.left<0 then(2,s.step)else
   let s1:=if 0<i then s.step.write [44]else s.step
   let s2:=s1.enter (AH i)
   let v:=Bj E obj c ty ps s2
   let z:=BE s2.data.length v.1 (CA ty) v.2
   BO E obj l (i+1) ty ps (if z.1=true then how else 2) (z.2.leave s1.path.length)
end
def KI(v:PV)(c:RV):RV:=match c with
 | .mk k n t l=>.mk k n t (if v.1=0 then l else l.take (max 0 v.2.1).toNat)
def Kx(E:AJ)(id typ:vD):Option MR:=(E.row id).bind fun r=>if decide ((E.obj r.1).name=bQ)||!AU (E.obj r.1) E.uns typ then none else some r
def Dc(x:Aq):PV:=(x.args.head?.map Prod.snd).getD (0,0,⟨#[]⟩)
def Da(E:AJ)(obj:BW)(r:MR)(d:Al)(f:QF)(s:Aj):Nat×Aj:=
 if Dy E.roles d.auth=false then(2,s.fail)
 else if d.arg=CI then Fb obj (Kx E (Dc f.1).2.2 (Sn d.ty)) f.2 s
 else if f.1.args=[]then Bj E obj (Fm r d.name) d.ty f.2 s
 else Bj E obj (KI (Dc f.1) (Fm r d.name)) d.ty f.2 s
def KH(E:AJ)(typ:vD):List UInt8:=match DU E.objs E.ifs typ with
 |none=>Hy
 |some fs=>Hs ((fs.filter (fun f=>Dy E.roles f.hide_)).map Al.name)
def Cx(E:AJ)(obj:BW)(r:MR)(f:QF)(s:Aj):Bool×Aj:=
 if f.1.name=FH then(true,s.write (FC (E.obj r.1).name.data.toList))
 else if f.1.name=FI then(true,s.write (Hs E.names))
 else if f.1.name=Fk then(true,s.write (KH E (Dc f.1).2.2))
 else
  let d:=(En (E.obj r.1).fields f.1.name).getD QJ
  let v:=Da E obj r d f s
  BE s.data.length v.1 (CA d.ty) v.2
def AO(f:QF):List UInt8:=34::(f.1.key.data.toList++[34])
def BX(E:AJ)(obj:BW)(r:MR):List QF->Nat->Nat->Aj->Nat×Aj
 |[],_,how,s=>(how,s.write [125])
 |f::l,i,how,s=>
  if s.step.left<0 then(2,s.step)else
   let s1:=if 0<i then s.step.write [44]else s.step
   let s2:=(s1.enter (AO f)).write (AO f++[58])
   let z:=Cx E obj r f s2
   BX E obj r l (i+1) (if z.1=true then how else 2) (z.2.leave s1.path.length)
def AR(E:AJ):Nat->BW
 |0,_,_,s=>(2,s)
 |f+1,r,ps,s=>BX E (AR E f) r (Dt E.parts (AU (E.obj r.1) E.uns) ps) 0 0 (s.write [123])
open Go.Lib (strCells)
abbrev kM:List TypeId:=[5,86]
def GD(a b:Value):Prop:=a.ownBlock=none\/a.ownBlock≠b.ownBlock
theorem GD.symm{a b:Value}(h:GD a b):GD b a:=by
 rcases h with h|h
 ·cases hb:b.ownBlock with
  |none=>exact .inl hb
  |some k=>exact .inr (by rw[h,hb];simp)
 ·exact .inr (fun e=>h e.symm)
section
variable {P:Program} (w:World)
theorem qU(base:Nat)(t u ty e:TypeId)(i:TypeInfo)(ht:P.underlying t=some (.slice e))(hu:P.underlying u=some .string)(hi:P.info? e=some i)(hz:i.zero=some (.int .u8 0))
 (hsize:i.size=1) (hby:i.bytes=1)
 (v:Value) (n:Nat) (xs:List Value) (hown:w.ownsRow base e 1 v n xs) (s:vD)
 (h63:n+s.size<=maxLen) (hbytes:n+s.size<=140737488355328) (hbase:base<=w.heap.size):
 ∃v' w',(Builtin.append_ #[t,u] ty #[v,.string s]).run P w=.ok v' w'/\w'.ownsRow base e 1 v' (n+s.size) (xs++strCells s)/\w.grownBy w' v.ownBlock/\∀k,v'.ownBlock=some k->v.ownBlock=some k\/w.heap.size<=k:=by
 obtain⟨v',w',hr,h1,h2,_⟩:=Go.Lib.run_append_own_string w base t u ty e i ht hu hi hz hsize hby v n xs hown s h63 hbytes hbase;refine⟨v',w',hr,h1,h2,fun k hk=>?_⟩;have hxl:xs.length=n:=by simpa using hown.1
 have hsmall:n+s.size<=9223372036854775807:=by simp only[maxLen]at h63;omega
 rcases hown.2 with⟨rfl,rfl⟩|⟨g,cap,cur,rfl,hbg,hg,hnc,hcm,hcs,htake⟩
 ·by_cases hm:s.size=0
  ·have h3:=h1.2
   rw[hm]at h3;rcases h3 with⟨e1,_⟩|⟨g',cap',cur',e1,_,hh,_⟩
   ·rw[e1]at hk;cases hk
   ·rw[e1]at hk
    have:g'=k:=tY hk;subst this;rcases Nat.lt_or_ge g' w.heap.size with a|a
    ·have hf:=Go.Lib.run_firstCells_string (P:=P) w 1 s
     rw[hm]at hf;have hr2:(Builtin.append_ #[t,u] ty #[Value.slice none 0 0,.string s]).run P w=.ok (.slice none 0 0) w:=by
      simp[Builtin.append_,run_underlying ht,run_underlying hu,sizeOf,typeInfo,hi,hsize,Builtin.lenOf,hm,hf]
     rw[hr2]at hr;have:=(Result.ok.inj hr).1;rw[<-this]at e1;cases e1
    ·exact .inr a
  ·have hr2:=run_append_nil_string (P:=P) w t u ty e i (.int .u8 0) ht hu hi hz s (by omega) (by omega) (by rw[hby];omega)
   rw[hr2]at hr;have:=(Result.ok.inj hr).1;rw[<-this]at hk;have:w.heap.size=k:=tY hk;exact .inr (by omega)
 ·by_cases hroom:n+s.size<=cap
  ·have hcs':cur.size=cap:=by simpa using hcs
   have hr2:=Go.Lib.run_append_room_string (P:=P) w t u ty e i ht hu hi hsize g n cap cur hg s hroom (by omega);rw[hr2]at hr;have:=(Result.ok.inj hr).1;rw[<-this]at hk;exact .inl hk
  ·have holds:∀j u,xs[j]?=some u->w.cell? ((⟨g,0,none⟩:Addr).add j)=some u:=hown.cells (g:=g) rfl
   have hr2:=Go.Lib.run_append_grow_string (P:=P) w t u ty e i (.int .u8 0) ht hu hi hz ⟨g,0,none⟩ n cap xs (by rw[hsize];simpa using hxl) holds s (by omega) (by omega) (by rw[hby];exact growslice_fits (by omega) (by omega));rw[hr2]at hr;have:=(Result.ok.inj hr).1;rw[<-this]at hk;have:w.heap.size=k:=tY hk;exact .inr (by omega)
theorem Kl{ops:Array Oper}{rest:List Oper}{o:Oper}{a:Act}{Q:Exit->Act->World->Prop}(hgd:o.guard=none)(sl x:Operand)(t u:TypeId)
 (ho:o.op=.call {callee:=.builtin .append,args:=#[sl,x],argTypes:=#[t,u]})
 (base:Nat) (e:TypeId) (i:TypeInfo) (ht:P.underlying t=some (.slice e)) (hu:P.underlying u=some .string) (hi:P.info? e=some i) (hz:i.zero=some (.int .u8 0))
 (hsize:i.size=1) (hby:i.bytes=1)
 (v:Value) (n:Nat) (xs:List Value) (hs:a.eval sl=v) (hown:w.ownsRow base e 1 v n xs) (s:vD) (hx:a.eval x=.string s)
 (h63:n+s.size<=maxLen) (hbytes:n+s.size<=140737488355328) (hbase:base<=w.heap.size)
 (h:∀v' w',w'.ownsRow base e 1 v' (n+s.size) (xs++strCells s)->w.grownBy w' v.ownBlock->(∀k,v'.ownBlock=some k->v.ownBlock=some k\/w.heap.size<=k)->wpList P ops Q rest (a.put o.dst v') w'):wpList P ops Q (o::rest) a w:=by
 refine wpList_plain hgd fun K hK=>?_;obtain⟨v',w',hr,h2,h3,h4⟩:=qU (P:=P) w base t u o.type e i ht hu hi hz hsize hby v n xs hown s h63 hbytes hbase;unfold Oper.wp execOp;simp only[ho,resolve,invoke,builtin,Sem.run_bind,Sem.run_pure,Result.andThen_ok,List.map_toArray,List.map_cons,List.map_nil,hs,hx,hr];exact hK _ _ (h v' w' h2 h3 h4)
end
theorem Lu(s:vD):strCells s=CJ s.data.toList:=rfl
theorem Ek(a b:List UInt8):CJ (a++b)=CJ a++CJ b:=uU
theorem Zv(a:List UInt8):(CJ a).length=a.length:=uP ..
theorem Tn(a:List UInt8)(n:Nat):CJ (a.take n)=(CJ a).take n:=List.map_take ..
theorem Wp{w:World}{B e n k cap:Nat}{a:Option Addr}{xs:List Value}(h:w.ownsRow B e 1 (.slice a n cap) n xs)(hk:k<=n):w.ownsRow B e 1 (.slice a k cap) k (xs.take k):=by
 have hl:xs.length=n:=by simpa using h.1
 refine⟨by simp[hl,hk],?_⟩;rcases h.2 with⟨e1,e2⟩|⟨g,c,cur,e1,hg,hh,h1,h2,h3,h4⟩
 ·have e3:=Value.slice.inj e1
  obtain⟨rfl,rfl,rfl⟩:=e3;have:k=0:=by omega
  subst this;exact .inl ⟨rfl,rfl⟩
 ·have e3:=Value.slice.inj e1
  obtain⟨rfl, -,rfl⟩:=e3;refine .inr ⟨g,cap,cur,rfl,hg,hh,by omega,h2,h3,?_⟩;have h5:cur.toList.take n=xs:=by simpa using h4
  rw[<-h5,List.take_take,Nat.mul_one,Nat.min_eq_left hk]
structure CR(X:World)(B0 M T V n:Nat)(s:Aj)(vd ve vp:Value):Prop where
 b:X.heap[M]?=some (.cells #[.pointer (some ⟨T,0,none⟩),.pointer (some ⟨V,0,none⟩),.int .i64 n,.int .i64 s.left,vd,ve,vp] 86 (0,0))
 d:X.ownsRow B0 5 1 vd s.data.length (CJ s.data)
 e:X.ownsRow B0 5 1 ve s.errs.length (CJ s.errs)
 p:X.ownsRow B0 5 1 vp s.path.length (CJ s.path)
 de:GD vd ve
 dp:GD vd vp
 ep:GD ve vp
 lm:B0<=M
def MK(X:World)(B0 M T V n:Nat)(s:Aj):Prop:=∃vd ve vp,CR X B0 M T V n s vd ve vp
structure Ej(s:Aj):Prop where
 d:s.data.length<=70000000000000
 e:s.errs.length<=70000000000000
 p:s.path.length<=1000000000
 l: -1000000000<=s.left
 h:s.left<=1000000000
section
variable {X Y:World} {B0 M T V n:Nat} {s:Aj} {vd ve vp:Value}
theorem CR.below(h:CR X B0 M T V n s vd ve vp)(hb:vE X Y):CR Y B0 M T V n s vd ve vp:=⟨(hb.block _ (Ab h.b)).trans h.b,AT h.d hb,AT h.e hb,AT h.p hb,h.de,h.dp,h.ep,h.lm⟩
theorem MK.below(h:MK X B0 M T V n s)(hb:vE X Y):MK Y B0 M T V n s:=by
 obtain⟨vd,ve,vp,h⟩:=h;exact⟨vd,ve,vp,h.below hb⟩
theorem Lq{v v' u:Value}{k:Nat}{xs:List Value}(hu:X.ownsRow B0 5 1 u k xs)(ha:GD u v)(hg:X.grownBy Y v.ownBlock)(hl:∀k,v'.ownBlock=some k->v.ownBlock=some k\/X.heap.size<=k):Y.ownsRow B0 5 1 u k xs/\GD u v':=by
 refine⟨hu.kept hg ha,?_⟩;cases hb:u.ownBlock with
 |none=>exact .inl hb
 |some j=>
  refine .inr (fun e=>?_);rw[hb]at e;rcases hl j e.symm with q|q
  ·rcases ha with a|a
   ·rw[hb]at a;cases a
   ·exact a (hb.trans q.symm)
  ·have:=(hu.lt j hb).2;omega
theorem BZ{v:Value}{k F:Nat}{xs:List Value}{cs:Array Value}{K:TypeId}{fr:Nat×Nat}(hv:X.ownsRow B0 5 1 v k xs)(hF:X.heap[F]?=some (.cells cs K fr))(hK:K≠5)(hg:X.grownBy Y v.ownBlock):Y.heap[F]?=some (.cells cs K fr):=
 (hg.block F (Ab hF) (fun e=>Bv hv hF hK e.symm)).trans hF
theorem Hv{v u:Value}{k i:Nat}{xs:List Value}{cs:Array Value}{K:TypeId}{fr:Nat×Nat}(hv:X.ownsRow B0 5 1 v k xs)(hF:X.heap[M]?=some (.cells cs K fr))(hK:K≠5):(X.setCell ⟨M,i,none⟩ u).ownsRow B0 5 1 v k xs:=
 It hv (fun j hj _=>tX _ _ _ _ (show j≠M from fun e=>Bv hv hF hK (by rw[<-e];exact hj)))
theorem FT.grow5{w:World}{v:Value}{k:Nat}{xs:List Value}(h:FT B0 kM w X)(hv:X.ownsRow B0 5 1 v k xs)(hg:X.grownBy Y v.ownBlock)(hw:B0<=w.heap.size):FT B0 kM w Y:=
 h.gr hg (fun j hj=>by
  obtain⟨cur,hc⟩:=Fx hv j hj;exact .inl ⟨(hv.lt j hj).1,cur,5,(0,0),hc,by decide⟩) hw
theorem CR.putD{w:World}{v':Value}{d':List UInt8}(h:CR X B0 M T V n s vd ve vp)(hf:FT B0 kM w X)(hw:B0<=w.heap.size)(hg:X.grownBy Y vd.ownBlock)(ho:Y.ownsRow B0 5 1 v' d'.length (CJ d'))(hl:∀k,v'.ownBlock=some k->vd.ownBlock=some k\/X.heap.size<=k):CR (Y.setCell ⟨M,4,none⟩ v') B0 M T V n ⟨s.left,d',s.errs,s.path⟩ v' ve vp/\FT B0 kM w (Y.setCell ⟨M,4,none⟩ v'):=by
 have hM:=BZ h.d h.b (by decide) hg;obtain⟨e1,e2⟩:=Lq h.e h.de.symm hg hl;obtain⟨p1,p2⟩:=Lq h.p h.dp.symm hg hl;exact⟨⟨AI hM 4 v',Hv ho hM (by decide),Hv e1 hM (by decide),Hv p1 hM (by decide),e2.symm,p2.symm,h.ep,h.lm⟩,(hf.grow5 h.d hg hw).st hM (by decide) h.lm 4 v'⟩
theorem CR.putE{w:World}{v':Value}{d':List UInt8}(h:CR X B0 M T V n s vd ve vp)(hf:FT B0 kM w X)(hw:B0<=w.heap.size)(hg:X.grownBy Y ve.ownBlock)(ho:Y.ownsRow B0 5 1 v' d'.length (CJ d'))(hl:∀k,v'.ownBlock=some k->ve.ownBlock=some k\/X.heap.size<=k):CR (Y.setCell ⟨M,5,none⟩ v') B0 M T V n ⟨s.left,s.data,d',s.path⟩ vd v' vp/\FT B0 kM w (Y.setCell ⟨M,5,none⟩ v'):=by
 have hM:=BZ h.e h.b (by decide) hg;obtain⟨e1,e2⟩:=Lq h.d h.de hg hl;obtain⟨p1,p2⟩:=Lq h.p h.ep.symm hg hl;exact⟨⟨AI hM 5 v',Hv e1 hM (by decide),Hv ho hM (by decide),Hv p1 hM (by decide),e2,h.dp,p2.symm,h.lm⟩,(hf.grow5 h.e hg hw).st hM (by decide) h.lm 5 v'⟩
theorem CR.putP{w:World}{v':Value}{d':List UInt8}(h:CR X B0 M T V n s vd ve vp)(hf:FT B0 kM w X)(hw:B0<=w.heap.size)(hg:X.grownBy Y vp.ownBlock)(ho:Y.ownsRow B0 5 1 v' d'.length (CJ d'))(hl:∀k,v'.ownBlock=some k->vp.ownBlock=some k\/X.heap.size<=k):CR (Y.setCell ⟨M,6,none⟩ v') B0 M T V n ⟨s.left,s.data,s.errs,d'⟩ vd ve v'/\FT B0 kM w (Y.setCell ⟨M,6,none⟩ v'):=by
 have hM:=BZ h.p h.b (by decide) hg;obtain⟨e1,e2⟩:=Lq h.d h.dp hg hl;obtain⟨p1,p2⟩:=Lq h.e h.ep hg hl;exact⟨⟨AI hM 6 v',Hv e1 hM (by decide),Hv p1 hM (by decide),Hv ho hM (by decide),h.de,e2,p2,h.lm⟩,(hf.grow5 h.p hg hw).st hM (by decide) h.lm 6 v'⟩
theorem QM(X:World)(r:Option Nat):X.grownBy X r:=⟨rfl,rfl,rfl,tL _,fun _ _ _=>rfl⟩
theorem CR.setL{w:World}(h:CR X B0 M T V n s vd ve vp)(hf:FT B0 kM w X)(l:Int):CR (X.setCell ⟨M,3,none⟩ (.int .i64 l)) B0 M T V n ⟨l,s.data,s.errs,s.path⟩ vd ve vp/\FT B0 kM w (X.setCell ⟨M,3,none⟩ (.int .i64 l)):=
 ⟨⟨AI h.b 3 _,Hv h.d h.b (by decide),Hv h.e h.b (by decide),Hv h.p h.b (by decide),h.de,h.dp,h.ep,h.lm⟩,hf.st h.b (by decide) h.lm 3 _⟩
theorem CR.slices(h:CR X B0 M T V n s vd ve vp):∃ad cd ae ce ap cp,vd=.slice ad s.data.length cd/\ve=.slice ae s.errs.length ce/\vp=.slice ap s.path.length cp:=by
 obtain⟨a1,c1,e1⟩:=An h.d;obtain⟨a2,c2,e2⟩:=An h.e;obtain⟨a3,c3,e3⟩:=An h.p;exact⟨a1,c1,a2,c2,a3,c3,e1,e2,e3⟩
end
theorem infoU8:(prog.info? 5).map (fun i=>(i.zero,i.size,i.bytes))=some (some (.int .u8 0),1,1):=by kernel_rfl
section
variable {w:World} {B0 M T V n:Nat} {s:Aj}
def AQ(w:World)(B0 M T V n:Nat)(v:Value)(s':Aj)(e:Ending)(w':World):Prop:=e=.returned v/\MK w' B0 M T V n s'/\FT B0 kM w w'
theorem VJ(h:MK w B0 M T V n s)(hr:Ej s):Calls prog 85 #[.pointer (some ⟨M,0,none⟩)] w (AQ w B0 M T V n (.bool (decide (0<=s.left-1))) s.step):=by
 obtain⟨vd,ve,vp,hx⟩:=h;have hl:=hr.l;have hh:=hr.h;have c:=Ac hx.b;have f:=Am hx.b;have lM:=Ab hx.b;have HF:=Aa (hx.setL (FT.refl B0 kM w) (s.left-1));clear hx hr;unfold AQ;go_enter func85,ntmps85;go_wp2_with fail;go_ret;exact⟨Ak (by simp),⟨vd,ve,vp,HF.o.1⟩,HF.o.2⟩
theorem IP(t:vD)(ht:t.size<=100000000)(h:MK w B0 M T V n s)(hr:Ej s)(hw:B0<=w.heap.size):Calls prog 83 #[.pointer (some ⟨M,0,none⟩),.string t] w (AQ w B0 M T V n (.tuple #[]) (s.write t.data.toList)):=by
 obtain⟨vd,ve,vp,hx⟩:=h;obtain⟨i0,hi,hz⟩:=uY.1 infoU8;simp only[Prod.mk.injEq]at hz;obtain⟨hz0,hz1,hz2⟩:=hz;have hd:=hr.d;have c:=Ac hx.b;have lM:=Ab hx.b;have HX:=Aa hx;have hown:=hx.d;clear hx hr;unfold AQ;go_enter func83,ntmps83;go_wp2_with (at_builtin;refine Kl _ rfl _ _ 84 9 rfl B0 5 i0 underlying84 underlying9 hi hz0 hz1 hz2 _ _ _ rfl hown t rfl (by unfold maxLen;omega) (by omega) hw ?_;intro v' w1 hown' hgrow hlies;obtain⟨av,cv,rfl⟩:=An hown';have HO:=Aa hown';have HG:=Aa hgrow;have HL:=Aa hlies;have c1:=Ac (BZ hown HX.o.b (by decide) hgrow);have f1:=Am (BZ hown HX.o.b (by decide) hgrow);have l1:=Ab (BZ hown HX.o.b (by decide) hgrow));have HP:=Aa (HX.o.putD (d':=s.data++t.data.toList) (FT.refl B0 kM w) hw HG.o (by rw[Ek,<-Lu];simpa using HO.o) HL.o);go_end0;exact⟨rfl,⟨_,ve,vp,HP.o.1⟩,HP.o.2⟩
end
theorem Ka{v:Value}{g H len cap:Nat}(h:v.ownBlock=some g\/g=H):∀k,(Value.slice (some ⟨g,0,none⟩) len cap).ownBlock=some k->v.ownBlock=some k\/H<=k:=fun k hk=>by
 have e:g=k:=tY hk;subst e;rcases h with q|q
 ·exact .inl q
 ·exact .inr (by omega)
section
variable {w:World} {B0 M T V n:Nat} {s:Aj}
theorem Vz(t:vD)(ht:t.size<=100000000)(h:MK w B0 M T V n s)(hr:Ej s)(hw:B0<=w.heap.size):Calls prog 86 #[.pointer (some ⟨M,0,none⟩),.string t] w (AQ w B0 M T V n (.int .i64 s.path.length) (s.enter t.data.toList)):=by
 obtain⟨vd,ve,vp,hx⟩:=h;obtain⟨i0,hi,hz⟩:=uY.1 infoU8;simp only[Prod.mk.injEq]at hz;obtain⟨hz0,hz1,hz2⟩:=hz;have hp:=hr.p;obtain⟨ap,cp,rfl⟩:=An hx.p;have HX:=Aa hx;clear hr;unfold AQ;by_cases h0:s.path=[]
 ·have hpI:¬(0:Int)<s.path.length:=by rw[h0];simp
  have c:=Ac hx.b;have lM:=Ab hx.b;have hown:=hx.p;have HS:=Aa (show s.enter t.data.toList=⟨s.left,s.data,s.errs,s.path++t.data.toList⟩from by unfold Aj.enter Cj;rw[h0];rfl);clear hx h0;go_enter func86,ntmps86;go_wp2_with (at_builtin;refine Kl _ rfl _ _ 84 9 rfl B0 5 i0 underlying84 underlying9 hi hz0 hz1 hz2 _ _ _ rfl hown t rfl (by unfold maxLen;omega) (by omega) hw ?_;intro v' w1 hown' hgrow hlies;obtain⟨av,cv,rfl⟩:=An hown';have HO:=Aa hown';have HG:=Aa hgrow;have HL:=Aa hlies;have c1:=Ac (BZ hown HX.o.b (by decide) hgrow);have f1:=Am (BZ hown HX.o.b (by decide) hgrow);have l1:=Ab (BZ hown HX.o.b (by decide) hgrow));have HP:=Aa (HX.o.putP (d':=s.path++t.data.toList) (FT.refl B0 kM w) hw HG.o (by rw[Ek,<-Lu];simpa using HO.o) HL.o);go_ret;rw[HS.o];exact⟨rfl,⟨_,_,_,HP.o.1⟩,HP.o.2⟩
 ·have hpos:0<s.path.length:=List.length_pos_iff.2 h0
  have hpI:(0:Int)<s.path.length:=by omega
  have c:=Ac hx.b;have lM:=Ab hx.b;have hown:=hx.p;have HS:=Aa (show s.enter t.data.toList=⟨s.left,s.data,s.errs,(s.path++[44])++t.data.toList⟩from by unfold Aj.enter Cj;rw[uB h0]);have HBA:=Aa (HX.o.below (bA (tM _ _) (.cells #[.int .u8 44] 5)));clear hx h0;go_enter func86,ntmps86;go_upto_region 4 with(at_builtin;refine wpList_append_lies _ rfl _ _ 84 rfl B0 5 i0 (.int .u8 0) 1 1 underlying84 hi hz0 hz1 hz2 rfl (by decide) _ _ _ rfl (hown.alloc _) ⟨w.heap.size,0,none⟩ 1 1 [.int .u8 44] rfl rfl (cell_one_new _ _ _) (fun u hu=>by simp at hu;subst hu;rfl) (by decide) (by unfold maxLen;omega) (by omega) (by simp;omega) (w.heap.size+1) (by simp) ?_;intro g1 wK w1 hown1 hgrow1 hat1 hlt1;have HO1:=Aa hown1;have HG1:=Aa hgrow1;have HA1:=Aa hat1;have c1:=Ac (BZ (hown.alloc _) HBA.o.b (by decide) hgrow1);have f1:=Am (BZ (hown.alloc _) HBA.o.b (by decide) hgrow1);have l1:=Ab (BZ (hown.alloc _) HBA.o.b (by decide) hgrow1);clear hgrow1 hat1 hlt1 hown1);obtain⟨p1,f1'⟩:=HBA.o.putP (w:=w) (d':=s.path++[44]) (FT.of_below (bA (tM _ _) _) hw) hw HG1.o (by rw[Ek];simpa [CJ]using HO1.o) (by have q:=Ka (len:=s.path.length+1) (cap:=wK) HA1.o;rw[show(w.alloc (.cells #[.int .u8 44] 5)).heap.size=w.heap.size+1 from by simp];exact q);have z1:=f1'.size;generalize w1.setCell ⟨M,6,none⟩ (.slice (some ⟨g1,0,none⟩) (s.path.length+1) wK)=W2 at*;have HP1:=Aa p1;have HF1:=Aa f1';have c2:=Ac p1.b;have l2:=Ab p1.b;have vM:=p1.p;simp only[uE,List.length_singleton]at vM;clear p1 f1' c1 f1 l1 HO1 HG1 HA1;go_wp2_with (at_builtin;refine Kl _ rfl _ _ 84 9 rfl B0 5 i0 underlying84 underlying9 hi hz0 hz1 hz2 _ _ _ rfl vM t rfl (by unfold maxLen;omega) (by omega) (by omega) ?_;intro v' w3 hown' hgrow hlies;obtain⟨av,cv,rfl⟩:=An hown';have HO:=Aa hown';have HG:=Aa hgrow;have HL:=Aa hlies;have c3:=Ac (BZ vM HP1.o.b (by decide) hgrow);have f3:=Am (BZ vM HP1.o.b (by decide) hgrow);have l3:=Ab (BZ vM HP1.o.b (by decide) hgrow));have HP:=Aa (HP1.o.putP (d':=(s.path++[44])++t.data.toList) HF1.o hw HG.o (by rw[Ek,<-Lu,uE,uE];exact HO.o) HL.o);go_ret;rw[HS.o];exact⟨rfl,⟨_,_,_,HP.o.1⟩,HP.o.2⟩
theorem VC(k:Nat)(h:MK w B0 M T V n s)(hr:Ej s)(hk:k<=s.path.length):Calls prog 88 #[.pointer (some ⟨M,0,none⟩),.int .i64 k] w (AQ w B0 M T V n (.tuple #[]) (s.leave k)):=by
 obtain⟨vd,ve,vp,hx⟩:=h;have hp:=hr.p;have HX:=Aa hx;clear hr;unfold AQ;rcases hx.p.2 with⟨e1,e2⟩|⟨g,cap,cur,e1,hg,hh,h1,h2,h3,h4⟩
 ·subst e1
  have hk0:k=0:=by omega
  subst hk0;have c:=Ac hx.b;have f:=Am hx.b;have lM:=Ab hx.b;have HP:=Aa (HX.o.putP (Y:=w) (v':=.slice none 0 0) (d':=s.path.take 0) (FT.refl B0 kM w) (tQ hx.lm (Nat.le_of_lt lM)) (QM _ _) (by show w.ownsRow B0 5 1 (.slice none 0 0) 0 [];exact uA _ _ _ _) (fun k hk=>by cases hk));clear hx;go_enter func88,ntmps88;go_wp2_with fail;go_end0;exact⟨rfl,⟨_,_,_,HP.o.1⟩,HP.o.2⟩
 ·subst e1
  have c:=Ac hx.b;have f:=Am hx.b;have lM:=Ab hx.b;have hkc:(k:Int)<=cap:=by omega
  have hk0:(0:Int)<=k:=by omega
  have HP:=Aa (HX.o.putP (Y:=w) (v':=.slice (some ⟨g,0,none⟩) k cap) (d':=s.path.take k) (FT.refl B0 kM w) (tQ hx.lm (Nat.le_of_lt lM)) (QM _ _) (by rw[Tn,List.length_take,Nat.min_eq_left hk];exact Wp hx.p hk) (fun k hk=>.inl hk));clear hx hh h4;go_enter func88,ntmps88;go_wp2_with fail;go_end0;exact⟨rfl,⟨_,_,_,HP.o.1⟩,HP.o.2⟩
theorem OI(h:MK w B0 M T V n s)(he:s.errs.length<=70000000000000)(hp:s.path.length<=1000000000)(hp0:s.path≠[])(hw:B0<=w.heap.size):Calls prog 82 #[.pointer (some ⟨M,0,none⟩)] w (AQ w B0 M T V n (.int .i64 2) s.fail):=by
 obtain⟨vd,ve,vp,hx⟩:=h;obtain⟨i0,hi,hz⟩:=uY.1 infoU8;simp only[Prod.mk.injEq]at hz;obtain⟨hz0,hz1,hz2⟩:=hz;obtain⟨ae,ce,rfl⟩:=An hx.e;have HX:=Aa hx;have hpos:0<s.path.length:=List.length_pos_iff.2 hp0;have HW:=Aa hw;clear hp0;unfold AQ;go_enter func82,ntmps82;have c:=Ac hx.b;have lM:=Ab hx.b;have hown:=hx.e
 go_upto_if 8 with fail
 go_cut [] (fun wc=>∃ve',CR wc B0 M T V n ⟨s.left,s.data,Cj s.errs,s.path⟩ vd ve' vp/\FT B0 kM w wc)
 case first=>
  by_cases h0:s.errs=[]
  ·have hpI:¬0<s.errs.length:=by rw[h0];simp
   have HS:=Aa (show(⟨s.left,s.data,Cj s.errs,s.path⟩:Aj)=s from by unfold Cj;rw[uC h0,<-h0]);clear hx h0;go_wp2_with fail;go_meet;rw[HS.o];exact⟨_,HX.o,FT.refl _ _ _⟩
  ·have hpI:0<s.errs.length:=List.length_pos_iff.2 h0
   have HS:=Aa (show Cj s.errs=s.errs++[44]from by unfold Cj;rw[uB h0]);have HBA:=Aa (HX.o.below (bA (tM _ _) (.cells #[.int .u8 44] 5)));clear hx h0;go_wp2_with (at_builtin;refine wpList_append_lies _ rfl _ _ 84 rfl B0 5 i0 (.int .u8 0) 1 1 underlying84 hi hz0 hz1 hz2 rfl (by decide) _ _ _ rfl (hown.alloc _) ⟨w.heap.size,0,none⟩ 1 1 [.int .u8 44] rfl rfl (cell_one_new _ _ _) (fun u hu=>by simp at hu;subst hu;rfl) (by decide) (by unfold maxLen;omega) (by omega) (by simp;omega) (w.heap.size+1) (by simp) ?_;intro g1 wK w1 hown1 hgrow1 hat1 hlt1;have HO1:=Aa hown1;have HG1:=Aa hgrow1;have HA1:=Aa hat1;have c1:=Ac (BZ (hown.alloc _) HBA.o.b (by decide) hgrow1);have f1:=Am (BZ (hown.alloc _) HBA.o.b (by decide) hgrow1);have l1:=Ab (BZ (hown.alloc _) HBA.o.b (by decide) hgrow1);clear hgrow1 hat1 hlt1 hown1);have HP:=Aa (HBA.o.putE (w:=w) (d':=s.errs++[44]) (FT.of_below (bA (tM _ _) _) hw) hw HG1.o (by rw[Ek];simpa [CJ]using HO1.o) (by have q:=Ka (len:=s.errs.length+1) (cap:=wK) HA1.o;rw[show(w.alloc (.cells #[.int .u8 44] 5)).heap.size=w.heap.size+1 from by simp];exact q));go_meet;rw[HS.o];exact⟨_,HP.o.1,HP.o.2⟩
 case rest=>
 obtain⟨ve',h1,f1⟩:=hcut;clear hx c lM hown HX;obtain⟨ae',ce',rfl⟩:=An h1.e;have hse:(Cj s.errs).length<=s.errs.length+1:=by unfold Cj;split<;>simp
 have HB1:=Aa h1;have HF1:=Aa f1;have z1:=f1.size;have c:=Ac h1.b;have lM:=Ab h1.b;have hown:=h1.e;clear h1 f1;go_upto_region 4 with(at_builtin;refine Kl _ rfl _ _ 84 9 rfl B0 5 i0 underlying84 underlying9 hi hz0 hz1 hz2 _ _ _ rfl hown _ rfl (by unfold maxLen;have e:(ByteArray.mk #[123,34,109,101,115,115,97,103,101,34,58,34,110,111,116,32,97,118,97,105,108,97,98,108,101,34,44,34,112,97,116,104,34,58,91]).size=35:=(by rfl);simp only[e];omega) (by have e:(ByteArray.mk #[123,34,109,101,115,115,97,103,101,34,58,34,110,111,116,32,97,118,97,105,108,97,98,108,101,34,44,34,112,97,116,104,34,58,91]).size=35:=(by rfl);simp only[e];omega) (by omega) ?_;intro v' w3 hown' hgrow hlies;obtain⟨av,cv,rfl⟩:=An hown';have HO:=Aa hown';have HG:=Aa hgrow;have HL:=Aa hlies;have c3:=Ac (BZ hown HB1.o.b (by decide) hgrow);have f3:=Am (BZ hown HB1.o.b (by decide) hgrow);have l3:=Ab (BZ hown HB1.o.b (by decide) hgrow);clear hown' hgrow hlies);have e35:(ByteArray.mk #[123,34,109,101,115,115,97,103,101,34,58,34,110,111,116,32,97,118,97,105,108,97,98,108,101,34,44,34,112,97,116,104,34,58,91]).data.toList=Ie:=rfl;obtain⟨p3,f3'⟩:CR (w3.setCell ⟨M,5,none⟩ (.slice av ((Cj s.errs).length+35) cv)) B0 M T V n ⟨s.left,s.data,Cj s.errs++Ie,s.path⟩ vd (.slice av ((Cj s.errs).length+35) cv) vp/\FT B0 kM w (w3.setCell ⟨M,5,none⟩ (.slice av ((Cj s.errs).length+35) cv)):=HB1.o.putE (d':=Cj s.errs++Ie) HF1.o hw HG.o (by rw[Ek,<-e35,<-Lu,uE];exact HO.o) HL.o;have z3:=f3'.size;generalize w3.setCell ⟨M,5,none⟩ (.slice av ((Cj s.errs).length+35) cv)=W3 at*;have hl3:(Cj s.errs++Ie).length<=s.errs.length+36:=by rw[uE];have:Ie.length=35:=rfl;omega
 have HB3:=Aa p3;have HF3:=Aa f3';clear HO HG HL c3 f3 l3 HB1 HF1 c lM hown e35 hse;obtain⟨ae3,ce3,eae⟩:=An p3.e;rw[eae]at p3 HB3;have wC:=p3.e;have xW:=p3.p;have c:=Ac p3.b;have lM:=Ab p3.b;obtain⟨gp,cp',hvp⟩:∃gp cp',vp=.slice (some ⟨gp,0,none⟩) s.path.length cp':=by
  rcases xW.2 with⟨_,q⟩|⟨g,cap,cur,e1,_⟩
  ·simp only[]at q;omega
  ·exact⟨g,cap,e1⟩
 subst hvp;have HPC:=Aa (xW.cells (g:=gp) rfl);generalize hEL:Cj s.errs++Ie=el at*;simp only[]at wC xW;have ce:W3.cell? ⟨M,5,none⟩=some (.slice ae3 el.length ce3):=Ac HB3.o.b 5;have cpp:W3.cell? ⟨M,6,none⟩=some (.slice (some ⟨gp,0,none⟩) s.path.length cp'):=Ac HB3.o.b 6;clear c p3;go_cut [] (fun wc=>∃ve',CR wc B0 M T V n ⟨s.left,s.data,el++s.path,s.path⟩ vd ve' (.slice (some ⟨gp,0,none⟩) s.path.length cp')/\FT B0 kM w wc)
 case first=>
  go_region_law (first|(refine step_append_lies _ (by rfl) _ _ _ (by rfl) B0 5 i0 (.int .u8 0) 1 1 underlying84 hi hz0 hz1 hz2 rfl (by decide) _ _ _ (by rfl) wC.drew ⟨gp,0,none⟩ s.path.length cp' (CJ s.path) (by rfl) (by rw[Zv,Nat.mul_one]) HPC.o (fun u hu=>by obtain⟨b,_,rfl⟩:=List.mem_map.1 hu;rfl) (by omega) (by unfold maxLen;omega) (by omega) (by simp;omega) W3.heap.size (by simp) ?_;intro g5 cap5 w5 vK hgrow5 hat5 hlt5;have c5:=Ac (BZ wC.drew HB3.o.b (by decide) hgrow5);have f5:=Am (BZ wC.drew HB3.o.b (by decide) hgrow5);have l5:=Ab (BZ wC.drew HB3.o.b (by decide) hgrow5)));all_goals(
   have HP:=Aa ((HB3.o.below (tM W3.heap.size W3).drew).putE (w:=w) (d':=el++s.path) HF3.o.dr hw hgrow5 (by rw[Ek,uE];exact vK) (Ka hat5));clear hgrow5 vK hat5 hlt5;go_wp2_with fail;go_meet;exact⟨_,HP.o.1,HP.o.2⟩)
 case rest=>
 obtain⟨ve5,h5,f5⟩:=hcut;have hl5:(el++s.path).length<=s.errs.length+36+s.path.length:=by rw[uE];omega
 generalize hE2:el++s.path=el2 at*;obtain⟨ae5,ce5,rfl⟩:=An h5.e;have HB5:=Aa h5;have HF5:=Aa f5;have z5:=f5.size;have c5:=Ac h5.b;have lM5:=Ab h5.b;have vK:=h5.e;have HEL:=Aa hEL;have HE2:=Aa hE2;clear hE2;clear h5 f5 ce cpp lM wC xW HB3 HF3 HPC hEL;go_wp2_with (at_builtin;refine Kl _ rfl _ _ 84 9 rfl B0 5 i0 underlying84 underlying9 hi hz0 hz1 hz2 _ _ _ rfl vK _ rfl (by unfold maxLen;have e:(ByteArray.mk #[93,125]).size=2:=(by rfl);simp only[e];omega) (by have e:(ByteArray.mk #[93,125]).size=2:=(by rfl);simp only[e];omega) (by omega) ?_;intro v' w7 hown' hgrow hlies;obtain⟨av,cv,rfl⟩:=An hown';have HO:=Aa hown';have HG:=Aa hgrow;have HL:=Aa hlies;have c7:=Ac (BZ vK (by simpa using HB5.o.b) (by decide) hgrow);have f7:=Am (BZ vK (by simpa using HB5.o.b) (by decide) hgrow);have l7:=Ab (BZ vK (by simpa using HB5.o.b) (by decide) hgrow);clear hown' hgrow hlies);have e2:(ByteArray.mk #[93,125]).data.toList=JP:=rfl;have HP:=Aa (HB5.o.putE (d':=el2++JP) HF5.o hw HG.o (by rw[Ek,<-e2,<-Lu,uE];exact HO.o) HL.o);have HS:=Aa (show s.fail=⟨s.left,s.data,el2++JP,s.path⟩from by unfold Aj.fail;rw[<-HE2.o,<-HEL.o]);go_ret;rw[HS.o];exact⟨rfl,⟨_,_,_,HP.o.1⟩,HP.o.2⟩
theorem Rq(k how:Nat)(st:Bool)(h:MK w B0 M T V n s)(hr:Ej s)(hk:k<=s.data.length)(hd0:s.data≠[])(hp0:s.path≠[]\/st=false)(hh:how<=2)(hw:B0<=w.heap.size):Calls prog 50 #[.pointer (some ⟨M,0,none⟩),.int .i64 k,.int .i64 how,.bool st] w (AQ w B0 M T V n (.bool (BE k how st s).1) (BE k how st s).2):=by
 have h0:=h;obtain⟨vd,ve,vp,hx⟩:=h;obtain⟨i0,hi,hz⟩:=uY.1 infoU8;simp only[Prod.mk.injEq]at hz;obtain⟨hz0,hz1,hz2⟩:=hz;have hd:=hr.d;have HR:=Aa hr;have HX:=Aa hx;have HQ:=Aa (BE.eq_1 k how st s);generalize BE k how st s=FF at*;unfold AQ;by_cases h1:how=0
 ·subst h1
  rw[uC rfl]at HQ;have HQ2:=Aa (show FF=(true,s)from HQ.o);have H0:=Aa h0;clear hx hr h0 HX HQ;go_enter func50,ntmps50;go_wp2_with fail;go_ret;rw[HQ2.o];exact⟨rfl,H0.o,FT.refl _ _ _⟩
 ·rw[uB h1]at HQ
  have T0:((how:Int)==0)=false:=by simp;omega
  clear h0;obtain⟨g,cd,rfl,hcd⟩:∃g cd,vd=.slice (some ⟨g,0,none⟩) s.data.length cd/\s.data.length<=cd:=by
   rcases hx.d.2 with⟨_,e2⟩|⟨g,cap,cur,e1,_,_,q1,_⟩
   ·have:=List.length_pos_iff.2 hd0;omega
   ·exact⟨g,cap,e1,q1⟩
  have xH:=Wp hx.d hk;have c:=Ac hx.b;have lM:=Ab hx.b;have hkc:(k:Int)<=cd:=by omega
  have hk0:(0:Int)<=k:=by omega
  have HFA:=Aa (fun(X:World) (s':Aj) (h:MK X B0 M T V n s') (he:s'.errs.length<=70000000000000) (hq:s'.path.length<=1000000000) (hp:s'.path≠[]) (hw:B0<=X.heap.size)=>OI h he hq hp hw);have hkl:k<=70000000000000:=by omega
  have HNP:=Aa hp0;clear hx hr hp0 hd0;go_enter func50,ntmps50;go_upto_region 4 with(at_builtin;refine Kl _ rfl _ _ 84 9 rfl B0 5 i0 underlying84 underlying9 hi hz0 hz1 hz2 _ _ _ rfl xH _ rfl (by unfold maxLen;have e:(ByteArray.mk #[110,117,108,108]).size=4:=(by rfl);simp only[e];omega) (by have e:(ByteArray.mk #[110,117,108,108]).size=4:=(by rfl);simp only[e];omega) hw ?_;intro v' w3 hown' hgrow hlies;obtain⟨av,cv,rfl⟩:=An hown';have HO:=Aa hown';have HG:=Aa hgrow;have HL:=Aa hlies;have c3:=Ac (BZ xH HX.o.b (by decide) hgrow);have f3:=Am (BZ xH HX.o.b (by decide) hgrow);have l3:=Ab (BZ xH HX.o.b (by decide) hgrow);clear hown' hgrow hlies);have e4:(ByteArray.mk #[110,117,108,108]).data.toList=Hy:=rfl;obtain⟨p3,f3'⟩:CR (w3.setCell ⟨M,4,none⟩ (.slice av (k+4) cv)) B0 M T V n (s.cutNull k) (.slice av (k+4) cv) ve vp/\FT B0 kM w (w3.setCell ⟨M,4,none⟩ (.slice av (k+4) cv)):=HX.o.putD (d':=s.data.take k++Hy) (FT.refl _ _ _) hw HG.o (by rw[Ek,Tn,<-e4,<-Lu,uE,List.length_take,Nat.min_eq_left hk];exact HO.o) HL.o;have z3:=f3'.size;generalize w3.setCell ⟨M,4,none⟩ (.slice av (k+4) cv)=W3 at*;have HB3:=Aa p3;have HF3:=Aa f3';clear HO HG HL c3 f3 l3 p3 f3' e4 c lM xH HX;by_cases hc:how=1/\st=true
  ·rw[uC hc]at HQ
   have HQ2:=Aa (show FF=(!st,(s.cutNull k).fail)from HQ.o);obtain⟨h1',h2'⟩:=hc;subst h1' h2';have HFC:=Aa (HFA.o W3 (s.cutNull k) ⟨_,_,_,HB3.o⟩ HR.o.e HR.o.p (HNP.o.resolve_right (by simp)) (by omega));unfold AQ at HFC;go_wp2_with fail;refine HFC.o.mono ?_;rintro _ w5 ⟨rfl,h5,f5⟩;have H5:=Aa h5;have F5:=Aa (HF3.o.trans f5);clear h5 f5;go_wp2_with fail;go_ret;rw[HQ2.o];exact⟨rfl,H5.o,F5.o⟩
  ·rw[uB hc]at HQ
   have HQ2:=Aa (show FF=(!st,s.cutNull k)from HQ.o);cases st
   ·by_cases e1:how=1
    ·have T1:((how:Int)==1)=true:=by rw[e1];rfl
     clear hc e1;go_wp2_with fail;go_ret;rw[HQ2.o];exact⟨rfl,⟨_,_,_,HB3.o⟩,HF3.o⟩
    ·have T1:((how:Int)==1)=false:=by simp;omega
     clear hc e1;go_wp2_with fail;go_ret;rw[HQ2.o];exact⟨rfl,⟨_,_,_,HB3.o⟩,HF3.o⟩
   ·have T1:((how:Int)==1)=false:=by simp at hc;simp;omega
    clear hc;go_wp2_with fail;go_ret;rw[HQ2.o];exact⟨rfl,⟨_,_,_,HB3.o⟩,HF3.o⟩
end
structure Gw(w:World)(B0:Nat)(v:Value)(X:World)(u:Value)(d:List UInt8):Prop where
 own:X.ownsRow B0 5 1 u d.length (CJ d)
 gr:w.grownBy X v.ownBlock
 li:∀k,u.ownBlock=some k->v.ownBlock=some k\/w.heap.size<=k
section
variable {w X Y:World} {B0:Nat} {v u u':Value} {d d':List UInt8}
theorem Gw.refl(h:w.ownsRow B0 5 1 v d.length (CJ d)):Gw w B0 v w v d:=⟨h,QM _ _,fun _ h=>.inl h⟩
theorem Gw.alloc(h:Gw w B0 v X u d)(o:Obj):Gw w B0 v (X.alloc o) u d:=⟨h.own.alloc o,h.gr.trans (World.grownBy_alloc X o _),h.li⟩
theorem Gw.next(h:Gw w B0 v X u d)(ho:Y.ownsRow B0 5 1 u' d'.length (CJ d'))(hg:X.grownBy Y u.ownBlock)(hl:∀k,u'.ownBlock=some k->u.ownBlock=some k\/X.heap.size<=k):Gw w B0 v Y u' d':=
 ⟨ho,⟨hg.os.trans h.gr.os,hg.tape.trans h.gr.tape,hg.output.trans h.gr.output,tQ h.gr.size hg.size,fun k hk hne=>(hg.block k (tV hk h.gr.size) (fun e=>by
  rcases h.li k e.symm with q|q
  ·exact hne q.symm
  ·omega)).trans (h.gr.block k hk hne)⟩,fun k hk=>by
  rcases hl k hk with q|q
  ·exact h.li k q
  ·exact .inr (tQ h.gr.size q)⟩
end
theorem bM(c:UInt8):(EW c).length<=2:=by unfold EW;(repeat' split)<;>simp
theorem Oh:∀l:List UInt8,(l.flatMap EW).length<=2*l.length
 |[]=>by simp
 |c::l=>by rw[List.flatMap_cons,uE,uQ];have:=bM c;have:=Oh l;omega
theorem bO(l:List UInt8)(k:Nat)(c:UInt8)(h:l[k]?=some c):(l.take (k+1)).flatMap EW=(l.take k).flatMap EW++EW c:=by
 rw[uG,h,List.flatMap_append];simp
theorem Wh{a b:Value}(ha:a.oneCell'=true)(hb:b.oneCell'=true):∀u∈[a,b],u.oneCell'=true:=fun u hu=>by
 rcases vB.1 hu with rfl|hu
 ·exact ha
 ·rw[List.mem_singleton]at hu;rw[hu];exact hb
theorem Rp(w:World)(B0:Nat)(v:Value)(d:List UInt8)(t:vD)(h:w.ownsRow B0 5 1 v d.length (CJ d))(hd:d.length<=70000000000000)(ht:t.size<=100000000)(hw:B0<=w.heap.size):
 Calls prog 129 #[v,.string t] w fun e w'=>∃v',e=.returned v'/\Gw w B0 v w' v' (d++FC t.data.toList):=by
 obtain⟨i0,hi,hz⟩:=uY.1 infoU8;simp only[Prod.mk.injEq]at hz;obtain⟨hz0,hz1,hz2⟩:=hz;obtain⟨av,cv,rfl⟩:=An h;have HG0:=Aa (Gw.refl h);have hO:=h.alloc (.cells #[.int .u8 34] 5);clear h;go_enter func129,ntmps129;go_upto_region 2 with(at_builtin;refine wpList_append_lies _ rfl _ _ 84 rfl B0 5 i0 (.int .u8 0) 1 1 underlying84 hi hz0 hz1 hz2 rfl (by decide) _ _ _ rfl hO ⟨w.heap.size,0,none⟩ 1 1 [.int .u8 34] rfl rfl (cell_one_new _ _ _) (fun u hu=>by simp at hu;subst hu;rfl) (by decide) (by unfold maxLen;omega) (by omega) (by simp;omega) (w.heap.size+1) (by simp) ?_;intro g1 wK w1 hown1 hgrow1 hat1 hlt1);have HG1:=Aa ((HG0.o.alloc (.cells #[.int .u8 34] 5)).next (d':=d++[34]) (by rw[Ek,uE];exact hown1) hgrow1 (by have q:=Ka (len:=d.length+1) (cap:=wK) hat1;rw[show(w.alloc (.cells #[.int .u8 34] 5)).heap.size=w.heap.size+1 from by simp];exact q));clear hown1 hgrow1 hat1 hlt1 hO HG0;go_wp2_with fail;go_loopg [0,5,6,12] t.size (fun m v0 v5 v6 v12 wr=>∃(k:Nat) (u:Value),v12=.int .i64 k/\k<=t.size/\t.size-k<=m/\v0=u/\Gw w B0 (.slice av d.length cv) wr u (d++34::(t.data.toList.take k).flatMap EW))
 case atStart=>exact⟨0,_,rfl,tU _,tL _,rfl,by simpa using HG1.o⟩
 case round=>
  obtain⟨k,u,rfl,hkl,hkm,rfl,hg⟩:=hrel;have hpl:(d++34::(t.data.toList.take k).flatMap EW).length<=d.length+1+2*k:=by
   have:=Oh (t.data.toList.take k);rw[List.length_take]at this;rw[uE,uQ];omega
  generalize hD:d++34::(t.data.toList.take k).flatMap EW=D at*;obtain⟨au,cu,rfl⟩:=An hg.own;have HG:=Aa hg;have hown:=hg.own;have hB:B0<=wr.heap.size:=tQ hw hg.gr.size;clear hg;by_cases hlt:k<t.size
  ·have hx0:0<=(t[k].toNat:Int):=by omega
   have hx1:(t[k].toNat:Int)<=255:=by have:=t[k].toNat_lt;omega
   have hget:t.data.toList[k]?=some t[k]:=by
    rw[tN (by simpa using hlt)];rfl
   have HNX:=Aa (show∀E,EW t[k]=E->D++E=d++34::(t.data.toList.take (k+1)).flatMap EW from fun E hE=>by rw[bO _ _ _ hget,<-hD,hE];simp);have hO1:=hown.alloc (.cells #[.int .u8 (t[k].toNat:Int)] 5);have hO2:=hown.alloc (.cells #[.int .u8 92,.int .u8 (t[k].toNat:Int)] 5);clear hget hD;cases h34:((t[k].toNat:Int)==34)
   ·cases h92:((t[k].toNat:Int)==92)
    ·cases h10:((t[k].toNat:Int)==10)
     ·cases h9:((t[k].toNat:Int)==9)
      ·have HE:=Aa (HNX.o [t[k]] (by unfold EW;rw[uB (by rintro(e|e)<;>rw[e]at h34 h92<;>simp at h34 h92),uB (by intro e;rw[e]at h10;simp at h10),uB (by intro e;rw[e]at h9;simp at h9)]))
       go_wp2_with (at_builtin;refine wpList_append_lies _ rfl _ _ 84 rfl B0 5 i0 (.int .u8 0) 1 1 underlying84 hi hz0 hz1 hz2 rfl (by decide) _ _ _ rfl hO1 ⟨wr.heap.size,0,none⟩ 1 1 [.int .u8 (t[k].toNat:Int)] rfl rfl (cell_one_new _ _ _) (fun u hu=>by simp at hu;subst hu;rfl) (by decide) (by unfold maxLen;omega) (by omega) (by simp;omega) (wr.heap.size+1) (by simp) ?_;intro g1 wK w1 hown1 hgrow1 hat1 hlt1);have HGN:=Aa ((HG.o.alloc (.cells #[.int .u8 (t[k].toNat:Int)] 5)).next (d':=D++[t[k]]) (by rw[Ek,uE];exact hown1) hgrow1 (by have q:=Ka (len:=D.length+1) (cap:=wK) hat1;rw[show(wr.alloc (.cells #[.int .u8 (t[k].toNat:Int)] 5)).heap.size=wr.heap.size+1 from by simp];exact q));go_roundg (t.size-(k+1))
       case measure=>omega
       case rel=>exact⟨k+1,_,by go_num,by omega,tL _,rfl,by rw[<-HE.o];exact HGN.o⟩
      ·have HE:=Aa (HNX.o [92,116] (by unfold EW;rw[uB (by rintro(e|e)<;>rw[e]at h34 h92<;>simp at h34 h92),uB (by intro e;rw[e]at h10;simp at h10),uC (Fe (by simpa using h9))]))
       go_wp2_with (at_builtin;refine Kl _ rfl _ _ 84 9 rfl B0 5 i0 underlying84 underlying9 hi hz0 hz1 hz2 _ _ _ rfl hown _ rfl (by unfold maxLen;have e:(ByteArray.mk #[92,116]).size=2:=(by rfl);simp only[e];omega) (by have e:(ByteArray.mk #[92,116]).size=2:=(by rfl);simp only[e];omega) hB ?_;intro v' w1 hown1 hgrow1 hlies;obtain⟨av1,cv1,rfl⟩:=An hown1);have HGN:=Aa (HG.o.next (d':=D++[92,116]) (by rw[Ek,uE];exact hown1) hgrow1 hlies);go_roundg (t.size-(k+1))
       case measure=>omega
       case rel=>exact⟨k+1,_,by go_num,by omega,tL _,rfl,by rw[<-HE.o];exact HGN.o⟩
     ·have HE:=Aa (HNX.o [92,110] (by unfold EW;rw[uB (by rintro(e|e)<;>rw[e]at h34 h92<;>simp at h34 h92),uC (Fe (by simpa using h10))]))
      go_wp2_with (at_builtin;refine Kl _ rfl _ _ 84 9 rfl B0 5 i0 underlying84 underlying9 hi hz0 hz1 hz2 _ _ _ rfl hown _ rfl (by unfold maxLen;have e:(ByteArray.mk #[92,110]).size=2:=(by rfl);simp only[e];omega) (by have e:(ByteArray.mk #[92,110]).size=2:=(by rfl);simp only[e];omega) hB ?_;intro v' w1 hown1 hgrow1 hlies;obtain⟨av1,cv1,rfl⟩:=An hown1);have HGN:=Aa (HG.o.next (d':=D++[92,110]) (by rw[Ek,uE];exact hown1) hgrow1 hlies);go_roundg (t.size-(k+1))
      case measure=>omega
      case rel=>exact⟨k+1,_,by go_num,by omega,tL _,rfl,by rw[<-HE.o];exact HGN.o⟩
    ·have HE:=Aa (HNX.o [92,t[k]] (by unfold EW;rw[uC (.inr (Fe (by simpa using h92)))]))
     go_wp2_with (at_builtin;refine wpList_append_lies _ rfl _ _ 84 rfl B0 5 i0 (.int .u8 0) 1 1 underlying84 hi hz0 hz1 hz2 rfl (by decide) _ _ _ rfl hO2 ⟨wr.heap.size,0,none⟩ 2 2 [.int .u8 92,.int .u8 (t[k].toNat:Int)] rfl rfl (Cs _ _ _ _ (by simp)) (Wh rfl rfl) (by decide) (by unfold maxLen;omega) (by omega) (by simp;omega) (wr.heap.size+1) (by simp) ?_;intro g1 wK w1 hown1 hgrow1 hat1 hlt1);have HGN:=Aa ((HG.o.alloc (.cells #[.int .u8 92,.int .u8 (t[k].toNat:Int)] 5)).next (d':=D++[92,t[k]]) (by rw[Ek,uE];exact hown1) hgrow1 (by have q:=Ka (len:=D.length+2) (cap:=wK) hat1;rw[show(wr.alloc (.cells #[.int .u8 92,.int .u8 (t[k].toNat:Int)] 5)).heap.size=wr.heap.size+1 from by simp];exact q));go_roundg (t.size-(k+1))
     case measure=>omega
     case rel=>exact⟨k+1,_,by go_num,by omega,tL _,rfl,by rw[<-HE.o];exact HGN.o⟩
   ·have HE:=Aa (HNX.o [92,t[k]] (by unfold EW;rw[uC (.inl (Fe (by simpa using h34)))]))
    go_wp2_with (at_builtin;refine wpList_append_lies _ rfl _ _ 84 rfl B0 5 i0 (.int .u8 0) 1 1 underlying84 hi hz0 hz1 hz2 rfl (by decide) _ _ _ rfl hO2 ⟨wr.heap.size,0,none⟩ 2 2 [.int .u8 92,.int .u8 (t[k].toNat:Int)] rfl rfl (Cs _ _ _ _ (by simp)) (Wh rfl rfl) (by decide) (by unfold maxLen;omega) (by omega) (by simp;omega) (wr.heap.size+1) (by simp) ?_;intro g1 wK w1 hown1 hgrow1 hat1 hlt1);have HGN:=Aa ((HG.o.alloc (.cells #[.int .u8 92,.int .u8 (t[k].toNat:Int)] 5)).next (d':=D++[92,t[k]]) (by rw[Ek,uE];exact hown1) hgrow1 (by have q:=Ka (len:=D.length+2) (cap:=wK) hat1;rw[show(wr.alloc (.cells #[.int .u8 92,.int .u8 (t[k].toNat:Int)] 5)).heap.size=wr.heap.size+1 from by simp];exact q));go_roundg (t.size-(k+1))
    case measure=>omega
    case rel=>exact⟨k+1,_,by go_num,by omega,tL _,rfl,by rw[<-HE.o];exact HGN.o⟩
  ·have hk:k=t.size:=by omega
   subst hk;have hO1:=hown.alloc (.cells #[.int .u8 34] 5);have HF:=Aa (show d++FC t.data.toList=D++[34]from by
    rw[<-hD];unfold FC;rw[tW (by simp)];simp)
   clear hD;go_wp2_with (at_builtin;refine wpList_append_lies _ rfl _ _ 84 rfl B0 5 i0 (.int .u8 0) 1 1 underlying84 hi hz0 hz1 hz2 rfl (by decide) _ _ _ rfl hO1 ⟨wr.heap.size,0,none⟩ 1 1 [.int .u8 34] rfl rfl (cell_one_new _ _ _) (fun u hu=>by simp at hu;subst hu;rfl) (by decide) (by unfold maxLen;omega) (by omega) (by simp;omega) (wr.heap.size+1) (by simp) ?_;intro g1 wK w1 hown1 hgrow1 hat1 hlt1);have HGN:=Aa ((HG.o.alloc (.cells #[.int .u8 34] 5)).next (d':=D++[34]) (by rw[Ek,uE];exact hown1) hgrow1 (by have q:=Ka (len:=D.length+1) (cap:=wK) hat1;rw[show(wr.alloc (.cells #[.int .u8 34] 5)).heap.size=wr.heap.size+1 from by simp];exact q));go_ret;rw[HF.o];exact⟨_,rfl,HGN.o⟩
def Gz(w0:World):Prop:=∀(W:World),vE w0 W->∀n:Int, -9223372036854775808<=n->n<=9223372036854775807->Calls prog 238 #[.int .i64 n] W fun e w'=>e=.returned (.string ⟨(AH n).toArray⟩)/\vE W w'
theorem Gz.below{w0 w:World}(h:Gz w0)(hb:vE w0 w):Gz w:=fun W hW n h0 h1=>h W (bT hb hW) n h0 h1
section
variable {w:World} {B0 M T V n:Nat} {s:Aj}
theorem CR.putG{X Y:World}{vd ve vp v':Value}{d':List UInt8}(h:CR X B0 M T V n s vd ve vp)(hf:FT B0 kM w X)(hw:B0<=w.heap.size)(hg:Gw X B0 vd Y v' d'):CR (Y.setCell ⟨M,4,none⟩ v') B0 M T V n ⟨s.left,d',s.errs,s.path⟩ v' ve vp/\FT B0 kM w (Y.setCell ⟨M,4,none⟩ v'):=h.putD hf hw hg.gr hg.own hg.li
theorem kT(hI:Gz w)(k:Nat)(m:Int)(t:vD)(hm0: -9223372036854775808<=m)(hm1:m<=9223372036854775807)(hml:(AH m).length<=100)(ht:t.size<=100000000)(h:MK w B0 M T V n s)(hr:Ej s)(hw:B0<=w.heap.size):Calls prog 219 #[.pointer (some ⟨M,0,none⟩),.agg #[.int .i64 k,.int .i64 m,.string t]] w (AQ w B0 M T V n (.tuple #[]) (s.write (Me k m t))):=by
 have HB1:=Aa (show vE w (w.alloc (.cells #[.int .i64 k,.int .i64 m,.string t] 116))from bA (tM _ _) _);have HI:=Aa (fun W (hW:vE w W)=>hI W hW m hm0 hm1);have HQ:=Aa (Me.eq_1 k m t);generalize Me k m t=FF at*;have HW:=Aa (fun(X:World) (t:vD) (ht:t.size<=100000000) (h:MK X B0 M T V n s) (hw:B0<=X.heap.size)=>IP t ht h hr hw);have H:=Aa h;have hrd:=hr.d;clear hI h hr;unfold AQ at HW⊢;have hB1:B0<=(w.alloc (.cells #[.int .i64 k,.int .i64 m,.string t] 116)).heap.size:=by simp;omega
 have hfin:∀(X w':World) (l:List UInt8),vE w X->FF=l->MK w' B0 M T V n (s.write l)/\FT B0 kM X w'->MK w' B0 M T V n (s.write FF)/\FT B0 kM w w':=fun X w' l hX e h=>by rw[e];exact⟨h.1,(FT.of_below hX hw).trans h.2⟩
 have HFIN:=Aa hfin;clear hfin;by_cases k1:k=1
 ·subst k1
  rw[uC rfl]at HQ;go_enter func219,ntmps219;go_wp2_with fail;refine(HI.o _ HB1.o).mono ?_;rintro _ w2 ⟨rfl,b2⟩;have hB2:B0<=w2.heap.size:=tQ hB1 b2.size;have HM2:=Aa (H.o.below (bT HB1.o b2));have HX2:=Aa (bT HB1.o b2);clear b2;go_wp2_with fail;refine(HW.o w2 ⟨(AH m).toArray⟩ (by show(AH m).toArray.size<=_;simp;omega) HM2.o hB2).mono ?_;rintro _ w3 ⟨rfl,h3,f3⟩;have HZ:=Aa (HFIN.o w2 w3 (AH m) HX2.o HQ.o ⟨by simpa using h3,f3⟩);clear h3 f3;go_wp2_with fail;go_end0;exact⟨rfl,HZ.o.1,HZ.o.2⟩
 ·rw[uB k1]at HQ
  have K1:((k:Int)==1)=false:=by simp;omega
  by_cases k2:k=2
  ·subst k2
   rw[uC rfl]at HQ;obtain⟨vd,ve,vp,hx⟩:=H.o.below HB1.o;obtain⟨ad,cd,rfl⟩:=An hx.d;have HF0:=Aa (show FT B0 kM w (w.alloc (.cells #[.int .i64 ((2:Nat):Int),.int .i64 m,.string t] 116))from FT.of_below HB1.o hw);have cb:(w.alloc (.cells #[.int .i64 ((2:Nat):Int),.int .i64 m,.string t] 116)).cell? ⟨w.heap.size,2,none⟩=some (.string t):=Ac (tS w _) 2;have lb:w.heap.size<(w.alloc (.cells #[.int .i64 ((2:Nat):Int),.int .i64 m,.string t] 116)).heap.size:=by simp
   go_enter func219,ntmps219;go_wp2_with fail;generalize w.alloc (.cells #[.int .i64 ((2:Nat):Int),.int .i64 m,.string t] 116)=W1 at*;have HX:=Aa hx;have HQD:=Aa (fun W (hW:vE W1 W)=>Rp W B0 (.slice ad s.data.length cd) s.data t (AT hx.d hW) hrd ht (tQ hB1 hW.size));have HM2:=Aa (fun W (hW:vE W1 W) w2 u d (hg:Gw W B0 (.slice ad s.data.length cd) w2 u d)=>BZ (AT hx.d hW) (hx.below hW).b (by decide) hg.gr);have HPG:=Aa (fun W (hW:vE W1 W) w2 u d (hg:Gw W B0 (.slice ad s.data.length cd) w2 u d)=>(hx.below hW).putG (w:=w) (HF0.o.bt hW hw) hw hg);have cM:W1.cell? ⟨M,4,none⟩=some (.slice ad s.data.length cd):=Ac hx.b 4;have lM:=Ab hx.b;clear hx;generalize hDD:s.data++FC t.data.toList=DD at*;have HS:=Aa (show s.write FF=⟨s.left,DD,s.errs,s.path⟩from by rw[HQ.o];unfold Aj.write;rw[hDD]);clear hDD;go_region_with (go_at_call 129;refine(HQD.o _ ?_).mono ?_;(first|exact(tM _ _).drew|exact tM _ _);rintro _ w2 ⟨v',rfl,hg⟩;obtain⟨av,cv,rfl⟩:=An hg.own;have hM2:=(by first|exact HM2.o W1 (tM _ _) _ _ _ hg|exact HM2.o W1.drew (tM _ _).drew _ _ _ hg);have cM2:=Ac hM2;have fM2:=Am hM2;have lM2:=Ab hM2);all_goals(
    have HZ:=Aa (by first|exact HPG.o W1 (tM _ _) _ _ _ hg|exact HPG.o W1.drew (tM _ _).drew _ _ _ hg);clear hg hM2;go_wp2_with fail;go_end0;have HZ1:=HZ.o.1;have HZ2:=HZ.o.2;rw[HS.o];exact⟨rfl,⟨_,_,_,HZ1⟩,HZ2⟩)
  ·rw[uB k2]at HQ
   have K2:((k:Int)==2)=false:=by simp;omega
   by_cases k3:k=3
   ·subst k3
    rw[uC rfl]at HQ;go_enter func219,ntmps219;go_wp2_with fail;refine(HW.o _ _ (by decide) (H.o.below HB1.o) hB1).mono ?_;rintro _ w3 ⟨rfl,h3,f3⟩;have HZ:=Aa (HFIN.o _ w3 Yo HB1.o HQ.o ⟨h3,f3⟩);clear h3 f3;go_wp2_with fail;go_end0;exact⟨rfl,HZ.o.1,HZ.o.2⟩
   ·rw[uB k3]at HQ
    have K3:((k:Int)==3)=false:=by simp;omega
    by_cases k4:k=4
    ·subst k4
     rw[uC rfl]at HQ;go_enter func219,ntmps219;go_wp2_with fail;refine(HW.o _ _ (by decide) (H.o.below HB1.o) hB1).mono ?_;rintro _ w3 ⟨rfl,h3,f3⟩;have HZ:=Aa (HFIN.o _ w3 Su HB1.o HQ.o ⟨h3,f3⟩);clear h3 f3;go_wp2_with fail;go_end0;exact⟨rfl,HZ.o.1,HZ.o.2⟩
    ·rw[uB k4]at HQ
     have K4:((k:Int)==4)=false:=by simp;omega
     have HS:=Aa (show s.write FF=s from by rw[HQ.o];unfold Aj.write;simp);go_enter func219,ntmps219;go_wp2_with fail;go_end0;rw[HS.o];exact⟨rfl,H.o.below HB1.o,FT.of_below HB1.o hw⟩
theorem Sx(s:Aj)(a b:List UInt8):(s.write a).write b=s.write (a++b):=by unfold Aj.write;simp
theorem VP(x:vD):∀(l:List vD) (i:Nat),DN i (l++[x])=DN i l++((if 0<i+l.length then [44]else [])++FC x.data.toList)
 |[],i=>by simp[DN]
 |y::l,i=>by
  rw[List.cons_append,DN,VP x l (i+1),DN];have:i+1+l.length=i+(y::l).length:=by simp;omega
  rw[this];simp
theorem Nt(l:List UInt8):(FC l).length<=2*l.length+2:=by
 unfold FC;have:=Oh l;rw[uQ,uE,List.length_singleton];omega
theorem VO(B:Nat):∀(l:List vD) (i:Nat),(∀x∈l,x.size<=B)->(DN i l).length<=l.length*(2*B+3)
 |[],i,_=>by simp[DN]
 |x::l,i,h=>by
  rw[DN,uE,uE,uQ,Nat.succ_mul];have h1:=VO B l (i+1) (fun y hy=>h y (uW _ hy));have h2:=Nt x.data.toList;have h3:x.data.toList.length<=B:=h x uX;have h4:(if 0<i then [44]else []:List UInt8).length<=1:=by split<;>simp
  omega
theorem VG(l:List vD)(vl:Value)(hl:∀X,FT B0 kM w X->DK X vl l)(hll:l.length<=10000)(hls:∀x∈l,x.size<=100000)(h:MK w B0 M T V n s)(hr:Ej s)(hr2:s.data.length<=60000000000000)(hw:B0<=w.heap.size):Calls prog 182 #[.pointer (some ⟨M,0,none⟩),vl] w (AQ w B0 M T V n (.tuple #[]) (s.write (Hs l))):=by
 obtain⟨al,cl,hvl,_⟩:=hl w (FT.refl _ _ _);subst hvl;have HSL:=Aa hl;have HRS:=Aa (fun(a:List UInt8) (ha:a.length<=3000000000)=>(show Ej (s.write a)from⟨by show(s.data++a).length<=_;rw[uE];omega,hr.e,hr.p,hr.l,hr.h⟩));have HW:=Aa (fun(X:World) (s':Aj) (t:vD) (ht:t.size<=100000000) (h:MK X B0 M T V n s') (hr:Ej s') (hw:B0<=X.heap.size)=>IP t ht h hr hw);have HR0:=Aa hr;have H:=Aa h;have HLS:=Aa hls;have HNL:=Aa (fun t=>VO 100000 (l.take t) 0 (fun x hx=>hls x (List.mem_of_mem_take hx)));unfold AQ at HW⊢;clear hl h hr hls;go_enter func182,ntmps182;go_wp2_with fail;refine(HW.o w s _ (by decide) H.o HR0.o hw).mono ?_;rintro _ w1 ⟨rfl,h1,f1⟩;have HM1:=Aa (show MK w1 B0 M T V n (s.write (91::DN 0 (l.take 0)))from h1);have HF1:=Aa f1;clear h1 f1;go_wp2_with fail;go_loopg [4,5,10] l.length (fun m v4 v5 v10 wr=>∃t:Nat,v10=.int .i64 t/\t<=l.length/\l.length-t<=m/\MK wr B0 M T V n (s.write (91::DN 0 (l.take t)))/\FT B0 kM w wr)
 case atStart=>exact⟨0,rfl,tU _,tL _,HM1.o,HF1.o⟩
 case round=>
  obtain⟨t,rfl,htl,htm,hmk,hft⟩:=hrel;have HM:=Aa hmk;have HF:=Aa hft;have hz:=hft.size;have hnl:(DN 0 (l.take t)).length<=10000*200003:=by
   refine tQ (HNL.o t) (Nat.mul_le_mul_right _ ?_);rw[List.length_take];omega
  by_cases hlt:t<l.length
  ·have hx:=tN hlt
   generalize l[t]=x at hx;obtain⟨al',cl',hv',_,hcells⟩:=HSL.o wr hft;obtain⟨g,off,e,hcell⟩:=hcells.resolve_left (fun e=>by rw[e]at hlt;simp at hlt);have ea:=(Value.slice.inj hv').1;clear hv';subst ea;subst e;have cx:wr.cell? ⟨g,off+t,none⟩=some (.string x):=hcell t x hx;have lx:=tR wr _ cx;have HXS:=Aa (HLS.o x (tO hx));have HE:=Aa (show(s.write (91::DN 0 (l.take (t+1))))=(s.write ((91::DN 0 (l.take t))++(if 0<t then [44]else []))).write (FC x.data.toList)from by
    rw[Sx,uG,hx,Option.toList_some,VP,List.length_take,Nat.zero_add,Nat.min_eq_left htl];simp)
   clear hmk hft hcell hx
   go_upto_if 16 with fail
   go_cut [] (fun wc=>MK wc B0 M T V n (s.write ((91::DN 0 (l.take t))++(if 0<t then [44]else [])))/\FT B0 kM w wc)
   case first=>
    by_cases ht0:0<t
    ·have HWC:=Aa (HW.o wr _ ⟨#[44]⟩ (by decide) HM.o (HRS.o _ (by rw[uQ];omega)) (by omega))
     go_wp2_with fail;refine HWC.o.mono ?_;rintro _ w3 ⟨rfl,h3,f3⟩;have H3:=Aa h3;have F3:=Aa (HF.o.trans f3);clear h3 f3;go_wp2_with fail;go_meet;exact⟨by rw[uC ht0,<-Sx];exact H3.o,F3.o⟩
    ·go_wp2_with fail
     go_meet;exact⟨by rw[uB ht0,List.append_nil];exact HM.o,HF.o⟩
   case rest=>
   obtain⟨hm3,hf3⟩:=hcut;have hd3:(s.write ((91::DN 0 (l.take t))++(if 0<t then [44]else []))).data.length<=70000000000000:=by
    show(s.data++_).length<=_;rw[uE,uE,uQ];have:(if 0<t then [44]else []:List UInt8).length<=1:=by split<;>simp
    omega
   generalize s.write ((91::DN 0 (l.take t))++(if 0<t then [44]else []))=SS at*;obtain⟨vd,ve,vp,hx3⟩:=hm3;obtain⟨ad,cd,rfl⟩:=An hx3.d;have HX3:=Aa hx3;have HF3:=Aa hf3;have HQD:=Aa (Rp wc B0 (.slice ad SS.data.length cd) SS.data x hx3.d hd3 (tQ HXS.o (by decide)) (tQ hw hf3.size));have cM:=Ac hx3.b;have lM:=Ab hx3.b;generalize hDD:SS.data++FC x.data.toList=DD at*;have HS:=Aa (show SS.write (FC x.data.toList)=⟨SS.left,DD,SS.errs,SS.path⟩from by unfold Aj.write;rw[hDD]);clear hx3 hf3 hDD cx lx HM HF HW;go_wp2_with fail;refine HQD.o.mono ?_;rintro _ w5 ⟨v',rfl,hg⟩;obtain⟨av,cv,rfl⟩:=An hg.own;have hM5:=BZ HX3.o.d HX3.o.b (by decide) hg.gr;have cM5:=Ac hM5;have fM5:=Am hM5;have lM5:=Ab hM5;have HZ:=Aa (HX3.o.putG HF3.o hw hg);clear hg hM5 cM lM;go_wp2_with fail;go_roundg (l.length-(t+1))
   case measure=>omega
   case rel=>exact⟨t+1,by go_num,by omega,tL _,by rw[HE.o,HS.o];exact⟨_,_,_,HZ.o.1⟩,HZ.o.2⟩
  ·have ht:t=l.length:=by omega
   subst ht;rw[List.take_length]at HM hnl;have HWC:=Aa (HW.o wr _ ⟨#[93]⟩ (by decide) HM.o (HRS.o _ (by rw[uQ];omega)) (by omega));have HS:=Aa (show(s.write (91::DN 0 l)).write [93]=s.write (Hs l)from by rw[Sx];rfl);clear hmk hft HM;go_wp2_with fail;refine HWC.o.mono ?_;rintro _ w3 ⟨rfl,h3,f3⟩;have H3:=Aa h3;have F3:=Aa (HF.o.trans f3);clear h3 f3;go_wp2_with fail;go_end0;rw[<-HS.o];exact⟨rfl,H3.o,F3.o⟩
end
theorem FT.strs{B0 B:Nat}{w X:World}{v:Value}{l:List vD}(h:FT B0 kM w X)(ho:w.ownsRow B 9 1 v l.length (Bi l)):DK X v l:=DK.of_own (h.own ho (by decide))
section
variable {w:World} {S:Nat} {vR vO vI vU vN:Value} {LR:List (At×Value)} {LO:List AV} {LI:List (As×Value)} {LU:List (Au×Value)} {names:List vD} {B0 M T V n:Nat} {s:Aj}
theorem kV(hS:SV w S vR vO vI vU vN LR LO LI LU names){vL u:Value}(hT:w.heap[T]?=some (.cells #[vL,.pointer (some ⟨S,0,none⟩),u] 75 (0,0)))(hls:∀x∈names,x.size<=100000)(h:MK w B0 M T V n s)(hr:Ej s)(hr2:s.data.length<=60000000000000)(hw:B0<=w.heap.size):Calls prog 130 #[.pointer (some ⟨M,0,none⟩)] w (AQ w B0 M T V n (.tuple #[]) (s.write (Hs names))):=by
 obtain⟨i0,hi,hz⟩:=uY.1 info9';simp only[Prod.mk.injEq]at hz;obtain⟨hz0,hz1,hz2⟩:=hz;have HN:=Aa (fun(W:World) (hW:vE w W) (v:Value) (ho:W.ownsRow w.heap.size 9 1 v names.length (Bi names))=>VG (w:=W) names v (fun X hX=>hX.strs ho) (by have:=hS.ln;omega) hls (h.below hW) hr hr2 (tQ hw hW.size));obtain⟨vd,ve,vp,hx⟩:=h;have cM:=Ac hx.b;have lM:=Ab hx.b;have cT:=Ac hT;have lT:=Ab hT;have cS:=Ac hS.sc;have lS:=Ab hS.sc;obtain⟨aN,cN,rfl⟩:=An hS.n;have HNM:=Aa hS.n;have hln:=hS.ln;unfold AQ at HN⊢;clear hx hT hS hr hls;go_enter func130,ntmps130;go_wp2_with fail;go_loopg [2,4,16] names.length (fun m v2 v4 v16 wr=>∃(t:Nat) (l':List vD),v16=.int .i64 t/\t<=names.length/\names.length-t<=m/\vE w wr/\wr.ownsRow w.heap.size 9 1 v2 l'.length (Bi l')/\l'=names.take t)
 case atStart=>exact⟨0,[],rfl,tU _,tL _,tM _ _,uA _ _ _ _,rfl⟩
 case round=>
  obtain⟨t,l',rfl,htl,htm,hb,ho,hle⟩:=hrel;have HB:=Aa hb;have HO:=Aa ho;have HLE:=Aa hle;obtain⟨al,cl,rfl⟩:=An ho;have htk:l'.length<=804:=by rw[hle,List.length_take];omega
  clear hle;by_cases hlt:t<names.length
  ·have hx:=tN hlt
   generalize names[t]=x at hx;have hgx:(Bi names)[t]?=some (.string x):=by unfold Bi;rw[uD,hx];rfl
   obtain⟨gN,hgN⟩:∃gN,aN=some ⟨gN,0,none⟩:=by
    rcases HNM.o.2 with⟨_,q⟩|⟨g,cap,cur,e1,_⟩
    ·omega
    ·exact⟨g,(Value.slice.inj e1).1⟩
   subst hgN;have cx:wr.cell? ⟨gN,t,none⟩=some (.string x):=by
    have:=(AT HNM.o hb).cells (g:=gN) rfl t _ hgx;have e:(⟨gN,0,none⟩:Addr).add t=⟨gN,t,none⟩:=by unfold Addr.add;split<;>simp_all
    rwa [e]at this
   have lx:=tR wr _ cx;have hO1:=(ho.alloc (.cells #[.string x] 164)).alloc (.cells #[.string x] 9);have hbz:=hb.size;have HX:=Aa (show l'++[x]=names.take (t+1)from by rw[HLE.o,uG,hx];rfl);clear hb ho hx hgx;go_wp2_with (at_builtin;refine wpList_append_own _ rfl _ _ 107 rfl w.heap.size 9 i0 (.string ⟨#[]⟩) 1 16 underlying107 hi hz0 hz1 hz2 rfl (by decide) _ _ _ rfl hO1 ⟨wr.heap.size+1,0,none⟩ 1 1 [.string x] rfl rfl (Cs _ _ _ _ (by simp)) (fun u hu=>by simp at hu;subst hu;rfl) (by unfold maxLen;omega) (by omega) (by simp;omega) ?_;intro v' w2 hown' hgrow _);have HB2:=Aa (show vE w w2 from(bA (bA HB.o (.cells #[.string x] 164)) (.cells #[.string x] 9)).grown hgrow (by simp;omega) (fun k hk=>(hO1.lt k hk).1));have HO2:=Aa (show w2.ownsRow w.heap.size 9 1 v' (l'++[x]).length (Bi (l'++[x]))from by
    rw[uE];simpa [Bi]using hown')
   obtain⟨av2,cv2,rfl⟩:=An hown';clear hown' hgrow hO1;go_roundg (names.length-(t+1))
   case measure=>omega
   case rel=>exact⟨t+1,l'++[x],by go_num,by omega,tL _,HB2.o,HO2.o,HX.o⟩
  ·have ht:t=names.length:=by omega
   subst ht;have hl':l'=names:=by rw[HLE.o,List.take_length]
   subst hl';have HNC:=Aa (HN.o wr hb _ HO.o);clear hb ho htk HLE;go_wp2_with fail;refine HNC.o.mono ?_;rintro _ w3 ⟨rfl,h3,f3⟩;have H3:=Aa h3;have F3:=Aa ((FT.of_below HB.o hw).trans f3);clear h3 f3;go_wp2_with fail;go_end0;exact⟨rfl,H3.o,F3.o⟩
end
end Go.Proofs.YtadneapobijejaaGreatDoor
