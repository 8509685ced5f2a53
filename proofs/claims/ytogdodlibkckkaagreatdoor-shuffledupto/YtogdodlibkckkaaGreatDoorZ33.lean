import Derived.Test.YtogdodlibkckkaaGreatDoorZ28
import Derived.Test.YtogdodlibkckkaaGreatDoorZ23
import Derived.Lib.ItoaNum
import Derived.Lib.AppendStr
import Derived.Deep.AppendLies
import Derived.BigQuiet
namespace Go.Proofs.YtogdodlibkckkaaGreatDoor
set_option maxHeartbeats 20000000
set_option maxRecDepth 100000
open Go.RowKit Tryz
abbrev QF:=As×List Nat
def Mj(x:As):Bool:=x.conds.any (fun c=>decide (c.2.1=c.1))
def Dd(x:As):List QF->List QF
 |[]=>[(x,x.part.toList)]
 |y::l=>if y.1.key=x.key then(y.1,y.2++x.part.toList)::l else y::Dd x l
abbrev Fc:=List QF×List Bool
abbrev LG:=Nat->Fc->Fc
def CA(parts:List Ai)(of:yF->Bool)(rec:LG):List As->Fc->Fc
 |[],c=>c
 |x::l,c=>
  if Mj x=true then CA parts of rec l c
  else if x.kind=0 then CA parts of rec l (Dd x c.1,c.2)
  else match x.part with
   |none=>CA parts of rec l c
   |some i=>if (decide ((Ax parts i).typ=bE)||of (Ax parts i).typ)=true then CA parts of rec l (rec i c)else CA parts of rec l c
def CD(parts:List Ai)(of:yF->Bool):Nat->LG
 |0,_,c=>c
 |f+1,i,c=>if c.2.getD i false=true then c else CA parts of (CD parts of f) (Ax parts i).sels (c.1,c.2.set i true)
def Gb(parts:List Ai)(of:yF->Bool):List Nat->Fc->Fc
 |[],c=>c
 |i::l,c=>Gb parts of l (CD parts of (parts.length+1) i c)
def DG(parts:List Ai)(of:yF->Bool)(a:List Nat):List QF:=(Gb parts of a ([],List.replicate parts.length false)).1
structure Aj where
 left:Int
 data:List UInt8
 errs:List UInt8
 path:List UInt8
def Cf(l:List UInt8):List UInt8:=if l=[]then []else l++[44]
def FR:List UInt8:=[110,117,108,108]
def Gs:List UInt8:=[123,34,109,101,115,115,97,103,101,34,58,34,110,111,116,32,97,118,97,105,108,97,98,108,101,34,44,34,112,97,116,104,34,58,91]
def IX:List UInt8:=[93,125]
def Aj.write(s:Aj)(t:List UInt8):Aj:=⟨s.left,s.data++t,s.errs,s.path⟩
def Aj.step(s:Aj):Aj:=⟨s.left-1,s.data,s.errs,s.path⟩
def Aj.fail(s:Aj):Aj:=⟨s.left,s.data,Cf s.errs++Gs++s.path++IX,s.path⟩
def Aj.enter(s:Aj)(t:List UInt8):Aj:=⟨s.left,s.data,s.errs,Cf s.path++t⟩
def Aj.leave(s:Aj)(n:Nat):Aj:=⟨s.left,s.data,s.errs,s.path.take n⟩
def Aj.cutNull(s:Aj)(n:Nat):Aj:=⟨s.left,s.data.take n++FR,s.errs,s.path⟩
def Cg(start a:Nat)(strict:Bool)(s:Aj):Bool×Aj:=
 if a=0 then(true,s)else(!strict,if a=1/\strict=true then(s.cutNull start).fail else s.cutNull start)
def BQ(c:UInt8):List UInt8:=if c=34\/c=92 then [92,c]else if c=10 then [92,110]else if c=9 then [92,116]else [c]
def Bo(t:List UInt8):List UInt8:=34::(t.flatMap BQ++[34])
def AH(n:Int):List UInt8:=Lib.itoa n
def Qq:List UInt8:=[116,114,117,101]
def Ol:List UInt8:=[102,97,108,115,101]
def Kw(k:Nat)(n:Int)(t:yF):List UInt8:=if k=1 then AH n else if k=2 then Bo t.data.toList else if k=3 then Qq else if k=4 then Ol else []
def Dp:Nat->List yF->List UInt8
 |_,[]=>[]
 |i,x::l=>(if 0<i then [44]else [])++Bo x.data.toList++Dp (i+1) l
def GE(l:List yF):List UInt8:=91::(Dp 0 l++[93])
abbrev MR:=Nat×List (yF×RV)
def RV.k:RV->Nat
 | .mk k _ _ _=>k
def PA:RV:=.mk 0 0 ⟨#[]⟩ []
def EM(r:MR)(n:yF):RV:=if Af (r.2.map Prod.fst) n<0 then PA else match r.2[(Af (r.2.map Prod.fst) n).toNat]? with
 |some c=>c.2
 |none=>PA
structure AM where
 objs:List Aq
 ifs:List At
 uns:List Aw
 names:List yF
 roles:List yF
 parts:List Ai
 row:yF->Option MR
def Ge:Aq:=⟨⟨#[]⟩,[],[],none,.all⟩
def AM.obj(E:AM)(k:Nat):Aq:=E.objs.getD k Ge
def Vh:Am:=⟨⟨#[]⟩,⟨#[]⟩,⟨#[]⟩,⟨#[]⟩,⟨#[]⟩,.one ⟨#[]⟩ false⟩
def Oi:Bv->Bv
 | .one n st=>.one n st
 | .list t _=>t
def Te:Bv->yF
 | .one n _=>n
 | .list _ _=>⟨#[]⟩
def Dk:Bv->Bool
 | .one _ st=>st
 | .list _ st=>st
abbrev Cd:=MR->List Nat->Aj->Nat×Aj
def GH(a:Cd)(r:Option MR)(b:List Nat)(s:Aj):Nat×Aj:=match r with
 |none=>(2,s.fail)
 |some r=>a r b s
mutual
def BR(E:AM)(a:Cd):RV->Bv->List Nat->Aj->Nat×Aj
 | .mk k n t l,c,b,s=>
   if k=0 then(1,s)else if k=8 then(2,s.fail)else if k=6 then GH a (E.row t) b s
   else if k=7 then Cp E a l 0 (Oi c) b 0 (s.write [91])
   else(0,s.write (Kw k n t))
def Cp(E:AM)(d:Cd):List RV->Nat->Bv->List Nat->Nat->Aj->Nat×Aj
 |[],_,_,_,a,s=>(a,s.write [93])
 |c::l,i,b,e,a,s=>
  if s.step.left<0 then(2,s.step)else
   let s1:=if 0<i then s.step.write [44]else s.step
   let f:=s1.enter (AH i)
   let v:=BR E d c b e f
   let z:=Cg f.data.length v.1 (Dk b) v.2
   Cp E d l (i+1) b e (if z.1=true then a else 2) (z.2.leave s1.path.length)
end
def Ki(v:PV)(c:RV):RV:=match c with
 | .mk k n t l=>.mk k n t (if v.1=0 then l else l.take (max 0 v.2.1).toNat)
def Kb(E:AM)(id typ:yF):Option MR:=(E.row id).bind fun r=>if decide ((E.obj r.1).name=bQ)||!AW (E.obj r.1) E.uns typ then none else some r
def CI(x:As):PV:=(x.args.head?.map Prod.snd).getD (0,0,⟨#[]⟩)
def Er(E:AM)(a:Cd)(r:MR)(d:Am)(f:QF)(s:Aj):Nat×Aj:=
 if DW E.roles d.auth=false then(2,s.fail)
 else if d.arg=De then GH a (Kb E (CI f.1).2.2 (Te d.ty)) f.2 s
 else if f.1.args=[]then BR E a (EM r d.name) d.ty f.2 s
 else BR E a (Ki (CI f.1) (EM r d.name)) d.ty f.2 s
def JC(E:AM)(typ:yF):List UInt8:=match Dx E.objs E.ifs typ with
 |none=>FR
 |some fs=>GE ((fs.filter (fun f=>DW E.roles f.hide_)).map Am.name)
def DI(E:AM)(a:Cd)(r:MR)(f:QF)(s:Aj):Bool×Aj:=
 if f.1.name=Gu then(true,s.write (Bo (E.obj r.1).name.data.toList))
 else if f.1.name=Gv then(true,s.write (GE E.names))
 else if f.1.name=FZ then(true,s.write (JC E (CI f.1).2.2))
 else
  let d:=(EQ (E.obj r.1).fields f.1.name).getD Vh
  let v:=Er E a r d f s
  Cg s.data.length v.1 (Dk d.ty) v.2
def AK(f:QF):List UInt8:=34::(f.1.key.data.toList++[34])
def Cv(E:AM)(b:Cd)(r:MR):List QF->Nat->Nat->Aj->Nat×Aj
 |[],_,a,s=>(a,s.write [125])
 |f::l,i,a,s=>
  if s.step.left<0 then(2,s.step)else
   let s1:=if 0<i then s.step.write [44]else s.step
   let c:=(s1.enter (AK f)).write (AK f++[58])
   let z:=DI E b r f c
   Cv E b r l (i+1) (if z.1=true then a else 2) (z.2.leave s1.path.length)
def AV(E:AM):Nat->Cd
 |0,_,_,s=>(2,s)
 |f+1,r,a,s=>Cv E (AV E f) r (DG E.parts (AW (E.obj r.1) E.uns) a) 0 0 (s.write [123])
open Go.Lib (strCells)
abbrev kM:List TypeId:=[5,117]
def GR(a b:Value):Prop:=a.ownBlock=none\/a.ownBlock≠b.ownBlock
theorem GR.symm{a b:Value}(c:GR a b):GR b a:=by
 rcases c with c|c
 ·cases hb:b.ownBlock with
  |none=>exact .inl hb
  |some k=>exact .inr (by rw[c,hb];simp)
 ·exact .inr (fun e=>c e.symm)
section
variable {P:Program} (w:World)
theorem tK(base:Nat)(t u f e:TypeId)(i:TypeInfo)(m:P.underlying t=some (.slice e))(p:P.underlying u=some .string)(l:P.info? e=some i)(z:i.zero=some (.int .u8 0))
 (r:i.size=1) (x:i.bytes=1)
 (v:Value) (n:Nat) (xs:List Value) (q:w.ownsRow base e 1 v n xs) (s:yF)
 (E:n+s.size<=maxLen) (I:n+s.size<=140737488355328) (H:base<=w.heap.size):
 ∃v' w',(Builtin.append_ #[t,u] f #[v,.string s]).run P w=.ok v' w'/\w'.ownsRow base e 1 v' (n+s.size) (xs++strCells s)/\w.grownBy w' v.ownBlock/\∀k,v'.ownBlock=some k->v.ownBlock=some k\/w.heap.size<=k:=by
 obtain⟨v',w',c,C,G,_⟩:=Go.Lib.run_append_own_string w base t u f e i m p l z r x v n xs q s E I H;refine⟨v',w',c,C,G,fun k b=>?_⟩;have M:xs.length=n:=by simpa using q.1
 have V:n+s.size<=9223372036854775807:=by simp only[maxLen]at E;omega
 rcases q.2 with⟨rfl,rfl⟩|⟨g,cap,A,rfl,Q,K,U,R,J,W⟩
 ·by_cases y:s.size=0
  ·have D:=C.2
   rw[y]at D;rcases D with⟨h,_⟩|⟨B,N,O,h,_,T,_⟩
   ·rw[h]at b;cases b
   ·rw[h]at b
    have:B=k:=xD b;subst this;rcases Nat.lt_or_ge B w.heap.size with a|a
    ·have F:=Go.Lib.run_firstCells_string (P:=P) w 1 s
     rw[y]at F;have d:(Builtin.append_ #[t,u] f #[Value.slice none 0 0,.string s]).run P w=.ok (.slice none 0 0) w:=by
      simp[Builtin.append_,run_underlying m,run_underlying p,sizeOf,typeInfo,l,r,Builtin.lenOf,y,F]
     rw[d]at c;have:=(Result.ok.inj c).1;rw[<-this]at h;cases h
    ·exact .inr a
  ·have d:=run_append_nil_string (P:=P) w t u f e i (.int .u8 0) m p l z s (by omega) (by omega) (by rw[x];omega)
   rw[d]at c;have:=(Result.ok.inj c).1;rw[<-this]at b;have:w.heap.size=k:=xD b;exact .inr (by omega)
 ·by_cases L:n+s.size<=cap
  ·have S:A.size=cap:=by simpa using J
   have d:=Go.Lib.run_append_room_string (P:=P) w t u f e i m p l r g n cap A K s L (by omega);rw[d]at c;have:=(Result.ok.inj c).1;rw[<-this]at b;exact .inl b
  ·have holds:∀j u,xs[j]?=some u->w.cell? ((⟨g,0,none⟩:Addr).add j)=some u:=q.cells (g:=g) rfl
   have d:=Go.Lib.run_append_grow_string (P:=P) w t u f e i (.int .u8 0) m p l z ⟨g,0,none⟩ n cap xs (by rw[r];simpa using M) holds s (by omega) (by omega) (by rw[x];exact growslice_fits (by omega) (by omega));rw[d]at c;have:=(Result.ok.inj c).1;rw[<-this]at b;have:w.heap.size=k:=xD b;exact .inr (by omega)
theorem KF{ops:Array Oper}{rest:List Oper}{o:Oper}{a:Act}{Q:Exit->Act->World->Prop}(q:o.guard=none)(b x:Operand)(t u:TypeId)
 (y:o.op=.call {callee:=.builtin .append,args:=#[b,x],argTypes:=#[t,u]})
 (base:Nat) (e:TypeId) (i:TypeInfo) (C:P.underlying t=some (.slice e)) (D:P.underlying u=some .string) (r:P.info? e=some i) (F:i.zero=some (.int .u8 0))
 (B:i.size=1) (m:i.bytes=1)
 (v:Value) (n:Nat) (xs:List Value) (hs:a.eval b=v) (z:w.ownsRow base e 1 v n xs) (s:yF) (E:a.eval x=.string s)
 (h:n+s.size<=maxLen) (p:n+s.size<=140737488355328) (l:base<=w.heap.size)
 (c:∀v' w',w'.ownsRow base e 1 v' (n+s.size) (xs++strCells s)->w.grownBy w' v.ownBlock->(∀k,v'.ownBlock=some k->v.ownBlock=some k\/w.heap.size<=k)->wpList P ops Q rest (a.put o.dst v') w'):wpList P ops Q (o::rest) a w:=by
 refine wpList_plain q fun K j=>?_;obtain⟨v',w',A,d,f,g⟩:=tK (P:=P) w base t u o.type e i C D r F B m v n xs z s h p l;unfold Oper.wp execOp;simp only[y,resolve,invoke,builtin,Sem.run_bind,Sem.run_pure,Result.andThen_ok,List.map_toArray,List.map_cons,List.map_nil,hs,E,A];exact j _ _ (c v' w' d f g)
end
theorem LT(s:yF):strCells s=CR s.data.toList:=rfl
theorem Ev(a b:List UInt8):CR (a++b)=CR a++CR b:=xY
theorem bO(a:List UInt8):(CR a).length=a.length:=xT ..
theorem Uk(a:List UInt8)(n:Nat):CR (a.take n)=(CR a).take n:=List.map_take ..
theorem Xv{w:World}{B e n k cap:Nat}{a:Option Addr}{xs:List Value}(h:w.ownsRow B e 1 (.slice a n cap) n xs)(i:k<=n):w.ownsRow B e 1 (.slice a k cap) k (xs.take k):=by
 have s:xs.length=n:=by simpa using h.1
 refine⟨by simp[s,i],?_⟩;rcases h.2 with⟨b,t⟩|⟨g,c,f,b,q,r,u,j,l,m⟩
 ·have d:=Value.slice.inj b
  obtain⟨rfl,rfl,rfl⟩:=d;have:k=0:=by omega
  subst this;exact .inl ⟨rfl,rfl⟩
 ·have d:=Value.slice.inj b
  obtain⟨rfl, -,rfl⟩:=d;refine .inr ⟨g,cap,f,rfl,q,r,by omega,j,l,?_⟩;have p:f.toList.take n=xs:=by simpa using m
  rw[<-p,List.take_take,Nat.mul_one,Nat.min_eq_left i]
structure Da(X:World)(B0 M T V n:Nat)(s:Aj)(vd ve vp:Value):Prop where
 b:X.heap[M]?=some (.cells #[.pointer (some ⟨T,0,none⟩),.pointer (some ⟨V,0,none⟩),.int .i64 n,.int .i64 s.left,vd,ve,vp] 117 (0,0))
 d:X.ownsRow B0 5 1 vd s.data.length (CR s.data)
 e:X.ownsRow B0 5 1 ve s.errs.length (CR s.errs)
 p:X.ownsRow B0 5 1 vp s.path.length (CR s.path)
 de:GR vd ve
 dp:GR vd vp
 ep:GR ve vp
 lm:B0<=M
def MK(X:World)(B0 M T V n:Nat)(s:Aj):Prop:=∃vd ve vp,Da X B0 M T V n s vd ve vp
structure Eu(s:Aj):Prop where
 d:s.data.length<=70000000000000
 e:s.errs.length<=70000000000000
 p:s.path.length<=1000000000
 l: -1000000000<=s.left
 h:s.left<=1000000000
section
variable {X Y:World} {B0 M T V n:Nat} {s:Aj} {vd ve vp:Value}
theorem Da.below(a:Da X B0 M T V n s vd ve vp)(hb:yG X Y):Da Y B0 M T V n s vd ve vp:=⟨(hb.block _ (Ab a.b)).trans a.b,AT a.d hb,AT a.e hb,AT a.p hb,a.de,a.dp,a.ep,a.lm⟩
theorem MK.below(a:MK X B0 M T V n s)(hb:yG X Y):MK Y B0 M T V n s:=by
 obtain⟨vd,ve,vp,a⟩:=a;exact⟨vd,ve,vp,a.below hb⟩
theorem LL{v v' u:Value}{k:Nat}{xs:List Value}(c:X.ownsRow B0 5 1 u k xs)(b:GR u v)(d:X.grownBy Y v.ownBlock)(f:∀k,v'.ownBlock=some k->v.ownBlock=some k\/X.heap.size<=k):Y.ownsRow B0 5 1 u k xs/\GR u v':=by
 refine⟨c.kept d b,?_⟩;cases hb:u.ownBlock with
 |none=>exact .inl hb
 |some j=>
  refine .inr (fun e=>?_);rw[hb]at e;rcases f j e.symm with q|q
  ·rcases b with a|a
   ·rw[hb]at a;cases a
   ·exact a (hb.trans q.symm)
  ·have:=(c.lt j hb).2;omega
theorem Ch{v:Value}{k F:Nat}{xs:List Value}{cs:Array Value}{K:TypeId}{a:Nat×Nat}(d:X.ownsRow B0 5 1 v k xs)(hF:X.heap[F]?=some (.cells cs K a))(b:K≠5)(c:X.grownBy Y v.ownBlock):Y.heap[F]?=some (.cells cs K a):=
 (c.block F (Ab hF) (fun e=>By d hF b e.symm)).trans hF
theorem Ig{v u:Value}{k i:Nat}{xs:List Value}{cs:Array Value}{K:TypeId}{b:Nat×Nat}(a:X.ownsRow B0 5 1 v k xs)(hF:X.heap[M]?=some (.cells cs K b))(c:K≠5):(X.setCell ⟨M,i,none⟩ u).ownsRow B0 5 1 v k xs:=
 IF a (fun j d _=>xC _ _ _ _ (show j≠M from fun e=>By a hF c (by rw[<-e];exact d)))
theorem FT.grow5{w:World}{v:Value}{k:Nat}{xs:List Value}(d:FT B0 kM w X)(b:X.ownsRow B0 5 1 v k xs)(f:X.grownBy Y v.ownBlock)(g:B0<=w.heap.size):FT B0 kM w Y:=
 d.gr f (fun j a=>by
  obtain⟨c,e⟩:=FG b j a;exact .inl ⟨(b.lt j a).1,c,5,(0,0),e,by decide⟩) g
theorem Da.putD{w:World}{v':Value}{d':List UInt8}(a:Da X B0 M T V n s vd ve vp)(j:FT B0 kM w X)(m:B0<=w.heap.size)(f:X.grownBy Y vd.ownBlock)(l:Y.ownsRow B0 5 1 v' d'.length (CR d'))(g:∀k,v'.ownBlock=some k->vd.ownBlock=some k\/X.heap.size<=k):Da (Y.setCell ⟨M,4,none⟩ v') B0 M T V n ⟨s.left,d',s.errs,s.path⟩ v' ve vp/\FT B0 kM w (Y.setCell ⟨M,4,none⟩ v'):=by
 have c:=Ch a.d a.b (by decide) f;obtain⟨h,i⟩:=LL a.e a.de.symm f g;obtain⟨q,p2⟩:=LL a.p a.dp.symm f g;exact⟨⟨AI c 4 v',Ig l c (by decide),Ig h c (by decide),Ig q c (by decide),i.symm,p2.symm,a.ep,a.lm⟩,(j.grow5 a.d f m).st c (by decide) a.lm 4 v'⟩
theorem Da.putE{w:World}{v':Value}{d':List UInt8}(a:Da X B0 M T V n s vd ve vp)(j:FT B0 kM w X)(m:B0<=w.heap.size)(f:X.grownBy Y ve.ownBlock)(l:Y.ownsRow B0 5 1 v' d'.length (CR d'))(g:∀k,v'.ownBlock=some k->ve.ownBlock=some k\/X.heap.size<=k):Da (Y.setCell ⟨M,5,none⟩ v') B0 M T V n ⟨s.left,s.data,d',s.path⟩ vd v' vp/\FT B0 kM w (Y.setCell ⟨M,5,none⟩ v'):=by
 have c:=Ch a.e a.b (by decide) f;obtain⟨h,i⟩:=LL a.d a.de f g;obtain⟨q,p2⟩:=LL a.p a.ep.symm f g;exact⟨⟨AI c 5 v',Ig h c (by decide),Ig l c (by decide),Ig q c (by decide),i,a.dp,p2.symm,a.lm⟩,(j.grow5 a.e f m).st c (by decide) a.lm 5 v'⟩
theorem Da.putP{w:World}{v':Value}{d':List UInt8}(a:Da X B0 M T V n s vd ve vp)(j:FT B0 kM w X)(m:B0<=w.heap.size)(f:X.grownBy Y vp.ownBlock)(l:Y.ownsRow B0 5 1 v' d'.length (CR d'))(g:∀k,v'.ownBlock=some k->vp.ownBlock=some k\/X.heap.size<=k):Da (Y.setCell ⟨M,6,none⟩ v') B0 M T V n ⟨s.left,s.data,s.errs,d'⟩ vd ve v'/\FT B0 kM w (Y.setCell ⟨M,6,none⟩ v'):=by
 have c:=Ch a.p a.b (by decide) f;obtain⟨h,i⟩:=LL a.d a.dp f g;obtain⟨q,p2⟩:=LL a.e a.ep f g;exact⟨⟨AI c 6 v',Ig h c (by decide),Ig q c (by decide),Ig l c (by decide),a.de,i,p2,a.lm⟩,(j.grow5 a.p f m).st c (by decide) a.lm 6 v'⟩
theorem RA(X:World)(r:Option Nat):X.grownBy X r:=⟨rfl,rfl,rfl,wQ _,fun _ _ _=>rfl⟩
theorem Da.setL{w:World}(a:Da X B0 M T V n s vd ve vp)(c:FT B0 kM w X)(l:Int):Da (X.setCell ⟨M,3,none⟩ (.int .i64 l)) B0 M T V n ⟨l,s.data,s.errs,s.path⟩ vd ve vp/\FT B0 kM w (X.setCell ⟨M,3,none⟩ (.int .i64 l)):=
 ⟨⟨AI a.b 3 _,Ig a.d a.b (by decide),Ig a.e a.b (by decide),Ig a.p a.b (by decide),a.de,a.dp,a.ep,a.lm⟩,c.st a.b (by decide) a.lm 3 _⟩
theorem Da.slices(a:Da X B0 M T V n s vd ve vp):∃g j h k i l,vd=.slice g s.data.length j/\ve=.slice h s.errs.length k/\vp=.slice i s.path.length l:=by
 obtain⟨b,c1,m⟩:=An a.d;obtain⟨c,c2,q⟩:=An a.e;obtain⟨f,c3,r⟩:=An a.p;exact⟨b,c1,c,c2,f,c3,m,q,r⟩
end
theorem infoU8:(prog.info? 5).map (fun i=>(i.zero,i.size,i.bytes))=some (some (.int .u8 0),1,1):=by kernel_rfl
section
variable {w:World} {B0 M T V n:Nat} {s:Aj}
def AQ(w:World)(B0 M T V n:Nat)(v:Value)(a:Aj)(e:Ending)(w':World):Prop:=e=.returned v/\MK w' B0 M T V n a/\FT B0 kM w w'
theorem WS(g:MK w B0 M T V n s)(d:Eu s):Calls prog 119 #[.pointer (some ⟨M,0,none⟩)] w (AQ w B0 M T V n (.bool (decide (0<=s.left-1))) s.step):=by
 obtain⟨vd,ve,vp,a⟩:=g;have i:=d.l;have h:=d.h;have c:=Ac a.b;have f:=Ak a.b;have j:=Ab a.b;have e:=Aa (a.setL (FT.refl B0 kM w) (s.left-1));clear a d;unfold AQ;go_enter func119,ntmps119;go_wp2;go_ret;exact⟨Al (by simp),⟨vd,ve,vp,e.o.1⟩,e.o.2⟩
theorem Je(t:yF)(D:t.size<=100000000)(r:MK w B0 M T V n s)(j:Eu s)(k:B0<=w.heap.size):Calls prog 117 #[.pointer (some ⟨M,0,none⟩),.string t] w (AQ w B0 M T V n (.tuple #[]) (s.write t.data.toList)):=by
 obtain⟨vd,ve,vp,a⟩:=r;obtain⟨A,u,l⟩:=yC.1 infoU8;simp only[Prod.mk.injEq]at l;obtain⟨x,y,z⟩:=l;have hd:=j.d;have c:=Ac a.b;have F:=Ab a.b;have e:=Aa a;have g:=a.d;clear a j;unfold AQ;go_enter func117,ntmps117;go_wp2_with (at_builtin;refine KF _ rfl _ _ 69 9 rfl B0 5 A underlying69 underlying9 u x y z _ _ _ rfl g t rfl (by unfold maxLen;omega) (by omega) k ?_;intro v' w1 i f v;obtain⟨B,C,rfl⟩:=An i;have q:=Aa i;have m:=Aa f;have p:=Aa v;have c1:=Ac (Ch g e.o.b (by decide) f);have f1:=Ak (Ch g e.o.b (by decide) f);have E:=Ab (Ch g e.o.b (by decide) f));have h:=Aa (e.o.putD (d':=s.data++t.data.toList) (FT.refl B0 kM w) k m.o (by rw[Ev,<-LT];simpa using q.o) p.o);go_end0;exact⟨rfl,⟨_,ve,vp,h.o.1⟩,h.o.2⟩
end
theorem Kp{v:Value}{g H len cap:Nat}(a:v.ownBlock=some g\/g=H):∀k,(Value.slice (some ⟨g,0,none⟩) len cap).ownBlock=some k->v.ownBlock=some k\/H<=k:=fun k b=>by
 have e:g=k:=xD b;subst e;rcases a with q|q
 ·exact .inl q
 ·exact .inr (by omega)
section
variable {w:World} {B0 M T V n:Nat} {s:Aj}
theorem WI(t:yF)(ak:t.size<=100000000)(Z:MK w B0 M T V n s)(P:Eu s)(l:B0<=w.heap.size):Calls prog 120 #[.pointer (some ⟨M,0,none⟩),.string t] w (AQ w B0 M T V n (.int .i64 s.path.length) (s.enter t.data.toList)):=by
 obtain⟨ao,ap,aq,a⟩:=Z;obtain⟨H,C,R⟩:=yC.1 infoU8;simp only[Prod.mk.injEq]at R;obtain⟨E,F,G⟩:=R;have ai:=P.p;obtain⟨af,ag,rfl⟩:=An a.p;have h:=Aa a;clear P;unfold AQ;by_cases f:s.path=[]
 ·have ab:¬(0:Int)<s.path.length:=by rw[f];simp
  have c:=Ac a.b;have ad:=Ab a.b;have e:=a.p;have A:=Aa (show s.enter t.data.toList=⟨s.left,s.data,s.errs,s.path++t.data.toList⟩from by unfold Aj.enter Cf;rw[f];rfl);clear a f;go_enter func120,ntmps120;go_wp2_with (at_builtin;refine KF _ rfl _ _ 69 9 rfl B0 5 H underlying69 underlying9 C E F G _ _ _ rfl e t rfl (by unfold maxLen;omega) (by omega) l ?_;intro v' w1 j d D;obtain⟨W,X,rfl⟩:=An j;have z:=Aa j;have x:=Aa d;have y:=Aa D;have c1:=Ac (Ch e h.o.b (by decide) d);have f1:=Ak (Ch e h.o.b (by decide) d);have S:=Ab (Ch e h.o.b (by decide) d));have g:=Aa (h.o.putP (d':=s.path++t.data.toList) (FT.refl B0 kM w) l x.o (by rw[Ev,<-LT];simpa using z.o) y.o);go_ret;rw[A.o];exact⟨rfl,⟨_,_,_,g.o.1⟩,g.o.2⟩
 ·have aj:0<s.path.length:=List.length_pos_iff.2 f
  have ab:(0:Int)<s.path.length:=by omega
  have c:=Ac a.b;have ad:=Ab a.b;have e:=a.p;have A:=Aa (show s.enter t.data.toList=⟨s.left,s.data,s.errs,(s.path++[44])++t.data.toList⟩from by unfold Aj.enter Cf;rw[xG f]);have r:=Aa (h.o.below (bA (wR _ _) (.cells #[.int .u8 44] 5)));clear a f;go_enter func120,ntmps120;go_upto_region 4 with(at_builtin;refine wpList_append_lies _ rfl _ _ 69 rfl B0 5 H (.int .u8 0) 1 1 underlying69 C E F G rfl (by decide) _ _ _ rfl (e.alloc _) ⟨w.heap.size,0,none⟩ 1 1 [.int .u8 44] rfl rfl (cell_one_new _ _ _) (fun u Q=>by simp at Q;subst Q;rfl) (by decide) (by unfold maxLen;omega) (by omega) (by simp;omega) (w.heap.size+1) (by simp) ?_;intro Y L w1 O i N aa;have K:=Aa O;have J:=Aa i;have I:=Aa N;have c1:=Ac (Ch (e.alloc _) r.o.b (by decide) i);have f1:=Ak (Ch (e.alloc _) r.o.b (by decide) i);have S:=Ab (Ch (e.alloc _) r.o.b (by decide) i);clear i N aa O);obtain⟨m,B⟩:=r.o.putP (w:=w) (d':=s.path++[44]) (FT.of_below (bA (wR _ _) _) l) l J.o (by rw[Ev];simpa [CR]using K.o) (by have q:=Kp (len:=s.path.length+1) (cap:=L) I.o;rw[show(w.alloc (.cells #[.int .u8 44] 5)).heap.size=w.heap.size+1 from by simp];exact q);have z1:=B.size;generalize w1.setCell ⟨M,6,none⟩ (.slice (some ⟨Y,0,none⟩) (s.path.length+1) L)=ae at*;have v:=Aa m;have U:=Aa B;have c2:=Ac m.b;have al:=Ab m.b;have k:=m.p;simp only[xJ,List.length_singleton]at k;clear m B c1 f1 S K J I;go_wp2_with (at_builtin;refine KF _ rfl _ _ 69 9 rfl B0 5 H underlying69 underlying9 C E F G _ _ _ rfl k t rfl (by unfold maxLen;omega) (by omega) (by omega) ?_;intro v' w3 j d D;obtain⟨W,X,rfl⟩:=An j;have z:=Aa j;have x:=Aa d;have y:=Aa D;have c3:=Ac (Ch k v.o.b (by decide) d);have ah:=Ak (Ch k v.o.b (by decide) d);have am:=Ab (Ch k v.o.b (by decide) d));have g:=Aa (v.o.putP (d':=(s.path++[44])++t.data.toList) U.o l x.o (by rw[Ev,<-LT,xJ,xJ];exact z.o) y.o);go_ret;rw[A.o];exact⟨rfl,⟨_,_,_,g.o.1⟩,g.o.2⟩
theorem WL(k:Nat)(q:MK w B0 M T V n s)(m:Eu s)(d:k<=s.path.length):Calls prog 122 #[.pointer (some ⟨M,0,none⟩),.int .i64 k] w (AQ w B0 M T V n (.tuple #[]) (s.leave k)):=by
 obtain⟨D,E,F,a⟩:=q;have C:=m.p;have j:=Aa a;clear m;unfold AQ;rcases a.p.2 with⟨h,v⟩|⟨g,cap,u,h,A,t,x,y,z,r⟩
 ·subst h
  have l:k=0:=by omega
  subst l;have c:=Ac a.b;have f:=Ak a.b;have i:=Ab a.b;have e:=Aa (j.o.putP (Y:=w) (v':=.slice none 0 0) (d':=s.path.take 0) (FT.refl B0 kM w) (wV a.lm (Nat.le_of_lt i)) (RA _ _) (by show w.ownsRow B0 5 1 (.slice none 0 0) 0 [];exact xF _ _ _ _) (fun k d=>by cases d));clear a;go_enter func122,ntmps122;go_wp2;go_end0;exact⟨rfl,⟨_,_,_,e.o.1⟩,e.o.2⟩
 ·subst h
  have c:=Ac a.b;have f:=Ak a.b;have i:=Ab a.b;have B:(k:Int)<=cap:=by omega
  have l:(0:Int)<=k:=by omega
  have e:=Aa (j.o.putP (Y:=w) (v':=.slice (some ⟨g,0,none⟩) k cap) (d':=s.path.take k) (FT.refl B0 kM w) (wV a.lm (Nat.le_of_lt i)) (RA _ _) (by rw[Uk,List.length_take,Nat.min_eq_left d];exact Xv a.p d) (fun k d=>.inl d));clear a t r;go_enter func122,ntmps122;go_wp2;go_end0;exact⟨rfl,⟨_,_,_,e.o.1⟩,e.o.2⟩
theorem Pv(aK:MK w B0 M T V n s)(a3:s.errs.length<=70000000000000)(a6:s.path.length<=1000000000)(ar:s.path≠[])(x:B0<=w.heap.size):Calls prog 116 #[.pointer (some ⟨M,0,none⟩)] w (AQ w B0 M T V n (.int .i64 2) s.fail):=by
 obtain⟨ab,bc,ad,i⟩:=aK;obtain⟨Y,Q,au⟩:=yC.1 infoU8;simp only[Prod.mk.injEq]at au;obtain⟨U,W,X⟩:=au;obtain⟨aS,ah,rfl⟩:=An i.e;have aa:=Aa i;have a7:0<s.path.length:=List.length_pos_iff.2 ar;have aR:=Aa x;clear ar;unfold AQ;go_enter func116,ntmps116;have c:=Ac i.b;have I:=Ab i.b;have d:=i.e
 go_upto_if 8 with fail
 go_cut [] (fun wc=>∃Z,Da wc B0 M T V n ⟨s.left,s.data,Cf s.errs,s.path⟩ ab Z ad/\FT B0 kM w wc)
 case first=>
  by_cases j:s.errs=[]
  ·have aN:¬0<s.errs.length:=by rw[j];simp
   have z:=Aa (show(⟨s.left,s.data,Cf s.errs,s.path⟩:Aj)=s from by unfold Cf;rw[xH j,<-j]);clear i j;go_wp2;go_meet;rw[z.o];exact⟨_,aa.o,FT.refl _ _ _⟩
  ·have aN:0<s.errs.length:=List.length_pos_iff.2 j
   have z:=Aa (show Cf s.errs=s.errs++[44]from by unfold Cf;rw[xG j]);have K:=Aa (aa.o.below (bA (wR _ _) (.cells #[.int .u8 44] 5)));clear i j;go_wp2_with (at_builtin;refine wpList_append_lies _ rfl _ _ 69 rfl B0 5 Y (.int .u8 0) 1 1 underlying69 Q U W X rfl (by decide) _ _ _ rfl (d.alloc _) ⟨w.heap.size,0,none⟩ 1 1 [.int .u8 44] rfl rfl (cell_one_new _ _ _) (fun u S=>by simp at S;subst S;rfl) (by decide) (by unfold maxLen;omega) (by omega) (by simp;omega) (w.heap.size+1) (by simp) ?_;intro a1 aD w1 aq F ao aL;have aA:=Aa aq;have az:=Aa F;have av:=Aa ao;have c1:=Ac (Ch (d.alloc _) K.o.b (by decide) F);have f1:=Ak (Ch (d.alloc _) K.o.b (by decide) F);have a8:=Ab (Ch (d.alloc _) K.o.b (by decide) F);clear F ao aL aq);have h:=Aa (K.o.putE (w:=w) (d':=s.errs++[44]) (FT.of_below (bA (wR _ _) _) x) x az.o (by rw[Ev];simpa [CR]using aA.o) (by have q:=Kp (len:=s.errs.length+1) (cap:=aD) av.o;rw[show(w.alloc (.cells #[.int .u8 44] 5)).heap.size=w.heap.size+1 from by simp];exact q));go_meet;rw[z.o];exact⟨_,h.o.1,h.o.2⟩
 case rest=>
 obtain⟨Z,r,f1⟩:=hcut;clear i c I d aa;obtain⟨aT,aX,rfl⟩:=An r.e;have aO:(Cf s.errs).length<=s.errs.length+1:=by unfold Cf;split<;>simp
 have y:=Aa r;have ae:=Aa f1;have z1:=f1.size;have c:=Ac r.b;have I:=Ab r.b;have d:=r.e;clear r f1;go_upto_region 4 with(at_builtin;refine KF _ rfl _ _ 69 9 rfl B0 5 Y underlying69 underlying9 Q U W X _ _ _ rfl d _ rfl (by unfold maxLen;have e:(ByteArray.mk #[123,34,109,101,115,115,97,103,101,34,58,34,110,111,116,32,97,118,97,105,108,97,98,108,101,34,44,34,112,97,116,104,34,58,91]).size=35:=(by rfl);simp only[e];omega) (by have e:(ByteArray.mk #[123,34,109,101,115,115,97,103,101,34,58,34,110,111,116,32,97,118,97,105,108,97,98,108,101,34,44,34,112,97,116,104,34,58,91]).size=35:=(by rfl);simp only[e];omega) (by omega) ?_;intro v' w3 k a H;obtain⟨B,D,rfl⟩:=An k;have O:=Aa k;have L:=Aa a;have N:=Aa H;have c3:=Ac (Ch d y.o.b (by decide) a);have aJ:=Ak (Ch d y.o.b (by decide) a);have aQ:=Ab (Ch d y.o.b (by decide) a);clear k a H);have ai:(ByteArray.mk #[123,34,109,101,115,115,97,103,101,34,58,34,110,111,116,32,97,118,97,105,108,97,98,108,101,34,44,34,112,97,116,104,34,58,91]).data.toList=Gs:=rfl;obtain⟨p3,ak⟩:Da (w3.setCell ⟨M,5,none⟩ (.slice B ((Cf s.errs).length+35) D)) B0 M T V n ⟨s.left,s.data,Cf s.errs++Gs,s.path⟩ ab (.slice B ((Cf s.errs).length+35) D) ad/\FT B0 kM w (w3.setCell ⟨M,5,none⟩ (.slice B ((Cf s.errs).length+35) D)):=y.o.putE (d':=Cf s.errs++Gs) ae.o x L.o (by rw[Ev,<-ai,<-LT,xJ];exact O.o) N.o;have z3:=ak.size;generalize w3.setCell ⟨M,5,none⟩ (.slice B ((Cf s.errs).length+35) D)=A at*;have a4:(Cf s.errs++Gs).length<=s.errs.length+36:=by rw[xJ];have:Gs.length=35:=rfl;omega
 have f:=Aa p3;have af:=Aa ak;clear O L N c3 aJ aQ y ae c I d ai aO;obtain⟨aB,aE,aI⟩:=An p3.e;rw[aI]at p3 f;have v:=p3.e;have R:=p3.p;have c:=Ac p3.b;have I:=Ab p3.b;obtain⟨m,C,aP⟩:∃m C,ad=.slice (some ⟨m,0,none⟩) s.path.length C:=by
  rcases R.2 with⟨_,q⟩|⟨g,cap,aZ,aG,_⟩
  ·simp only[]at q;omega
  ·exact⟨g,cap,aG⟩
 subst aP;have ag:=Aa (R.cells (g:=m) rfl);generalize am:Cf s.errs++Gs=E at*;simp only[]at v R;have ah:A.cell? ⟨M,5,none⟩=some (.slice aB E.length aE):=Ac f.o.b 5;have aF:A.cell? ⟨M,6,none⟩=some (.slice (some ⟨m,0,none⟩) s.path.length C):=Ac f.o.b 6;clear c p3;go_cut [] (fun wc=>∃Z,Da wc B0 M T V n ⟨s.left,s.data,E++s.path,s.path⟩ ab Z (.slice (some ⟨m,0,none⟩) s.path.length C)/\FT B0 kM w wc)
 case first=>
  go_region_law (first|(refine step_append_lies _ (by rfl) _ _ _ (by rfl) B0 5 Y (.int .u8 0) 1 1 underlying69 Q U W X rfl (by decide) _ _ _ (by rfl) v.drew ⟨m,0,none⟩ s.path.length C (CR s.path) (by rfl) (by rw[bO,Nat.mul_one]) ag.o (fun u S=>by obtain⟨b,_,rfl⟩:=List.mem_map.1 S;rfl) (by omega) (by unfold maxLen;omega) (by omega) (by simp;omega) A.heap.size (by simp) ?_;intro a2 aW w5 l G ap aM;have aC:=Ac (Ch v.drew f.o.b (by decide) G);have P:=Ak (Ch v.drew f.o.b (by decide) G);have a9:=Ab (Ch v.drew f.o.b (by decide) G)));all_goals(
   have h:=Aa ((f.o.below (wR A.heap.size A).drew).putE (w:=w) (d':=E++s.path) af.o.dr x G (by rw[Ev,xJ];exact l) (Kp ap));clear G l ap aM;go_wp2;go_meet;exact⟨_,h.o.1,h.o.2⟩)
 case rest=>
 obtain⟨bd,t,P⟩:=hcut;have a5:(E++s.path).length<=s.errs.length+36+s.path.length:=by rw[xJ];omega
 generalize al:E++s.path=aj at*;obtain⟨aU,aY,rfl⟩:=An t.e;have J:=Aa t;have ay:=Aa P;have bf:=P.size;have aC:=Ac t.b;have bb:=Ab t.b;have l:=t.e;have ax:=Aa am;have aw:=Aa al;clear al;clear t P ah aF I v R f af ag am;go_wp2_with (at_builtin;refine KF _ rfl _ _ 69 9 rfl B0 5 Y underlying69 underlying9 Q U W X _ _ _ rfl l _ rfl (by unfold maxLen;have e:(ByteArray.mk #[93,125]).size=2:=(by rfl);simp only[e];omega) (by have e:(ByteArray.mk #[93,125]).size=2:=(by rfl);simp only[e];omega) (by omega) ?_;intro v' w7 k a H;obtain⟨B,D,rfl⟩:=An k;have O:=Aa k;have L:=Aa a;have N:=Aa H;have aV:=Ac (Ch l (by simpa using J.o.b) (by decide) a);have a0:=Ak (Ch l (by simpa using J.o.b) (by decide) a);have ba:=Ab (Ch l (by simpa using J.o.b) (by decide) a);clear k a H);have aH:(ByteArray.mk #[93,125]).data.toList=IX:=rfl;have h:=Aa (J.o.putE (d':=aj++IX) ay.o x L.o (by rw[Ev,<-aH,<-LT,xJ];exact O.o) N.o);have z:=Aa (show s.fail=⟨s.left,s.data,aj++IX,s.path⟩from by unfold Aj.fail;rw[<-aw.o,<-ax.o]);go_ret;rw[z.o];exact⟨rfl,⟨_,_,_,h.o.1⟩,h.o.2⟩
theorem Sg(k a:Nat)(st:Bool)(z:MK w B0 M T V n s)(A:Eu s)(W:k<=s.data.length)(U:s.data≠[])(Y:s.path≠[]\/st=false)(aF:a<=2)(B:B0<=w.heap.size):Calls prog 78 #[.pointer (some ⟨M,0,none⟩),.int .i64 k,.int .i64 a,.bool st] w (AQ w B0 M T V n (.bool (Cg k a st s).1) (Cg k a st s).2):=by
 have F:=z;obtain⟨ay,az,aA,j⟩:=z;obtain⟨au,al,Z⟩:=yC.1 infoU8;simp only[Prod.mk.injEq]at Z;obtain⟨ap,aq,ar⟩:=Z;have hd:=A.d;have L:=Aa A;have l:=Aa j;have f:=Aa (Cg.eq_1 k a st s);generalize Cg k a st s=D at*;unfold AQ;by_cases R:a=0
 ·subst R
  rw[xH rfl]at f;have h:=Aa (show D=(true,s)from f.o);have ab:=Aa F;clear j A F l f;go_enter func78,ntmps78;go_wp2;go_ret;rw[h.o];exact⟨rfl,ab.o,FT.refl _ _ _⟩
 ·rw[xG R]at f
  have aB:((a:Int)==0)=false:=by simp;omega
  clear F;obtain⟨g,x,rfl,aE⟩:∃g x,ay=.slice (some ⟨g,0,none⟩) s.data.length x/\s.data.length<=x:=by
   rcases j.d.2 with⟨_,aD⟩|⟨g,cap,aC,m,_,_,ax,_⟩
   ·have:=List.length_pos_iff.2 U;omega
   ·exact⟨g,cap,m,ax⟩
  have r:=Xv j.d W;have c:=Ac j.b;have aw:=Ab j.b;have aH:(k:Int)<=x:=by omega
  have aG:(0:Int)<=k:=by omega
  have ae:=Aa (fun(O:World) (C:Aj) (z:MK O B0 M T V n C) (ak:C.errs.length<=70000000000000) (ao:C.path.length<=1000000000) (am:C.path≠[]) (B:B0<=O.heap.size)=>Pv z ak ao am B);have aI:k<=70000000000000:=by omega
  have af:=Aa Y;clear j A Y U;go_enter func78,ntmps78;go_upto_region 4 with(at_builtin;refine KF _ rfl _ _ 69 9 rfl B0 5 au underlying69 underlying9 al ap aq ar _ _ _ rfl r _ rfl (by unfold maxLen;have e:(ByteArray.mk #[110,117,108,108]).size=4:=(by rfl);simp only[e];omega) (by have e:(ByteArray.mk #[110,117,108,108]).size=4:=(by rfl);simp only[e];omega) B ?_;intro v' w3 G q X;obtain⟨v,y,rfl⟩:=An G;have K:=Aa G;have I:=Aa q;have J:=Aa X;have c3:=Ac (Ch r l.o.b (by decide) q);have ah:=Ak (Ch r l.o.b (by decide) q);have av:=Ab (Ch r l.o.b (by decide) q);clear G q X);have P:(ByteArray.mk #[110,117,108,108]).data.toList=FR:=rfl;obtain⟨p3,E⟩:Da (w3.setCell ⟨M,4,none⟩ (.slice v (k+4) y)) B0 M T V n (s.cutNull k) (.slice v (k+4) y) az aA/\FT B0 kM w (w3.setCell ⟨M,4,none⟩ (.slice v (k+4) y)):=l.o.putD (d':=s.data.take k++FR) (FT.refl _ _ _) B I.o (by rw[Ev,Uk,<-P,<-LT,xJ,List.length_take,Nat.min_eq_left W];exact K.o) J.o;have z3:=E.size;generalize w3.setCell ⟨M,4,none⟩ (.slice v (k+4) y)=ag at*;have t:=Aa p3;have u:=Aa E;clear K I J c3 ah av p3 E P c aw r l;by_cases i:a=1/\st=true
  ·rw[xH i]at f
   have h:=Aa (show D=(!st,(s.cutNull k).fail)from f.o);obtain⟨ai,aj⟩:=i;subst ai aj;have H:=Aa (ae.o ag (s.cutNull k) ⟨_,_,_,t.o⟩ L.o.e L.o.p (af.o.resolve_right (by simp)) (by omega));unfold AQ at H;go_wp2_with fail;refine H.o.mono ?_;rintro _ w5 ⟨rfl,S,Q⟩;have ad:=Aa S;have aa:=Aa (u.o.trans Q);clear S Q;go_wp2;go_ret;rw[h.o];exact⟨rfl,ad.o,aa.o⟩
  ·rw[xG i]at f
   have h:=Aa (show D=(!st,s.cutNull k)from f.o);cases st
   ·by_cases m:a=1
    ·have N:((a:Int)==1)=true:=by rw[m];rfl
     clear i m;go_wp2;go_ret;rw[h.o];exact⟨rfl,⟨_,_,_,t.o⟩,u.o⟩
    ·have N:((a:Int)==1)=false:=by simp;omega
     clear i m;go_wp2;go_ret;rw[h.o];exact⟨rfl,⟨_,_,_,t.o⟩,u.o⟩
   ·have N:((a:Int)==1)=false:=by simp at i;simp;omega
    clear i;go_wp2;go_ret;rw[h.o];exact⟨rfl,⟨_,_,_,t.o⟩,u.o⟩
end
structure Gw(w:World)(B0:Nat)(v:Value)(X:World)(u:Value)(d:List UInt8):Prop where
 own:X.ownsRow B0 5 1 u d.length (CR d)
 gr:w.grownBy X v.ownBlock
 li:∀k,u.ownBlock=some k->v.ownBlock=some k\/w.heap.size<=k
section
variable {w X Y:World} {B0:Nat} {v u u':Value} {d d':List UInt8}
theorem Gw.refl(a:w.ownsRow B0 5 1 v d.length (CR d)):Gw w B0 v w v d:=⟨a,RA _ _,fun _ a=>.inl a⟩
theorem Gw.alloc(a:Gw w B0 v X u d)(o:Obj):Gw w B0 v (X.alloc o) u d:=⟨a.own.alloc o,a.gr.trans (World.grownBy_alloc X o _),a.li⟩
theorem Gw.next(a:Gw w B0 v X u d)(h:Y.ownsRow B0 5 1 u' d'.length (CR d'))(b:X.grownBy Y u.ownBlock)(g:∀k,u'.ownBlock=some k->u.ownBlock=some k\/X.heap.size<=k):Gw w B0 v Y u' d':=
 ⟨h,⟨b.os.trans a.gr.os,b.tape.trans a.gr.tape,b.output.trans a.gr.output,wV a.gr.size b.size,fun k c f=>(b.block k (xA c a.gr.size) (fun e=>by
   rcases a.li k e.symm with q|q
   ·exact f q.symm
   ·omega)).trans (a.gr.block k c f)⟩,fun k c=>by
   rcases g k c with q|q
   ·exact a.li k q
   ·exact .inr (wV a.gr.size q)⟩
end
theorem eM(c:UInt8):(BQ c).length<=2:=by unfold BQ;(repeat' split)<;>simp
theorem Rn:∀l:List UInt8,(l.flatMap BQ).length<=2*l.length
 |[]=>by simp
 |c::l=>by rw[List.flatMap_cons,xJ,xU];have:=eM c;have:=Rn l;omega
theorem eW(l:List UInt8)(k:Nat)(c:UInt8)(a:l[k]?=some c):(l.take (k+1)).flatMap BQ=(l.take k).flatMap BQ++BQ c:=by
 rw[xL,a,List.flatMap_append];simp
theorem Xn{a b:Value}(d:a.oneCell'=true)(hb:b.oneCell'=true):∀u∈[a,b],u.oneCell'=true:=fun u c=>by
 rcases yE.1 c with rfl|c
 ·exact d
 ·rw[List.mem_singleton]at c;rw[c];exact hb
theorem Sf(w:World)(B0:Nat)(v:Value)(d:List UInt8)(t:yF)(H:w.ownsRow B0 5 1 v d.length (CR d))(hd:d.length<=70000000000000)(ai:t.size<=100000000)(ab:B0<=w.heap.size):
 Calls prog 165 #[v,.string t] w fun e w'=>∃v',e=.returned v'/\Gw w B0 v w' v' (d++Bo t.data.toList):=by
 obtain⟨x,n,R⟩:=yC.1 infoU8;simp only[Prod.mk.injEq]at R;obtain⟨p,r,s⟩:=R;obtain⟨U,W,rfl⟩:=An H;have M:=Aa (Gw.refl H);have O:=H.alloc (.cells #[.int .u8 34] 5);clear H;go_enter func165,ntmps165;go_upto_region 2 with(at_builtin;refine wpList_append_lies _ rfl _ _ 69 rfl B0 5 x (.int .u8 0) 1 1 underlying69 n p r s rfl (by decide) _ _ _ rfl O ⟨w.heap.size,0,none⟩ 1 1 [.int .u8 34] rfl rfl (cell_one_new _ _ _) (fun u i=>by simp at i;subst i;rfl) (by decide) (by unfold maxLen;omega) (by omega) (by simp;omega) (w.heap.size+1) (by simp) ?_;intro G h w1 a b f C);have T:=Aa ((M.o.alloc (.cells #[.int .u8 34] 5)).next (d':=d++[34]) (by rw[Ev,xJ];exact a) b (by have q:=Kp (len:=d.length+1) (cap:=h) f;rw[show(w.alloc (.cells #[.int .u8 34] 5)).heap.size=w.heap.size+1 from by simp];exact q));clear a b f C O M;go_wp2;go_loopg [0,5,6,12] t.size (fun m v0 v5 v6 v12 wr=>∃(k:Nat) (u:Value),v12=.int .i64 k/\k<=t.size/\t.size-k<=m/\v0=u/\Gw w B0 (.slice U d.length W) wr u (d++34::(t.data.toList.take k).flatMap BQ))
 case atStart=>exact⟨0,_,rfl,wZ _,wQ _,rfl,by simpa using T.o⟩
 case round=>
  obtain⟨k,u,rfl,af,ag,rfl,B⟩:=hrel;have ah:(d++34::(t.data.toList.take k).flatMap BQ).length<=d.length+1+2*k:=by
   have:=Rn (t.data.toList.take k);rw[List.length_take]at this;rw[xJ,xU];omega
  generalize I:d++34::(t.data.toList.take k).flatMap BQ=D at*;obtain⟨ad,ae,rfl⟩:=An B.own;have y:=Aa B;have F:=B.own;have N:B0<=wr.heap.size:=wV ab B.gr.size;clear B;by_cases aa:k<t.size
  ·have aj:0<=(t[k].toNat:Int):=by omega
   have ak:(t[k].toNat:Int)<=255:=by have:=t[k].toNat_lt;omega
   have Q:t.data.toList[k]?=some t[k]:=by
    rw[wS (by simpa using aa)];rfl
   have z:=Aa (show∀E,BQ t[k]=E->D++E=d++34::(t.data.toList.take (k+1)).flatMap BQ from fun E Y=>by rw[eW _ _ _ Q,<-I,Y];simp);have K:=F.alloc (.cells #[.int .u8 (t[k].toNat:Int)] 5);have P:=F.alloc (.cells #[.int .u8 92,.int .u8 (t[k].toNat:Int)] 5);clear Q I;cases j:((t[k].toNat:Int)==34)
   ·cases l:((t[k].toNat:Int)==92)
    ·cases A:((t[k].toNat:Int)==10)
     ·cases J:((t[k].toNat:Int)==9)
      ·have g:=Aa (z.o [t[k]] (by unfold BQ;rw[xG (by rintro(e|e)<;>rw[e]at j l<;>simp at j l),xG (by intro e;rw[e]at A;simp at A),xG (by intro e;rw[e]at J;simp at J)]))
       go_wp2_with (at_builtin;refine wpList_append_lies _ rfl _ _ 69 rfl B0 5 x (.int .u8 0) 1 1 underlying69 n p r s rfl (by decide) _ _ _ rfl K ⟨wr.heap.size,0,none⟩ 1 1 [.int .u8 (t[k].toNat:Int)] rfl rfl (cell_one_new _ _ _) (fun u i=>by simp at i;subst i;rfl) (by decide) (by unfold maxLen;omega) (by omega) (by simp;omega) (wr.heap.size+1) (by simp) ?_;intro G h w1 a b f C);have c:=Aa ((y.o.alloc (.cells #[.int .u8 (t[k].toNat:Int)] 5)).next (d':=D++[t[k]]) (by rw[Ev,xJ];exact a) b (by have q:=Kp (len:=D.length+1) (cap:=h) f;rw[show(wr.alloc (.cells #[.int .u8 (t[k].toNat:Int)] 5)).heap.size=wr.heap.size+1 from by simp];exact q));go_roundg (t.size-(k+1))
       case measure=>omega
       case rel=>exact⟨k+1,_,by go_num,by omega,wQ _,rfl,by rw[<-g.o];exact c.o⟩
      ·have g:=Aa (z.o [92,116] (by unfold BQ;rw[xG (by rintro(e|e)<;>rw[e]at j l<;>simp at j l),xG (by intro e;rw[e]at A;simp at A),xH (Fa (by simpa using J))]))
       go_wp2_with (at_builtin;refine KF _ rfl _ _ 69 9 rfl B0 5 x underlying69 underlying9 n p r s _ _ _ rfl F _ rfl (by unfold maxLen;have e:(ByteArray.mk #[92,116]).size=2:=(by rfl);simp only[e];omega) (by have e:(ByteArray.mk #[92,116]).size=2:=(by rfl);simp only[e];omega) N ?_;intro v' w1 a b L;obtain⟨V,X,rfl⟩:=An a);have c:=Aa (y.o.next (d':=D++[92,116]) (by rw[Ev,xJ];exact a) b L);go_roundg (t.size-(k+1))
       case measure=>omega
       case rel=>exact⟨k+1,_,by go_num,by omega,wQ _,rfl,by rw[<-g.o];exact c.o⟩
     ·have g:=Aa (z.o [92,110] (by unfold BQ;rw[xG (by rintro(e|e)<;>rw[e]at j l<;>simp at j l),xH (Fa (by simpa using A))]))
      go_wp2_with (at_builtin;refine KF _ rfl _ _ 69 9 rfl B0 5 x underlying69 underlying9 n p r s _ _ _ rfl F _ rfl (by unfold maxLen;have e:(ByteArray.mk #[92,110]).size=2:=(by rfl);simp only[e];omega) (by have e:(ByteArray.mk #[92,110]).size=2:=(by rfl);simp only[e];omega) N ?_;intro v' w1 a b L;obtain⟨V,X,rfl⟩:=An a);have c:=Aa (y.o.next (d':=D++[92,110]) (by rw[Ev,xJ];exact a) b L);go_roundg (t.size-(k+1))
      case measure=>omega
      case rel=>exact⟨k+1,_,by go_num,by omega,wQ _,rfl,by rw[<-g.o];exact c.o⟩
    ·have g:=Aa (z.o [92,t[k]] (by unfold BQ;rw[xH (.inr (Fa (by simpa using l)))]))
     go_wp2_with (at_builtin;refine wpList_append_lies _ rfl _ _ 69 rfl B0 5 x (.int .u8 0) 1 1 underlying69 n p r s rfl (by decide) _ _ _ rfl P ⟨wr.heap.size,0,none⟩ 2 2 [.int .u8 92,.int .u8 (t[k].toNat:Int)] rfl rfl (Cz _ _ _ _ (by simp)) (Xn rfl rfl) (by decide) (by unfold maxLen;omega) (by omega) (by simp;omega) (wr.heap.size+1) (by simp) ?_;intro G h w1 a b f C);have c:=Aa ((y.o.alloc (.cells #[.int .u8 92,.int .u8 (t[k].toNat:Int)] 5)).next (d':=D++[92,t[k]]) (by rw[Ev,xJ];exact a) b (by have q:=Kp (len:=D.length+2) (cap:=h) f;rw[show(wr.alloc (.cells #[.int .u8 92,.int .u8 (t[k].toNat:Int)] 5)).heap.size=wr.heap.size+1 from by simp];exact q));go_roundg (t.size-(k+1))
     case measure=>omega
     case rel=>exact⟨k+1,_,by go_num,by omega,wQ _,rfl,by rw[<-g.o];exact c.o⟩
   ·have g:=Aa (z.o [92,t[k]] (by unfold BQ;rw[xH (.inl (Fa (by simpa using j)))]))
    go_wp2_with (at_builtin;refine wpList_append_lies _ rfl _ _ 69 rfl B0 5 x (.int .u8 0) 1 1 underlying69 n p r s rfl (by decide) _ _ _ rfl P ⟨wr.heap.size,0,none⟩ 2 2 [.int .u8 92,.int .u8 (t[k].toNat:Int)] rfl rfl (Cz _ _ _ _ (by simp)) (Xn rfl rfl) (by decide) (by unfold maxLen;omega) (by omega) (by simp;omega) (wr.heap.size+1) (by simp) ?_;intro G h w1 a b f C);have c:=Aa ((y.o.alloc (.cells #[.int .u8 92,.int .u8 (t[k].toNat:Int)] 5)).next (d':=D++[92,t[k]]) (by rw[Ev,xJ];exact a) b (by have q:=Kp (len:=D.length+2) (cap:=h) f;rw[show(wr.alloc (.cells #[.int .u8 92,.int .u8 (t[k].toNat:Int)] 5)).heap.size=wr.heap.size+1 from by simp];exact q));go_roundg (t.size-(k+1))
    case measure=>omega
    case rel=>exact⟨k+1,_,by go_num,by omega,wQ _,rfl,by rw[<-g.o];exact c.o⟩
  ·have Z:k=t.size:=by omega
   subst Z;have K:=F.alloc (.cells #[.int .u8 34] 5);have S:=Aa (show d++Bo t.data.toList=D++[34]from by
    rw[<-I];unfold Bo;rw[xB (by simp)];simp)
   clear I;go_wp2_with (at_builtin;refine wpList_append_lies _ rfl _ _ 69 rfl B0 5 x (.int .u8 0) 1 1 underlying69 n p r s rfl (by decide) _ _ _ rfl K ⟨wr.heap.size,0,none⟩ 1 1 [.int .u8 34] rfl rfl (cell_one_new _ _ _) (fun u i=>by simp at i;subst i;rfl) (by decide) (by unfold maxLen;omega) (by omega) (by simp;omega) (wr.heap.size+1) (by simp) ?_;intro G h w1 a b f C);have c:=Aa ((y.o.alloc (.cells #[.int .u8 34] 5)).next (d':=D++[34]) (by rw[Ev,xJ];exact a) b (by have q:=Kp (len:=D.length+1) (cap:=h) f;rw[show(wr.alloc (.cells #[.int .u8 34] 5)).heap.size=wr.heap.size+1 from by simp];exact q));go_ret;rw[S.o];exact⟨_,rfl,c.o⟩
def GM(w0:World):Prop:=∀(W:World),yG w0 W->∀n:Int, -9223372036854775808<=n->n<=9223372036854775807->Calls prog 267 #[.int .i64 n] W fun e w'=>e=.returned (.string ⟨(AH n).toArray⟩)/\yG W w'
theorem GM.below{w0 w:World}(a:GM w0)(hb:yG w0 w):GM w:=fun W d n b c=>a W (bT hb d) n b c
section
variable {w:World} {B0 M T V n:Nat} {s:Aj}
theorem Da.putG{a Y:World}{c d e v':Value}{d':List UInt8}(f:Da a B0 M T V n s c d e)(g:FT B0 kM w a)(h:B0<=w.heap.size)(b:Gw a B0 c Y v' d'):Da (Y.setCell ⟨M,4,none⟩ v') B0 M T V n ⟨s.left,d',s.errs,s.path⟩ v' d e/\FT B0 kM w (Y.setCell ⟨M,4,none⟩ v'):=f.putD g h b.gr b.own b.li
theorem oB(O:GM w)(k:Nat)(m:Int)(t:yF)(ag: -9223372036854775808<=m)(ah:m<=9223372036854775807)(ax:(AH m).length<=100)(K:t.size<=100000000)(r:MK w B0 M T V n s)(J:Eu s)(v:B0<=w.heap.size):Calls prog 251 #[.pointer (some ⟨M,0,none⟩),.agg #[.int .i64 k,.int .i64 m,.string t]] w (AQ w B0 M T V n (.tuple #[]) (s.write (Kw k m t))):=by
 have c:=Aa (show yG w (w.alloc (.cells #[.int .i64 k,.int .i64 m,.string t] 154))from bA (wR _ _) _);have Y:=Aa (fun W (g:yG w W)=>O W g m ag ah);have a:=Aa (Kw.eq_1 k m t);generalize Kw k m t=y at*;have A:=Aa (fun(x:World) (t:yF) (K:t.size<=100000000) (r:MK x B0 M T V n s) (v:B0<=x.heap.size)=>Je t K r J v);have H:=Aa r;have ai:=J.d;clear O r J;unfold AQ at A⊢;have E:B0<=(w.alloc (.cells #[.int .i64 k,.int .i64 m,.string t] 154)).heap.size:=by simp;omega
 have P:∀(x w':World) (l:List UInt8),yG w x->y=l->MK w' B0 M T V n (s.write l)/\FT B0 kM x w'->MK w' B0 M T V n (s.write y)/\FT B0 kM w w':=fun x w' l af e r=>by rw[e];exact⟨r.1,(FT.of_below af v).trans r.2⟩
 have G:=Aa P;clear P;by_cases Q:k=1
 ·subst Q
  rw[xH rfl]at a;go_enter func251,ntmps251;go_wp2_with fail;refine(Y.o _ c.o).mono ?_;rintro _ w2 ⟨rfl,C⟩;have ae:B0<=w2.heap.size:=wV E C.size;have z:=Aa (H.o.below (bT c.o C));have aa:=Aa (bT c.o C);clear C;go_wp2_with fail;refine(A.o w2 ⟨(AH m).toArray⟩ (by show(AH m).toArray.size<=_;simp;omega) z.o ae).mono ?_;rintro _ w3 ⟨rfl,q,p⟩;have f:=Aa (G.o w2 w3 (AH m) aa.o a.o ⟨by simpa using q,p⟩);clear q p;go_wp2;go_end0;exact⟨rfl,f.o.1,f.o.2⟩
 ·rw[xG Q]at a
  have ak:((k:Int)==1)=false:=by simp;omega
  by_cases k2:k=2
  ·subst k2
   rw[xH rfl]at a;obtain⟨aB,aC,aD,i⟩:=H.o.below c.o;obtain⟨B,D,rfl⟩:=An i.d;have X:=Aa (show FT B0 kM w (w.alloc (.cells #[.int .i64 ((2:Nat):Int),.int .i64 m,.string t] 154))from FT.of_below c.o v);have au:(w.alloc (.cells #[.int .i64 ((2:Nat):Int),.int .i64 m,.string t] 154)).cell? ⟨w.heap.size,2,none⟩=some (.string t):=Ac (wX w _) 2;have aA:w.heap.size<(w.alloc (.cells #[.int .i64 ((2:Nat):Int),.int .i64 m,.string t] 154)).heap.size:=by simp
   go_enter func251,ntmps251;go_wp2_with fail;generalize w.alloc (.cells #[.int .i64 ((2:Nat):Int),.int .i64 m,.string t] 154)=j at*;have aj:=Aa i;have Z:=Aa (fun W (g:yG j W)=>Sf W B0 (.slice B s.data.length D) s.data t (AT i.d g) ai K (wV E g.size));have z:=Aa (fun W (g:yG j W) w2 u d (h:Gw W B0 (.slice B s.data.length D) w2 u d)=>Ch (AT i.d g) (i.below g).b (by decide) h.gr);have L:=Aa (fun W (g:yG j W) w2 u d (h:Gw W B0 (.slice B s.data.length D) w2 u d)=>(i.below g).putG (w:=w) (X.o.bt g v) v h);have aq:j.cell? ⟨M,4,none⟩=some (.slice B s.data.length D):=Ac i.b 4;have ay:=Ab i.b;clear i;generalize N:s.data++Bo t.data.toList=U at*;have I:=Aa (show s.write y=⟨s.left,U,s.errs,s.path⟩from by rw[a.o];unfold Aj.write;rw[N]);clear N;go_region_with (go_at_call 165;refine(Z.o _ ?_).mono ?_;(first|exact(wR _ _).drew|exact wR _ _);rintro _ w2 ⟨v',rfl,h⟩;obtain⟨ap,av,rfl⟩:=An h.own;have F:=(by first|exact z.o j (wR _ _) _ _ _ h|exact z.o j.drew (wR _ _).drew _ _ _ h);have ar:=Ac F;have aw:=Ak F;have az:=Ab F);all_goals(
    have f:=Aa (by first|exact L.o j (wR _ _) _ _ _ h|exact L.o j.drew (wR _ _).drew _ _ _ h);clear h F;go_wp2;go_end0;have ab:=f.o.1;have ad:=f.o.2;rw[I.o];exact⟨rfl,⟨_,_,_,ab⟩,ad⟩)
  ·rw[xG k2]at a
   have al:((k:Int)==2)=false:=by simp;omega
   by_cases R:k=3
   ·subst R
    rw[xH rfl]at a;go_enter func251,ntmps251;go_wp2_with fail;refine(A.o _ _ (by decide) (H.o.below c.o) E).mono ?_;rintro _ w3 ⟨rfl,q,p⟩;have f:=Aa (G.o _ w3 Qq c.o a.o ⟨q,p⟩);clear q p;go_wp2;go_end0;exact⟨rfl,f.o.1,f.o.2⟩
   ·rw[xG R]at a
    have am:((k:Int)==3)=false:=by simp;omega
    by_cases S:k=4
    ·subst S
     rw[xH rfl]at a;go_enter func251,ntmps251;go_wp2_with fail;refine(A.o _ _ (by decide) (H.o.below c.o) E).mono ?_;rintro _ w3 ⟨rfl,q,p⟩;have f:=Aa (G.o _ w3 Ol c.o a.o ⟨q,p⟩);clear q p;go_wp2;go_end0;exact⟨rfl,f.o.1,f.o.2⟩
    ·rw[xG S]at a
     have ao:((k:Int)==4)=false:=by simp;omega
     have I:=Aa (show s.write y=s from by rw[a.o];unfold Aj.write;simp);go_enter func251,ntmps251;go_wp2;go_end0;rw[I.o];exact⟨rfl,H.o.below c.o,FT.of_below c.o v⟩
theorem To(s:Aj)(a b:List UInt8):(s.write a).write b=s.write (a++b):=by unfold Aj.write;simp
theorem WX(x:yF):∀(l:List yF) (i:Nat),Dp i (l++[x])=Dp i l++((if 0<i+l.length then [44]else [])++Bo x.data.toList)
 |[],i=>by simp[Dp]
 |y::l,i=>by
  rw[List.cons_append,Dp,WX x l (i+1),Dp];have:i+1+l.length=i+(y::l).length:=by simp;omega
  rw[this];simp
theorem Qc(l:List UInt8):(Bo l).length<=2*l.length+2:=by
 unfold Bo;have:=Rn l;rw[xU,xJ,List.length_singleton];omega
theorem WW(B:Nat):∀(l:List yF) (i:Nat),(∀x∈l,x.size<=B)->(Dp i l).length<=l.length*(2*B+3)
 |[],i,_=>by simp[Dp]
 |x::l,i,a=>by
  rw[Dp,xJ,xJ,xU,Nat.succ_mul];have c:=WW B l (i+1) (fun y b=>a y (yA _ b));have d:=Qc x.data.toList;have e:x.data.toList.length<=B:=a x yB;have f:(if 0<i then [44]else []:List UInt8).length<=1:=by split<;>simp
  omega
theorem WP(l:List yF)(ab:Value)(K:∀q,FT B0 kM w q->DU q ab l)(aM:l.length<=10000)(L:∀x∈l,x.size<=100000)(A:MK w B0 M T V n s)(c:Eu s)(aN:s.data.length<=60000000000000)(y:B0<=w.heap.size):Calls prog 218 #[.pointer (some ⟨M,0,none⟩),ab] w (AQ w B0 M T V n (.tuple #[]) (s.write (GE l))):=by
 obtain⟨aE,cl,aA,_⟩:=K w (FT.refl _ _ _);subst aA;have am:=Aa K;have Q:=Aa (fun(a:List UInt8) (aL:a.length<=3000000000)=>(show Eu (s.write a)from⟨by show(s.data++a).length<=_;rw[xJ];omega,c.e,c.p,c.l,c.h⟩));have k:=Aa (fun(q:World) (aa:Aj) (t:yF) (P:t.size<=100000000) (A:MK q B0 M T V n aa) (c:Eu aa) (y:B0<=q.heap.size)=>Je t P A c y);have al:=Aa c;have H:=Aa A;have ah:=Aa L;have aj:=Aa (fun t=>WW 100000 (l.take t) 0 (fun x h=>L x (List.mem_of_mem_take h)));unfold AQ at k⊢;clear K A c L;go_enter func218,ntmps218;go_wp2_with fail;refine(k.o w s _ (by decide) H.o al.o y).mono ?_;rintro _ w1 ⟨rfl,U,f1⟩;have ai:=Aa (show MK w1 B0 M T V n (s.write (91::Dp 0 (l.take 0)))from U);have af:=Aa f1;clear U f1;go_wp2;go_loopg [4,5,10] l.length (fun m v4 v5 v10 wr=>∃t:Nat,v10=.int .i64 t/\t<=l.length/\l.length-t<=m/\MK wr B0 M T V n (s.write (91::Dp 0 (l.take t)))/\FT B0 kM w wr)
 case atStart=>exact⟨0,rfl,wZ _,wQ _,ai.o,af.o⟩
 case round=>
  obtain⟨t,rfl,az,aO,O,v⟩:=hrel;have i:=Aa O;have z:=Aa v;have aP:=v.size;have ay:(Dp 0 (l.take t)).length<=10000*200003:=by
   refine wV (aj.o t) (Nat.mul_le_mul_right _ ?_);rw[List.length_take];omega
  by_cases N:t<l.length
  ·have h:=wS N
   generalize l[t]=x at h;obtain⟨aF,aI,Z,_,av⟩:=am.o wr v;obtain⟨g,aD,e,X⟩:=av.resolve_left (fun e=>by rw[e]at N;simp at N);have au:=(Value.slice.inj Z).1;clear Z;subst au;subst e;have S:wr.cell? ⟨g,aD+t,none⟩=some (.string x):=X t x h;have aC:=wW wr _ S;have ao:=Aa (ah.o x (wT h));have ae:=Aa (show(s.write (91::Dp 0 (l.take (t+1))))=(s.write ((91::Dp 0 (l.take t))++(if 0<t then [44]else []))).write (Bo x.data.toList)from by
    rw[To,xL,h,Option.toList_some,WX,List.length_take,Nat.zero_add,Nat.min_eq_left az];simp)
   clear O v X h
   go_upto_if 16 with fail
   go_cut [] (fun wc=>MK wc B0 M T V n (s.write ((91::Dp 0 (l.take t))++(if 0<t then [44]else [])))/\FT B0 kM w wc)
   case first=>
    by_cases Y:0<t
    ·have G:=Aa (k.o wr _ ⟨#[44]⟩ (by decide) i.o (Q.o _ (by rw[xU];omega)) (by omega))
     go_wp2_with fail;refine G.o.mono ?_;rintro _ w3 ⟨rfl,u,r⟩;have E:=Aa u;have D:=Aa (z.o.trans r);clear u r;go_wp2;go_meet;exact⟨by rw[xH Y,<-To];exact E.o,D.o⟩
    ·go_wp2
     go_meet;exact⟨by rw[xG Y,List.append_nil];exact i.o,z.o⟩
   case rest=>
   obtain⟨ax,J⟩:=hcut;have aw:(s.write ((91::Dp 0 (l.take t))++(if 0<t then [44]else []))).data.length<=70000000000000:=by
    show(s.data++_).length<=_;rw[xJ,xJ,xU];have:(if 0<t then [44]else []:List UInt8).length<=1:=by split<;>simp
    omega
   generalize s.write ((91::Dp 0 (l.take t))++(if 0<t then [44]else []))=f at*;obtain⟨aR,aS,aT,j⟩:=ax;obtain⟨ap,ar,rfl⟩:=An j.d;have I:=Aa j;have ag:=Aa J;have ak:=Aa (Sf wc B0 (.slice ap f.data.length ar) f.data x j.d aw (wV ao.o (by decide)) (wV y J.size));have aq:=Ac j.b;have aB:=Ab j.b;generalize W:f.data++Bo x.data.toList=ad at*;have F:=Aa (show f.write (Bo x.data.toList)=⟨f.left,ad,f.errs,f.path⟩from by unfold Aj.write;rw[W]);clear j J W S aC i z k;go_wp2_with fail;refine ak.o.mono ?_;rintro _ w5 ⟨v',rfl,C⟩;obtain⟨aG,aJ,rfl⟩:=An C.own;have B:=Ch I.o.d I.o.b (by decide) C.gr;have aH:=Ac B;have aK:=Ak B;have aQ:=Ab B;have R:=Aa (I.o.putG ag.o y C);clear C B aq aB;go_wp2;go_roundg (l.length-(t+1))
   case measure=>omega
   case rel=>exact⟨t+1,by go_num,by omega,wQ _,by rw[ae.o,F.o];exact⟨_,_,_,R.o.1⟩,R.o.2⟩
  ·have P:t=l.length:=by omega
   subst P;rw[List.take_length]at i ay;have G:=Aa (k.o wr _ ⟨#[93]⟩ (by decide) i.o (Q.o _ (by rw[xU];omega)) (by omega));have F:=Aa (show(s.write (91::Dp 0 l)).write [93]=s.write (GE l)from by rw[To];rfl);clear O v i;go_wp2_with fail;refine G.o.mono ?_;rintro _ w3 ⟨rfl,u,r⟩;have E:=Aa u;have D:=Aa (z.o.trans r);clear u r;go_wp2;go_end0;rw[<-F.o];exact⟨rfl,E.o,D.o⟩
end
theorem FT.strs{B0 B:Nat}{w a:World}{v:Value}{l:List yF}(b:FT B0 kM w a)(c:w.ownsRow B 9 1 v l.length (Bn l)):DU a v l:=DU.of_own (b.own c (by decide))
section
variable {w:World} {S:Nat} {vR vO vI vU vN:Value} {LR:List (Au×Value)} {LO:List AX} {LI:List (At×Value)} {LU:List (Aw×Value)} {names:List yF} {B0 M T V n:Nat} {s:Aj}
theorem oE(d:SV w S vR vO vI vU vN LR LO LI LU names){vL u:Value}(l:w.heap[T]?=some (.cells #[vL,.pointer (some ⟨S,0,none⟩),u] 67 (0,0)))(H:∀x∈names,x.size<=100000)(C:MK w B0 M T V n s)(I:Eu s)(ai:s.data.length<=60000000000000)(K:B0<=w.heap.size):Calls prog 166 #[.pointer (some ⟨M,0,none⟩)] w (AQ w B0 M T V n (.tuple #[]) (s.write (GE names))):=by
 obtain⟨ap,ae,L⟩:=yC.1 info9';simp only[Prod.mk.injEq]at L;obtain⟨al,am,ao⟩:=L;have z:=Aa (fun(W:World) (E:yG w W) (v:Value) (f:W.ownsRow w.heap.size 9 1 v names.length (Bn names))=>WP (w:=W) names v (fun aq ab=>ab.strs f) (by have:=d.ln;omega) H (C.below E) I ai (wV K E.size));obtain⟨aJ,aK,aL,c⟩:=C;have av:=Ac c.b;have aF:=Ab c.b;have ay:=Ac l;have aH:=Ab l;have ax:=Ac d.sc;have aG:=Ab d.sc;obtain⟨Y,aw,rfl⟩:=An d.n;have A:=Aa d.n;have aC:=d.ln;unfold AQ at z⊢;clear c l d I H;go_enter func166,ntmps166;go_wp2;go_loopg [2,4,16] names.length (fun m v2 v4 v16 wr=>∃(t:Nat) (a:List yF),v16=.int .i64 t/\t<=names.length/\names.length-t<=m/\yG w wr/\wr.ownsRow w.heap.size 9 1 v2 a.length (Bn a)/\a=names.take t)
 case atStart=>exact⟨0,[],rfl,wZ _,wQ _,wR _ _,xF _ _ _ _,rfl⟩
 case round=>
  obtain⟨t,a,rfl,aD,aE,hb,f,p⟩:=hrel;have y:=Aa hb;have R:=Aa f;have i:=Aa p;obtain⟨ar,cl,rfl⟩:=An f;have ak:a.length<=804:=by rw[p,List.length_take];omega
  clear p;by_cases ah:t<names.length
  ·have c:=wS ah
   generalize names[t]=x at c;have G:(Bn names)[t]?=some (.string x):=by unfold Bn;rw[xI,c];rfl
   obtain⟨h,ad⟩:∃h,Y=some ⟨h,0,none⟩:=by
    rcases A.o.2 with⟨_,q⟩|⟨g,cap,az,aa,_⟩
    ·omega
    ·exact⟨g,(Value.slice.inj aa).1⟩
   subst ad;have Z:wr.cell? ⟨h,t,none⟩=some (.string x):=by
    have:=(AT A.o hb).cells (g:=h) rfl t _ G;have e:(⟨h,0,none⟩:Addr).add t=⟨h,t,none⟩:=by unfold Addr.add;split<;>simp_all
    rwa [e]at this
   have aI:=wW wr _ Z;have j:=(f.alloc (.cells #[.string x] 132)).alloc (.cells #[.string x] 9);have aB:=hb.size;have X:=Aa (show a++[x]=names.take (t+1)from by rw[i.o,xL,c];rfl);clear hb f c G;go_wp2_with (at_builtin;refine wpList_append_own _ rfl _ _ 42 rfl w.heap.size 9 ap (.string ⟨#[]⟩) 1 16 underlying42 ae al am ao rfl (by decide) _ _ _ rfl j ⟨wr.heap.size+1,0,none⟩ 1 1 [.string x] rfl rfl (Cz _ _ _ _ (by simp)) (fun u J=>by simp at J;subst J;rfl) (by unfold maxLen;omega) (by omega) (by simp;omega) ?_;intro v' w2 r F _);have P:=Aa (show yG w w2 from(bA (bA y.o (.cells #[.string x] 132)) (.cells #[.string x] 9)).grown F (by simp;omega) (fun k af=>(j.lt k af).1));have U:=Aa (show w2.ownsRow w.heap.size 9 1 v' (a++[x]).length (Bn (a++[x]))from by
    rw[xJ];simpa [Bn]using r)
   obtain⟨au,aA,rfl⟩:=An r;clear r F j;go_roundg (names.length-(t+1))
   case measure=>omega
   case rel=>exact⟨t+1,a++[x],by go_num,by omega,wQ _,P.o,U.o,X.o⟩
  ·have aj:t=names.length:=by omega
   subst aj;have ag:a=names:=by rw[i.o,List.take_length]
   subst ag;have Q:=Aa (z.o wr hb _ R.o);clear hb f ak i;go_wp2_with fail;refine Q.o.mono ?_;rintro _ w3 ⟨rfl,D,B⟩;have O:=Aa D;have N:=Aa ((FT.of_below y.o K).trans B);clear D B;go_wp2;go_end0;exact⟨rfl,O.o,N.o⟩
end
end Go.Proofs.YtogdodlibkckkaaGreatDoor
