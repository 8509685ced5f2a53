import Derived.Test.YtogdodlibkckkaaGreatDoorZ47
import Derived.Test.YtogdodlibkckkaaGreatDoorZ49
namespace Go.Proofs.YtogdodlibkckkaaGreatDoor
set_option maxHeartbeats 20000000
set_option maxRecDepth 100000
open Go.RowKit Tryz
theorem RJ.first{c:RV}(b:RJ c)(v:PV):RJ (Ki v c):=by
 cases b with
 |mk k n t l d e f a=>
  show RJ (.mk k n t (if v.1=0 then l else l.take (max 0 v.2.1).toNat));refine .mk k n t _ d e f ?_;split
  ·exact a
  ·exact fun x g=>a x (List.mem_of_mem_take g)
theorem RJ.null:RJ PA:=.mk 0 0 ⟨#[]⟩ [] (by decide) (by decide) (fun a=>by cases a) (fun x b=>by cases b)
theorem Io.cont{r:MR}(a:Io r)(n:yF):RJ (EM r n):=by
 unfold EM;split
 ·exact RJ.null
 ·cases e:r.2[(Af (r.2.map Prod.fst) n).toNat]? with
  |none=>exact RJ.null
  |some c=>exact a c (wT e)
theorem uU(E:AM){obj:Cd}(h:EJ E)(i:EK obj)(b:OJ obj)(r:MR)(j:Io r)(d:Am)(f:QF)(s:Aj)(g:JJ s.path)(c:JJ s.errs):VO s (Er E obj r d f s):=by
 unfold Er;split
 ·exact⟨Aj.fail_jj g c,List.prefix_refl _,fun b=>by cases b⟩
 split
 ·refine Yv b _ (fun x a=>?_) _ _ g c
  unfold Kb at a;cases e:E.row (CI f.1).2.2 with
  |none=>rw[e]at a;cases a
  |some y=>
   rw[e]at a;simp only[Option.bind_some]at a;split at a
   ·cases a
   ·cases a;exact h.row _ _ e
 split
 ·exact Ti E h i b _ (j.cont _) _ _ _ g c
 ·exact Ti E h i b _ ((j.cont _).first _) _ _ _ g c
theorem WZ{l:List yF}(a:∀x∈l,BL x.data.toList):JV (GE l):=by
 have e:∀(l:List yF) (i:Nat),Dp i l=(if 0<i/\l≠[]then [44]else [])++AU (l.map fun x=>Bo x.data.toList):=by
  intro l
  induction l with
  |nil=>intro i;simp[Dp,AU]
  |cons x l c=>
   intro i;rw[Dp,c (i+1)];cases l with
   |nil=>simp[AU]
   |cons y l=>simp[AU]
 have:=JV.arr (l.map fun x=>Bo x.data.toList) (fun d hd=>by
  obtain⟨x,b,rfl⟩:=List.mem_map.1 hd;exact .str _ (a x b))
 unfold GE;rw[e l 0];simpa using this
theorem fU(E:AM){obj:Cd}(a:EJ E)(h:EK obj)(i:OJ obj)(r:MR)(k:Io r)(f:QF)(s:Aj)(c:JJ s.path)(b:JJ s.errs):JJ (DI E obj r f s).2.errs/\∃d,JV d/\(DI E obj r f s).2.data=s.data++d:=by
 unfold DI;split
 ·exact⟨b,_,.str _ (a.objs _),rfl⟩
 split
 ·exact⟨b,_,WZ a.names,rfl⟩
 split
 ·refine⟨b,JC E (CI f.1).2.2,?_,rfl⟩
  unfold JC;cases e:Dx E.objs E.ifs (CI f.1).2.2 with
  |none=>exact .null
  |some fs=>
   refine WZ (fun x l=>?_);obtain⟨g,j,rfl⟩:=List.mem_map.1 l;exact a.flds _ _ e g (List.mem_filter.1 j).1
 ·exact(uU E a h i r k _ f s c b).settle (by rw[(Qk E h r _ f s).1];exact c) _
theorem pD(base:List UInt8)(a:List (List UInt8))(d:List UInt8):base++123::AU a++(if 0<a.length then [44]else [])++d=base++123::AU (a++[d]):=by
 by_cases b:a=[]
 ·subst b;simp[AU]
 ·rw[Pd d a b,xH (List.length_pos_iff.2 b)];simp
theorem Xg(E:AM){obj:Cd}(y:EJ E)(t:EK obj)(c:OJ obj)(r:MR)(A:Io r):∀(l:List QF) (_:∀f∈l,Fx f.1.key.data.toList) (i g:Nat) (s:Aj) (base:List UInt8) (b:List (List UInt8×List UInt8)),s.data=base++123::AU (b.map CF)->(∀p∈b,BL p.1)->(∀p∈b,JV p.2)->i=b.length->JJ s.path->JJ s.errs->
 JJ (Cv E obj r l i g s).2.errs/\base<+:(Cv E obj r l i g s).2.data/\(0<=(Cv E obj r l i g s).2.left\/(Cv E obj r l i g s).1=0->∃u:List (List UInt8×List UInt8),(∀p∈u,BL p.1)/\(∀p∈u,JV p.2)/\(Cv E obj r l i g s).2.data=base++123::(AU (u.map CF)++[125]))
 |[],_,i,g,s,base,b,hd,n,m,k,h,j=>by
  rw[Cv];have e:(s.write [125]).data=base++123::(AU (b.map CF)++[125]):=by show s.data++[125]=_;rw[hd];simp
  exact⟨j,by rw[e];exact⟨_,rfl⟩,fun _=>⟨b,n,m,e⟩⟩
 |f::l,z,i,g,s,base,b,hd,n,m,k,h,j=>by
  rw[Cv];split
  ·rename_i K
   exact⟨j,by show base<+:s.data;rw[hd];exact⟨_,rfl⟩,fun c=>by
    rcases c with c|c
    ·exfalso;have:0<=s.step.left:=c;omega
    ·cases c⟩
  ·have B:(if 0<i then s.step.write [44]else s.step).data=base++123::AU (b.map CF)++(if 0<(b.map CF).length then [44]else []):=by
    rw[xT,<-k];split
    ·show s.data++[44]=_;rw[hd]
    ·show s.data=_;rw[hd];simp
   have v:(if 0<i then s.step.write [44]else s.step).path=s.path:=by split<;>rfl
   have C:(if 0<i then s.step.write [44]else s.step).errs=s.errs:=by split<;>rfl
   generalize (if 0<i then s.step.write [44]else s.step)=s1 at*;have q:=z f (by simp);have w:AK f=Bo f.1.key.data.toList:=(rZ q).symm;have G:JJ ((s1.enter (AK f)).write (AK f++[58])).path:=by show JJ (Cf s1.path++AK f);rw[v,w];exact h.sep (.str _ q.tx)
   obtain⟨J,d,F,D⟩:=fU E y t c r A f ((s1.enter (AK f)).write (AK f++[58])) G (by show JJ s1.errs;rw[C];exact j);have I:=PL.around ((PL.write (s1.enter (AK f)) (AK f++[58])).trans (OQ E t r f ((s1.enter (AK f)).write (AK f++[58]))));refine Xg E y t c r A l (fun x H=>z x (by simp[H])) (i+1) _ _ base (b++[(f.1.key.data.toList,d)]) ?_ ?_ ?_ (by simp[k]) ?_ J
   ·show(DI E obj r f ((s1.enter (AK f)).write (AK f++[58]))).2.data=_
    rw[D];show s1.data++(AK f++[58])++d=_;rw[B,xY,List.map_singleton,<-pD,w];simp[CF]
   ·intro p h
    rcases yD.1 h with a|a
    ·exact n p a
    ·simp at a;subst a;exact q.tx
   ·intro p h
    rcases yD.1 h with a|a
    ·exact m p a
    ·simp at a;subst a;exact F
   ·rw[I.1,v];exact h
theorem Xi(E:AM)(b:EJ E):∀f,OJ (AV E f)
 |0,r,d,s,_,a,c=>⟨c,List.prefix_refl _,fun e=>by cases e⟩
 |f+1,r,d,s,k,a,c=>by
  rw[AV];obtain⟨h,i,j⟩:=Xg E b (GX E f) (Xi E b f) r k _ (fun x l=>UF (Z:=fun x=>Fx x.key.data.toList) b.keys d x l) 0 0 (s.write [123]) s.data [] rfl (fun p a=>by cases a) (fun p a=>by cases a) rfl a c;refine⟨h,i,fun g=>?_⟩;obtain⟨q,m,k2,n⟩:=j (.inr g);exact⟨_,.obj q m k2,n⟩
def MW:List UInt8:=[100,97,116,97]
def MY:List UInt8:=[101,114,114,111,114,115]
theorem ZY(E:AM)(k:EJ E)(root:MR)(n:Io root)(whole:Nat)(b:Int):∃d:List UInt8,JV (FX (FW E root whole ⟨b,[],[],[]⟩)).data.toList/\(FX (FW E root whole ⟨b,[],[],[]⟩)).data.toList=[123,34,100,97,116,97,34,58]++d:=by
 obtain⟨i,d,g,j⟩:=(Xi E k 5001 root [whole] ⟨b,[],[],[]⟩ n JJ.nil JJ.nil).settle (by rw[(GX E 5001 root [whole] ⟨b,[],[],[]⟩).1];exact JJ.nil) false;have hd:(FW E root whole ⟨b,[],[],[]⟩).data=d:=j;have h:JJ (FW E root whole ⟨b,[],[],[]⟩).errs:=i;generalize FW E root whole ⟨b,[],[],[]⟩=s at hd h;obtain⟨es,l,m⟩:=h;have c:BL MW/\BL MY:=by unfold BL Im;decide
 by_cases f:s.errs=[]
 ·have e:(FX s).data.toList=[123,34,100,97,116,97,34,58]++(d++[125]):=by
   unfold FX;rw[xH f];simp[ByteArray.data_append,hd]
  refine⟨_,?_,e⟩;have:=JV.obj [(MW,d)] (fun p a=>by simp at a;subst a;exact c.1) (fun p a=>by simp at a;subst a;exact g);rw[e];simpa [AU,CF,Bo,BQ,MW]using this
 ·have e:(FX s).data.toList=[123,34,100,97,116,97,34,58]++(d++44::34::(MY++34::58::91::(s.errs++[93,125]))):=by
   unfold FX;rw[xG f];simp[ByteArray.data_append,hd,MY]
  refine⟨_,?_,e⟩;have:=JV.obj [(MW,d),(MY,91::(AU es++[93]))] (fun p a=>by
   simp at a;rcases a with rfl|rfl
   ·exact c.1
   ·exact c.2) (fun p a=>by
   simp at a;rcases a with rfl|rfl
   ·exact g
   ·exact .arr es l)
  rw[e,m];simpa [AU,CF,Bo,BQ,MW,MY]using this
def IY(s:St):Prop:=∀t∈s.getD [],Nl t
theorem oI(s:St)(a:IY s):Fx (nm s).data.toList:=by
 unfold nm;split
 ·rename_i b
  match s,a,b with
  |Option.none,_,_=>exact Kn
  |some [],_,_=>exact Kn
  |some (t::l),a,b=>exact(a t (by simp)).1 (by simpa [Ae,hd]using b)
 ·exact Kn
theorem kL(x:yF):KQ (fun y=>Fx y.data.toList) (Ao (Ad x)).1:=TZ (P:=Nl) (K:=fun y=>Fx y.data.toList) oI _ (Rg x)
inductive CJ:RV->Prop
 |mk (sh:Nat) (n:Int) (s:yF) (l:List RV):sh<=6->(sh=2->BL s.data.toList)->(∀x∈l,CJ x)->CJ (.mk sh n s l)
theorem CJ.leaf(sh:Nat)(n:Int)(s:yF)(a:sh<=6)(k:sh=2->BL s.data.toList):CJ (.mk sh n s []):=.mk sh n s [] a k (fun x b=>by cases b)
theorem Us:IY none:=fun t a=>by cases a
theorem cH{s:St}(a:IY s):IY (Il s):=by
 unfold Il;split
 ·exact CP s a
 ·exact Us
theorem mF{s:St}(b:IY s):CJ (SK (FA s)):=by
 unfold FA;split
 ·exact .leaf 1 _ _ (by decide) (fun e=>by cases e)
 split
 ·rename_i f
  refine .leaf 2 _ _ (by decide) (fun _=>?_);have a:(hd s).k=3:=(Yt _).1 f;show BL (rs (hd s)).data.toList;unfold rs;rw[xH (by omega)]
  match s,b,a with
  |none,_,_=>exact fun c d=>by cases d
  |some [],_,_=>exact fun c d=>by cases d
  |some (t::l),b,a=>exact(b t (by simp)).2 a
 split
 ·exact .leaf 3 _ _ (by decide) (fun e=>by cases e)
 split
 ·exact .leaf 3 _ _ (by decide) (fun e=>by cases e)
 ·exact .leaf 0 _ _ (by decide) (fun e=>by cases e)
theorem Ur:∀(f:Nat),(∀(d:Nat) (s:St),IY s->CJ (Bb f d s).1/\IY (Bb f d s).2)/\∀(d:Nat) (s:St),IY s->(∀r∈(Bj f d s).1,CJ r)/\IY (Bj f d s).2
 |0=>⟨fun d s g=>by rw[Bb];exact⟨.leaf 0 _ _ (by decide) (fun e=>by cases e),g⟩,fun d s g=>by rw[Bj];exact⟨(fun r h=>by cases h),g⟩⟩
 |f+1=>by
  obtain⟨l,i⟩:=Ur f;refine⟨fun d s g=>?_,fun d s g=>?_⟩
  ·rw[Bb]
   split
   ·exact⟨mF g,CP s g⟩
   split
   ·exact⟨.leaf 6 _ _ (by decide) (fun e=>by cases e),CP s g⟩
   split
   ·exact⟨.leaf 4 _ _ (by decide) (fun e=>by cases e),cH (CP s g)⟩
   ·have k:IY (if 10<=d then none else mustT s (Ae s 12)):=by
     split
     ·exact Us
     ·exact Fb s _ g
    obtain⟨b,c⟩:=i d _ k;exact⟨.mk 5 _ _ _ (by decide) (fun e=>by cases e) b,c⟩
  ·rw[Bj]
   split
   ·exact⟨(fun r h=>by cases h),g⟩
   split
   ·exact⟨(fun r h=>by cases h),CP s g⟩
   ·obtain⟨a,b⟩:=l (d+1) s g
    obtain⟨j,c2⟩:=i d _ b;refine⟨fun r h=>?_,c2⟩;rcases yE.1 h with e|e
    ·rw[e];exact a
    ·exact j r e
theorem vX(x:yF):CJ (CZ x):=((Ur 1603).1 0 (Ad x) (Rg x)).1
theorem qX:∀{r:RV},CJ r->RJ (pv r):=by
 intro r b
 induction b with
 |mk sh n s l i c _ h=>
  rw[pv,Kt];have d:∀x∈l.map pv,RJ x:=fun x f=>by
   obtain⟨y,g,rfl⟩:=List.mem_map.1 f;exact h y g
  have a:(Ce (sh,n,s)).1≠5/\(Ce (sh,n,s)).1<=8/\((Ce (sh,n,s)).1=2->BL (Ce (sh,n,s)).2.2.data.toList):=by
   unfold Ce;simp only[];split
   ·split
    ·exact⟨(show(3:Nat)≠5 by decide),(show(3:Nat)<=8 by decide),fun e=>by cases e⟩
    ·exact⟨(show(4:Nat)≠5 by decide),(show(4:Nat)<=8 by decide),fun e=>by cases e⟩
   split
   ·exact⟨(show(6:Nat)≠5 by decide),(show(6:Nat)<=8 by decide),fun e=>by cases e⟩
   split
   ·exact⟨(show(7:Nat)≠5 by decide),(show(7:Nat)<=8 by decide),fun e=>by cases e⟩
   split
   ·exact⟨(show(8:Nat)≠5 by decide),(show(8:Nat)<=8 by decide),fun e=>by cases e⟩
   ·exact⟨by simp only;omega,by simp only;omega,c⟩
  exact .mk _ _ _ _ a.1 a.2.1 a.2.2 d
theorem Yx(b:List Aq)(y:AY):Io (FO b y):=by
 intro c a;obtain⟨c0,_,rfl⟩:=List.mem_map.1 (show c∈y.2.2.map (fun c=>(c.1,pv (CZ c.2)))from a);exact qX (vX _)
theorem eF(x:yF)(ys:List AY)(roles:List yF)(vid:yF)(parts:List Ai)(l:∀P∈parts,∀x∈P.sels,Fx x.key.data.toList):EJ (DH (Ao (Ad x)).1 (BC (Ao (Ad x)).1.objs ys) roles vid parts):=by
 obtain⟨_,d,s,_,u⟩:=kL x;refine⟨fun t r p=>?_,fun k=>?_,fun n m=>(u n m).tx,fun typ fs g f b=>?_,l⟩
 ·have q:Ej (Ao (Ad x)).1.objs roles vid (BC (Ao (Ad x)).1.objs ys) t=some r:=p
  obtain⟨j,y,_,_,_,rfl⟩:=LW (Tl q);exact Yx _ y
 ·show BL ((Ao (Ad x)).1.objs.getD k Ge).name.data.toList
  rw[List.getD_eq_getElem?_getD];cases a:(Ao (Ad x)).1.objs[k]? with
  |none=>exact fun c e=>by cases e
  |some o=>exact(d o (wT a)).1.tx
 ·rcases OU (show Dx (Ao (Ad x)).1.objs (Ao (Ad x)).1.ifs typ=some fs from g)with⟨o,a,_,rfl⟩|⟨_,i,h,_,rfl,_⟩
  ·exact((d o a).2.1 f b).tx
  ·exact(s i h f b).tx
theorem tC(a:List Aq)(ys:List AY):Io (Cc a (BC a ys)):=by
 unfold Cc;cases d:Fl (BC a ys) bE with
 |none=>exact fun c b=>by cases b
 |some r=>
  obtain⟨j,y,_,_,_,rfl⟩:=LW d;exact Yx _ y
theorem bV{Q:Qy}(l:AN)(b:QZ Q):∀P∈(CS l Q).parts,∀x∈P.sels,Fx x.key.data.toList:=by
 intro P c x e;obtain⟨a,d,rfl⟩:=List.mem_map.1 (show P∈Q.parts.map _ from c);obtain⟨g,f,rfl⟩:=List.mem_map.1 (show x∈a.sels.map (Hu l)from e);exact(b.p a d g f).y
def Ii:List yF:=[Lv,Oe,Od,Oc,Og,MA,Ik]
theorem tY(x:yF)(ys:List AY)(d vid a e:yF)(b:Int):(∃t∈Ii,Ft x ys d vid a e b=Cs t)\/∃l,Ec (Bk (Ad a)).2=true/\(Bk (Ad a)).1.ops.length=1/\Fi (FP (Ad e)).1 (GZ (BY (Bk (Ad a)).1)) []=some l/\Hz ⟨(Ao (Ad x)).1.objs,(Ao (Ad x)).1.ifs,(Ao (Ad x)).1.uns,Ef (Ao (Ad x)).1.roles d⟩ (CS l (BY (Bk (Ad a)).1)).parts (Ck (Bk (Ad a)).1)=true/\¬(b<0\/5000<b)/\Ft x ys d vid a e b=FX (FW (DH (Ao (Ad x)).1 (BC (Ao (Ad x)).1.objs ys) (Ef (Ao (Ad x)).1.roles d) vid (CS l (BY (Bk (Ad a)).1)).parts) (Cc (Ao (Ad x)).1.objs (BC (Ao (Ad x)).1.objs ys)) (Ck (Bk (Ad a)).1) ⟨b,[],[],[]⟩):=by
 unfold Ft MT;generalize (Ao (Ad x)).1=c at*;generalize BC c.objs ys=rows at*;by_cases f:Ec (Bk (Ad a)).2=false\/(FP (Ad e)).2=false
 ·rw[xH f];exact .inl ⟨Lv,.head _,rfl⟩
 rw[xG f];by_cases i:Ef c.roles d=[]
 ·rw[xH i];exact .inl ⟨Oe,.tail _ (.head _),rfl⟩
 rw[xG i];by_cases j:(Bk (Ad a)).1.ops.length≠1
 ·rw[xH j];exact .inl ⟨Od,.tail _ (.tail _ (.head _)),rfl⟩
 rw[xG j];by_cases k:Kq (Bk (Ad a)).1=false
 ·rw[xH k];exact .inl ⟨Oc,.tail _ (.tail _ (.tail _ (.head _))),rfl⟩
 rw[xG k];cases m:Fi (FP (Ad e)).1 (GZ (BY (Bk (Ad a)).1)) []with
 |none=>exact .inl ⟨Og,.tail _ (.tail _ (.tail _ (.tail _ (.head _)))),rfl⟩
 |some l=>
  unfold Ud;simp only[];by_cases g:Hz ⟨c.objs,c.ifs,c.uns,Ef c.roles d⟩ (CS l (BY (Bk (Ad a)).1)).parts (Ck (Bk (Ad a)).1)=false
  ·rw[xH g];exact .inl ⟨MA,.tail _ (.tail _ (.tail _ (.tail _ (.tail _ (.head _))))),rfl⟩
  rw[xG g];by_cases h:b<0\/5000<b
  ·rw[xH h];exact .inl ⟨Ik,.tail _ (.tail _ (.tail _ (.tail _ (.tail _ (.tail _ (.head _)))))),rfl⟩
  rw[xG h];unfold NL;split
  ·exact .inl ⟨Ik,.tail _ (.tail _ (.tail _ (.tail _ (.tail _ (.tail _ (.head _)))))),rfl⟩
  ·exact .inr ⟨l,by simp at f;exact f.1,by omega,rfl,by simpa using g,h,rfl⟩
theorem kC(u:List UInt8)(e:BL u):JV (123::(AU ([([101,114,114,111,114,115],91::(AU [123::(AU ([([109,101,115,115,97,103,101],Bo u)].map CF)++[125])]++[93]))].map CF)++[125])):=by
 have b:BL [101,114,114,111,114,115]:=by unfold BL Im;decide
 have c:BL [109,101,115,115,97,103,101]:=by unfold BL Im;decide
 refine .obj _ (fun p a=>?_) (fun p a=>?_)
 ·rw[List.mem_singleton.1 a];exact b
 rw[List.mem_singleton.1 a];refine .arr _ (fun d hd=>?_);rw[List.mem_singleton.1 hd];refine .obj _ (fun p a=>?_) (fun p a=>?_)
 ·rw[List.mem_singleton.1 a];exact c
 ·rw[List.mem_singleton.1 a];exact .str u e
theorem sT(t:yF)(a:t∈Ii):JV (Cs t).data.toList/\(Cs t).size<=1000:=by
 have hd:∀t∈Ii,(∀c∈t.data.toList,(32<=c/\c<=126)\/c=10\/c=9)/\t.data.toList.flatMap BQ=t.data.toList/\(Cs t).size<=1000:=by decide
 obtain⟨b,d,e⟩:=hd t a;refine⟨?_,e⟩;have:=kC t.data.toList b;rw[Bo,d]at this;rw[show(Cs t).data.toList=[123,34,101,114,114,111,114,115,34,58,91,123,34,109,101,115,115,97,103,101,34,58,34]++t.data.toList++[34,125,93,125]from by unfold Cs;simp[ByteArray.data_append]];simpa [AU,CF,Bo,BQ]using this
theorem tX{w:World}{T:Nat}{x:yF}{ys:List AY}(B:GN w T (Ao (Ad x)).1 ys)(D:Eo x ys=0)(g vid f h:yF)(b:Int):JV (Ft x ys g vid f h b).data.toList/\(Ft x ys g vid f h b).size<=200000000000000/\((8<(Ft x ys g vid f h b).size/\∃d:List UInt8,(Ft x ys g vid f h b).data.toList=[123,34,100,97,116,97,34,58]++d)\/∃t∈Ii,Ft x ys g vid f h b=Cs t):=by
 rcases tY x ys g vid f h b with⟨t,m,e⟩|⟨l,q,r,u,v,E,e⟩
 ·obtain⟨a,c⟩:=sT t m
  rw[e];exact⟨a,by omega,.inr ⟨t,m,rfl⟩⟩
 ·obtain⟨A,C⟩:=Yr D
  have j:=XM (roles:=Ef (Ao (Ad x)).1.roles g) (vid:=vid) B.sz A C q r u v;have k:=Ub (whole:=Ck (Bk (Ad f)).1) (s:=⟨b,[],[],[]⟩) j.sz j.rs ⟨by show 0+20000000*b.toNat<=_;omega,by show 0+60000000*b.toNat<=_;omega,by unfold PB;show 0+5000*b.toNat<=_;omega,by show -100000000<=b;omega,by show b<=5000;omega⟩ (by show 0<=b;omega);obtain⟨d,y,z⟩:=ZY _ (eF x ys (Ef (Ao (Ad x)).1.roles g) vid _ (bV l (SB f).link)) _ (tC (Ao (Ad x)).1.objs ys) (Ck (Bk (Ad f)).1) b;rw[e];have i:∀s:Aj,8<(FX s).size/\(FX s).size<=100+s.data.length+s.errs.length:=fun s=>by
   have n:(⟨s.data.toArray⟩:yF).size=s.data.length:=by show s.data.toArray.size=_;simp
   have p:(⟨s.errs.toArray⟩:yF).size=s.errs.length:=by show s.errs.toArray.size=_;simp
   unfold FX;split;all_goals(
    simp only[ByteArray.size_append,n,p];simp only[ByteArray.size,List.size_toArray,xU,List.length_nil];omega)
  have i:=i (FW (DH (Ao (Ad x)).1 (BC (Ao (Ad x)).1.objs ys) (Ef (Ao (Ad x)).1.roles g) vid (CS l (BY (Bk (Ad f)).1)).parts) (Cc (Ao (Ad x)).1.objs (BC (Ao (Ad x)).1.objs ys)) (Ck (Bk (Ad f)).1) ⟨b,[],[],[]⟩);exact⟨y,by have:=k.d;have:=k.e;omega,.inl ⟨i.1,d,z⟩⟩
def QN(r:List UInt8):Prop:=∀c l,r=c::l->¬(48<=c.toNat/\c.toNat<=57)
theorem Qj{c:UInt8}{l:List UInt8}(a:¬(48<=c.toNat/\c.toNat<=57)):QN (c::l):=fun _ _ e=>(List.cons.inj e).1▸a
def VC(t:Nat)(s:yF)(d:List UInt8):Prop:=∀(W:World) (k:Nat) (r:List UInt8),TX W t s k->Dr s k (d++r)->QN r->Calls prog 17 #[.pointer (some ⟨t,0,none⟩)] W (TR W t s (.tuple #[]) (k+d.length))
def Hh(l:List (List UInt8)):List UInt8:=if l=[]then []else 44::AU l
theorem Pc(d:List UInt8):∀l,AU (d::l)=d++Hh l
 |[]=>by simp[AU,Hh]
 |e::l=>by simp[AU,Hh]
section
variable {w:World} {t k:Nat} {s:yF} {r:List UInt8}
theorem uW(b:List (List UInt8×List UInt8))(c:∀p∈b,BL p.1)(e:∀p∈b,VC t s p.2)(g:TX w t s k)(n:Dr s k (AU (b.map CF)++125::r)):Calls prog 26 #[.pointer (some ⟨t,0,none⟩)] w (TR w t s (.tuple #[]) (k+(AU (b.map CF)).length+1)):=by
 have al:=Aa g;cases b with
 |nil=>
  have a:=Aa (MB 125 g n);clear n g;unfold TR at*;go_enter func26,ntmps26;go_wp2_with fail;refine a.o.mono ?_;rintro _ w1 ⟨rfl,h,q⟩;have v:=Aa h;have z:=Aa q;clear h q a;go_wp2;go_loopg [3] 0 (fun d v3 wr=>wr=w1)
  case atStart=>rfl
  case round=>
   subst hrel;go_wp2;go_end0;exact⟨rfl,v.o,z.o⟩
 |cons p b=>
  have a:=Aa (Oh 125 g n (by rw[List.map_cons,Pc];unfold CF Bo;simp));obtain⟨K,G⟩:∃K,K=k+(AU ((p::b).map CF)).length+1:=⟨_,rfl⟩;rw[<-G];have T:=Aa n;have N:=Aa G;clear n g G;unfold TR at*;go_enter func26,ntmps26;go_wp2_with fail;refine a.o.mono ?_;rintro _ w1 ⟨rfl,h,q⟩;have v:=Aa h;have z:=Aa q;clear h q a;go_wp2;go_loopg [3] (b.length+1) (fun d v3 wr=>∃(j:Nat) (p:List UInt8×List UInt8) (l:List (List UInt8×List UInt8)),l.length+1<=d/\(∀x∈p::l,BL x.1)/\(∀x∈p::l,VC t s x.2)/\TX wr t s j/\Dr s j (AU ((p::l).map CF)++125::r)/\j+(AU ((p::l).map CF)).length+1=K/\Ag t w wr)
  case atStart=>exact⟨k,p,b,wQ _,c,e,v.o,T.o,N.o.symm,z.o⟩
  case round=>
   clear T N v z al c e;obtain⟨j,p,l,ap,c,e,I,E,J,ae⟩:=hrel;rw[List.map_cons,Pc]at E J;have A:Dr s j (Bo p.1++((58:UInt8)::(p.2++(Hh (l.map CF)++125::r)))):=by simpa [show CF p=Bo p.1++58::p.2 from rfl]using E
   have F:=A.app.cons.2.2;have m:=F.app;have S:=Aa (Zb p.1 (c p (.head _)) I A);have f:=Aa (fun W (H:TX W t s (j+(Bo p.1).length))=>Lx ⟨#[58]⟩ (by decide) H A.app);have U:=Aa (fun W (H:TX W t s (j+(Bo p.1).length+1))=>e p (.head _) W _ _ H F (by
    unfold Hh;split
    ·exact Qj (by decide)
    ·exact Qj (by decide)))
   have B:j+(Bo p.1).length+1+p.2.length+(Hh (l.map CF)).length+1=K:=by rw[<-J,show CF p=Bo p.1++58::p.2 from rfl];simp;omega
   have O:=Aa ae;have c0:=Ac I.1;have ag:∀x∈l,VC t s x.2:=fun x L=>e x (.tail _ L);have af:∀x∈l,BL x.1:=fun x L=>c x (.tail _ L);generalize j+(Bo p.1).length+1+p.2.length=y at*;clear J E A F ae I e c;unfold TR at*;go_wp2_with fail;refine S.o.mono ?_;rintro _ w2 ⟨rfl,Z,k2⟩;have V:=Aa Z;have P:=Aa (O.o.trans k2);clear Z k2 S O;go_wp2_with fail;refine(f.o _ V.o).mono ?_;rintro _ w3 ⟨rfl,aa,ah⟩;have X:=Aa aa;have Q:=Aa (P.o.trans ah);clear aa ah f V P;go_wp2_with fail;refine(U.o _ X.o).mono ?_;rintro _ w4 ⟨rfl,ab,ai⟩;have Y:=Aa ab;have R:=Aa (Q.o.trans ai);clear ab ai U X Q;cases l with
   |nil=>
    have a:=Aa (MB 125 Y.o m);have C:=Aa (show y+1=K from B);unfold TR at*;clear B m ag af;go_wp2_with fail;refine a.o.mono ?_;rintro _ w5 ⟨rfl,i,u⟩;have D:=Aa (R.o.trans u);have am:=Aa i;clear i u a;go_wp2;refine bodyPost_ret (results_none rfl _ _ _) rfl ?_;rw[<-C.o];exact⟨rfl,am.o,D.o⟩
   |cons p l=>
    have a:=Aa (Oh 125 Y.o m (by simp[Hh]));have C:=Aa (show y+1+(AU ((p::l).map CF)).length+1=K from by rw[<-B];simp[Hh];omega);have M:=Aa (show Dr s y (44::(AU ((p::l).map CF)++125::r))from m);rw[xU]at ap;unfold TR at*;clear B m;go_wp2_with fail;refine a.o.mono ?_;rintro _ w5 ⟨rfl,i,u⟩;have D:=Aa (R.o.trans u);have f:=Aa (Lx ⟨#[44]⟩ (by decide) i M.o);unfold TR at*;clear i u a;go_wp2_with fail;refine f.o.mono ?_;rintro _ w6 ⟨rfl,ad,aj⟩;have ak:=Aa (D.o.trans aj);have ao:=Aa ad;clear ad aj f;go_wp2;go_roundg (l.length+1)
    case measure=>omega
    case rel=>exact⟨y+1,p,l,wQ _,af,ag,ao.o,M.o.cons.2.2,C.o,ak.o⟩
end
def JQ(c:UInt8):Prop:=48<=c.toNat/\c.toNat<=57
theorem UK(u:Nat)(a:u<10):JQ (UInt8.ofNat (48+u)):=by
 unfold JQ;have:(UInt8.ofNat (48+u)).toNat=48+u:=by simp;omega
 omega
theorem Ri:∀(n u:Nat),u<n->∀c∈Lib.decDigits u,JQ c
 |0,u,d=>by omega
 |n+1,u,d=>by
  rw[Lib.decDigits];split
  ·intro c b
   rw[List.mem_singleton.1 b];exact UK u ‹_›
  ·intro c b
   rcases yD.1 b with a|a
   ·exact Ri n (u/10) (by omega) c a
   ·rw[List.mem_singleton.1 a]
    exact UK _ (by omega)
theorem VA(n:Int):∃(m:Bool) (l:List UInt8),l≠[]/\(∀c∈l,JQ c)/\AH n=(if m=true then [45]else [])++l:=by
 unfold AH Lib.itoa;have a:∀u,Lib.decDigits u≠[]:=fun u=>by rw[Lib.decDigits];split<;>simp
 split
 ·exact⟨true,_,a _,Ri _ _ (Nat.lt_succ_self _),rfl⟩
 ·exact⟨false,_,a _,Ri _ _ (Nat.lt_succ_self _),rfl⟩
inductive JW(t:Nat)(s:yF):List UInt8->Prop
 |word (m:yF):m=⟨#[110,117,108,108]⟩\/m=⟨#[116,114,117,101]⟩\/m=⟨#[102,97,108,115,101]⟩->JW t s m.data.toList
 |num (m:Bool) (l:List UInt8):l≠[]->(∀c∈l,JQ c)->JW t s ((if m=true then [45]else [])++l)
 |str (x:List UInt8):BL x->JW t s (Bo x)
 |arr (ds:List (List UInt8)):(∀d∈ds,d.head?≠some 93/\d≠[]/\VC t s d)->JW t s (91::(AU ds++[93]))
 |obj (ps:List (List UInt8×List UInt8)):(∀p∈ps,BL p.1)->(∀p∈ps,VC t s p.2)->JW t s (123::(AU (ps.map CF)++[125]))
theorem JV.hd{d:List UInt8}(a:JV d):d.head?≠some 93:=by
 cases a with
 |null=>decide
 |tru=>decide
 |fals=>decide
 |str x _=>simp[Bo]
 |arr _ _=>simp
 |obj _ _ _=>simp
 |num n=>
  obtain⟨m,l,b,f,e⟩:=VA n;rw[e];cases m
  ·cases l with
   |nil=>exact absurd rfl b
   |cons c l=>
    intro q;have:=f c (.head _);have e:c=93:=by simpa using q
    rw[e]at this;exact absurd this.2 (by decide)
  ·simp
def AR(w:World)(t:Nat)(s:yF)(K:Nat)(r:List UInt8)(m:Nat)(b:Bool)(w':World):Prop:=Ag t w w'/\((b=true/\TX w' t s K)\/(b=false/\∃j d l,List.length l+1<=m/\(∀x∈d::l,x.head?≠some 93/\x≠[]/\VC t s x)/\TX w' t s j/\Dr s j (AU (d::l)++93::r)/\j+(AU (d::l)).length+1=K))
theorem Ly{t:Nat}{s:yF}{d:List UInt8}(aF:JW t s d):VC t s d:=by
 intro w k r ai y aE;have aD:d≠[]:=by
  cases aF with
  |word m al=>rcases al with rfl|rfl|rfl<;>decide
  |num m l N A=>simp[N]
  |str x D=>simp[Bo]
  |arr M _=>simp
  |obj ae _ _=>simp
 obtain⟨c,d',O⟩:=List.exists_cons_of_ne_nil aD;obtain⟨P,ay, -⟩:=Dr.cons (show Dr s k (c::(d'++r))from by rw[O]at y;exact y);have a7:decide ((k:Int)<(s.size:Int))=true:=by simp;omega
 have ad:0<=(s[k].toNat:Int):=by omega
 have bd:(s[k].toNat:Int)<=255:=by have:=s[k].toNat_lt;omega
 have c0:=Ac ai.1;have ag:=Aa ai;have n:=Aa y;obtain⟨K,ak⟩:∃K,K=k+d.length:=⟨_,rfl⟩;rw[<-ak];have z:=Aa ak;have g:=Aa (xZ O ay);clear ai y aD O ay ak;unfold TR;go_enter func17,ntmps17;go_wp2;go_quiet (fail);obtain⟨V,aC⟩:∃V:Nat,V=nq:=⟨_,rfl⟩;rw[<-aC];clear aC;go_wp2;go_quiet (fail);have A:TX ((w.drewN V).drewN nq) t s k:=ag.o;have aG:=(ag.o.keep V).drewN nq;generalize (w.drewN V).drewN nq=aQ at*;have E:=Aa A;have F:=Aa aG;have c1:=Ac A.1;have bc:=A.2;clear A aG c0 ag;cases aF with
 |word m al=>
  have f:=Aa (fun q=>Lx (r:=r) m q E.o n.o);unfold TR at f;rcases al with rfl|rfl|rfl;all_goals(
   have e:(s[k].toNat:Int)=(c.toNat:Int):=by rw[g.o.2]
   rw[show c=_ from(List.cons.inj g.o.1).1.symm]at e;simp at e;have aK:=Aa z.o;clear g z n;go_wp2_with fail;refine(f.o (by decide)).mono ?_;rintro _ w2 ⟨rfl,h,k2⟩;have Q:=Aa h;have C:=Aa (F.o.trans k2);clear h k2 f;go_wp2;go_end0;rw[aK.o];exact⟨rfl,Q.o,C.o⟩)
 |num m l N A=>
  have ax:c.toNat=45\/JQ c:=by
   have O:=g.o.1;cases m
   ·cases l with
    |nil=>exact absurd rfl N
    |cons x l=>exact .inr ((List.cons.inj O).1▸A x (.head _))
   ·exact .inl (by rw[<-(List.cons.inj O).1];rfl)
  have aZ:(s[k].toNat:Int)=45\/(48<=(s[k].toNat:Int)/\(s[k].toNat:Int)<=57):=by
   rw[g.o.2];rcases ax with e|⟨a,b⟩
   ·exact .inl (by omega)
   ·exact .inr (by omega)
  have aS:((s[k].toNat:Int)==123)=false:=by simp;omega
  have aT:((s[k].toNat:Int)==91)=false:=by simp;omega
  have aU:((s[k].toNat:Int)==34)=false:=by simp;omega
  have aV:((s[k].toNat:Int)==110)=false:=by simp;omega
  have aW:((s[k].toNat:Int)==116)=false:=by simp;omega
  have aX:((s[k].toNat:Int)==102)=false:=by simp;omega
  have p:Hi (Calls prog 27 #[.pointer (some ⟨t,0,none⟩),.int .u8 45] aQ fun e w'=>∃b j,e=.returned (.bool b)/\Ag t w w'/\TX w' t s j/\Dr s j (l++r)/\j+l.length=K):=Aa (by
   cases m
   ·exact(Oh 45 E.o n.o (by
     cases l with
     |nil=>exact absurd rfl N
     |cons x l=>
      have:=A x (.head _);intro q;have e:x=45:=by simpa using q
      rw[e]at this;exact absurd this.1 (by decide))).mono (fun e w' q=>⟨false,k,q.1,F.o.trans q.2.2,q.2.1,n.o,z.o.symm⟩)
   ·exact(MB 45 E.o n.o).mono (fun e w' q=>⟨true,k+1,q.1,F.o.trans q.2.2,q.2.1,n.o.cons.2.2,by rw[z.o];simp;omega⟩))
  clear ax aZ z g n F;go_wp2_with fail;refine p.o.mono ?_;rintro _ w2 ⟨b,j,rfl,k2,h,T,aA⟩;have aq:=Aa (xZ k2 (xZ h (xZ T aA)));clear p k2 h T aA c1 E aS aT aU aV aW aX;go_wp2;go_loopg [4] l.length (fun m v4 wr=>∃(i j:Nat) (x:List UInt8),v4=.int .i64 i/\i<=j/\x.length<=m/\(x=[]->0<i)/\(∀c∈x,JQ c)/\Ag t w wr/\TX wr t s j/\Dr s j (x++r)/\j+x.length=K)
  case atStart=>exact⟨0,j,l,rfl,wZ _,wQ _,fun e=>absurd e N,A,aq.o⟩
  case round=>
   clear aq N A;obtain⟨i,j,x,rfl,ba,a5,ad,D,P,v,G,I⟩:=hrel;have L:=Aa v;have u:=Aa P;have c0:=Ac v.1;have a6:=Ak v.1;have bf:=Ab v.1;clear v P;cases x with
   |nil=>
    have a8:=ad rfl;have a9:decide ((0:Int)<(i:Int))=true:=by simp;omega
    have a0:j=K:=I;subst a0;have aM:=Aa aE;clear ad D I aE;cases r with
    |nil=>
     have aB:=Dr.nil G;have aa:decide ((j:Int)<(s.size:Int))=false:=by simp;omega
     go_wp2;go_quiet (fail);go_wp2;go_end0;exact⟨rfl,L.o.okd,(u.o.drewN _).setCell _ _⟩
    |cons x r=>
     obtain⟨aB,rfl, -⟩:=Dr.cons G;have bb:=aM.o _ _ rfl;have aa:decide ((j:Int)<(s.size:Int))=true:=by simp;omega
     cases au:decide ((48:Int)<=(s[j].toNat:Int))
     ·go_wp2
      go_quiet (fail);go_wp2;go_end0;exact⟨rfl,L.o.okd,(u.o.drewN _).setCell _ _⟩
     ·have aR:decide ((s[j].toNat:Int)<=57)=false:=by simp at au⊢;omega
      go_wp2;go_quiet (fail);go_wp2;go_end0;exact⟨rfl,L.o.okd,(u.o.drewN _).setCell _ _⟩
   |cons x l=>
    obtain⟨aB,rfl,T⟩:=Dr.cons G;have am:=D _ (.head _);have aa:decide ((j:Int)<(s.size:Int))=true:=by simp;omega
    have au:decide ((48:Int)<=(s[j].toNat:Int))=true:=by have:=am.1;simp;omega
    have aR:decide ((s[j].toNat:Int)<=57)=true:=by have:=am.2;simp;omega
    have a4:∀c∈l,JQ c:=fun c aa=>D c (.tail _ aa);have J:=Aa T;rw[xU]at I a5;clear ad D am G T;go_wp2;go_quiet (fail);go_wp2;go_roundg l.length
    case measure=>omega
    case rel=>
     have q:=L.o.next u.o nq (j+1);exact⟨i+1,j+1,l,by go_num,by omega,wQ _,fun _=>by omega,a4,q.2,q.1,J.o,by omega⟩
 |str x D=>
  have f:=Aa (Zb x D E.o n.o);unfold TR at f;have e:(s[k].toNat:Int)=34:=by rw[g.o.2,show c=34 from(List.cons.inj g.o.1).1.symm];rfl
  clear g n;go_wp2_with fail;refine f.o.mono ?_;rintro _ w2 ⟨rfl,h,k2⟩;have Q:=Aa h;have C:=Aa (F.o.trans k2);clear h k2 f;go_wp2;go_end0;rw[z.o];exact⟨rfl,Q.o,C.o⟩
 |obj ae a2 a3=>
  have y:Dr s k ([123]++(AU (ae.map CF)++125::r)):=by simpa using n.o
  have f:=Aa (Lx ⟨#[123]⟩ (by decide) E.o y);have u:=Aa (fun W (aY:TX W t s (k+1))=>uW ae a2 a3 aY y.app);unfold TR at f u;have e:(s[k].toNat:Int)=123:=by rw[g.o.2,show c=123 from(List.cons.inj g.o.1).1.symm];rfl
  have B:=Aa (show k+1+(AU (ae.map CF)).length+1=K from by rw[z.o];simp;omega);clear g n y z;go_wp2_with fail;refine f.o.mono ?_;rintro _ w2 ⟨rfl,h,k2⟩;have Q:=Aa h;have C:=Aa (F.o.trans k2);clear h k2 f;go_wp2_with fail;refine(u.o _ Q.o).mono ?_;rintro _ w3 ⟨rfl,R,aH⟩;have X:=Aa R;have aP:=Aa (C.o.trans aH);clear R aH u;go_wp2;go_end0;rw[<-B.o];exact⟨rfl,X.o,aP.o⟩
 |arr M H=>
  have y:Dr s k ([91]++(AU M++93::r)):=by simpa using n.o
  have f:=Aa (Lx ⟨#[91]⟩ (by decide) E.o y);have Y:=Aa y.app;unfold TR at f;have e:(s[k].toNat:Int)=91:=by rw[g.o.2,show c=91 from(List.cons.inj g.o.1).1.symm];rfl
  have B:=Aa (show k+1+(AU M).length+1=K from by rw[z.o];simp;omega);clear g n y z;go_wp2_with fail;refine f.o.mono ?_;rintro _ w2 ⟨rfl,h,k2⟩;have C:=Aa (F.o.trans k2);have p:Hi (Calls prog 27 #[.pointer (some ⟨t,0,none⟩),.int .u8 93] w2 fun e w'=>∃b,e=.returned (.bool b)/\AR w t s K r M.length b w'):=Aa (by
   cases M with
   |nil=>exact(MB 93 h Y.o).mono (fun e w' q=>⟨true,q.1,C.o.trans q.2.2,.inl ⟨rfl,by rw[<-B.o];exact q.2.1⟩⟩)
   |cons d l=>exact(Oh 93 h Y.o (by
    rw[Pc];obtain⟨a,b,_⟩:=H d (.head _);cases d with
    |nil=>exact absurd rfl b
    |cons c d=>simpa using a)).mono (fun e w' q=>⟨false,q.1,C.o.trans q.2.2,.inr ⟨rfl,_,d,l,wQ _,H,q.2.1,Y.o,B.o⟩⟩))
  clear h k2 f E F C H Y B c1;go_wp2_with fail;refine p.o.mono ?_;rintro _ w3 ⟨b,rfl,R⟩;have X:=Aa R;clear R p;go_wp2;go_loopg [3] M.length (fun m v3 wr=>∃b,v3=.bool b/\AR w t s K r m b wr)
  case atStart=>exact⟨b,rfl,X.o⟩
  case round=>
   obtain⟨b,rfl,P,q⟩:=hrel;have u:=Aa P;clear P X e;rcases q with⟨rfl,v⟩|⟨rfl,j,d,l,a1,H,v,G,I⟩
   ·have L:=Aa v
    clear v;go_wp2;go_end0;exact⟨rfl,L.o,u.o⟩
   have c0:=Ac v.1;rw[Pc]at G I;have aj:Dr s j (d++(Hh l++93::r)):=by simpa using G
   have ah:=Aa ((H d (.head _)).2.2 wr j _ v aj (by
    unfold Hh;split
    ·exact Qj (by decide)
    ·exact Qj (by decide)))
   have J:=Aa aj.app;have ab:j+d.length+(Hh l).length+1=K:=by rw[<-I];simp;omega
   have az:=fun x D=>H x (.tail d D);generalize j+d.length=Z at*;clear v G aj H I;unfold TR at ah;go_wp2_with fail;refine ah.o.mono ?_;rintro _ w4 ⟨rfl,av,aI⟩;have ar:=Aa av;have ap:=Aa (u.o.trans aI);clear av aI ah u;cases l with
   |nil=>
    have p:=Aa (MB 93 ar.o J.o);unfold TR at p;have B:=Aa (show Z+1=K from ab);clear ab az;go_wp2_with fail;refine p.o.mono ?_;rintro _ w5 ⟨rfl,S,U⟩;have aN:=Aa S;have af:=Aa (ap.o.trans U);clear S U p;go_wp2;go_roundg 0
    case measure=>omega
    case rel=>exact⟨true,rfl,af.o,.inl ⟨rfl,by rw[<-B.o];exact aN.o⟩⟩
   |cons d l=>
    have p:=Aa (Oh 93 ar.o J.o (by simp[Hh]));have B:=Aa (show Z+1+(AU (d::l)).length+1=K from by rw[<-ab];simp[Hh];omega);have ao:=Aa (show Dr s Z (44::(AU (d::l)++93::r))from J.o);rw[xU]at a1;unfold TR at p;clear ab J;go_wp2_with fail;refine p.o.mono ?_;rintro _ w5 ⟨rfl,S,U⟩;have af:=Aa (ap.o.trans U);have f:=Aa (Lx ⟨#[44]⟩ (by decide) S ao.o);unfold TR at f;clear S U p;go_wp2_with fail;refine f.o.mono ?_;rintro _ w6 ⟨rfl,aw,aJ⟩;have aL:=Aa (af.o.trans aJ);have aO:=Aa aw;clear aw aJ f;go_wp2;go_roundg (l.length+1)
    case measure=>omega
    case rel=>exact⟨false,rfl,aL.o,.inr ⟨rfl,Z+1,d,l,wQ _,az,aO.o,ao.o.cons.2.2,B.o⟩⟩
theorem uY{t:Nat}{s:yF}{d:List UInt8}(a:JV d):VC t s d:=by
 induction a with
 |null=>exact Ly (.word ⟨#[110,117,108,108]⟩ (.inl rfl))
 |tru=>exact Ly (.word ⟨#[116,114,117,101]⟩ (.inr (.inl rfl)))
 |fals=>exact Ly (.word ⟨#[102,97,108,115,101]⟩ (.inr (.inr rfl)))
 |num n=>
  obtain⟨m,l,f,g,e⟩:=VA n;rw[e];exact Ly (.num m l f g)
 |str x h=>exact Ly (.str x h)
 |arr c a b=>exact Ly (.arr c fun d hd=>⟨(a d hd).hd,(a d hd).ne,b d hd⟩)
 |obj i a _ b=>exact Ly (.obj i a b)
end Go.Proofs.YtogdodlibkckkaaGreatDoor
