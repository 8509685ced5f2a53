import Derived.Test.YtogdodlibkckkaaGreatDoorZ16
import Derived.Test.YtogdodlibkckkaaGreatDoorZ11
import Derived.Deep.DeepCutAuto
namespace Go.Proofs.YtogdodlibkckkaaGreatDoor
set_option maxHeartbeats 20000000
set_option maxRecDepth 100000
open Go.RowKit Tryz
open Go.Maps Tryz
abbrev AN:=List (yF×PV)
def BH:AN->yF->Option PV
 |[],_=>none
 |(n,v)::l,x=>if x=n then some v else BH l x
def EP(v:PV):DataW Unit:=.agg [.lit (.int .i64 v.1),.lit (.int .i64 v.2.1),.lit (.string v.2.2.data.toList)]
def Fu:Value->Option (DataW Unit×List MemPlace)
 | .agg ⟨[.int .i64 k,.int .i64 n,.string t]⟩=>some (.agg [.lit (.int .i64 k),.lit (.int .i64 n),.lit (.string t.data.toList)],[])
 |_=>none
def Hd(v:PV):Value:=.agg #[.int .i64 v.1,.int .i64 v.2.1,.string v.2.2]
theorem Jn(v:PV):Fu (Hd v)=some (EP v,[]):=rfl
theorem Zi{u:Value}{v:PV}{h:List MemPlace}(a:Fu u=some (EP v,h)):u=Hd v:=by
 unfold Fu at a;split at a
 ·rename_i k n t
  simp only[Option.some.injEq,Prod.mk.injEq,EP,DataW.agg.injEq,List.cons.injEq,DataW.lit.injEq,Lit.int.injEq,Lit.string.injEq,true_and,and_true]at a;obtain⟨⟨c,f,b⟩,_⟩:=a;subst c f;have e:t=v.2.2:=by
   cases t with
   |mk d=>
    cases g:v.2.2 with
    |mk d'=>rw[g]at b;simp only[]at b;rw[Array.toList_inj.1 b]
  rw[e];rfl
 ·cases a
abbrev BT(w:World)(M n:Nat)(D:DataW Unit):Prop:=w.ownsMap prog 9 Fu M n D
structure VM(D:DataW Unit)(l:AN):Prop where
 tidy:Tidy D
 has:∀x,Maps.has D (kl x)=(BH l x).isSome
 val:∀x v,BH l x=some v->∀z,D.atKey (kl x) z=EP v
 non:∀x,BH l x=none->∀z,D.atKey (kl x) z=z
theorem VM.nil:VM (.map []) []:=⟨tidy_empty,fun x=>by simp[Maps.has,BH],fun x v a=>by simp[BH]at a,fun x _ z=>by simp[DataW.atKey]⟩
theorem VM.put{D:DataW Unit}{l:AN}(b:VM D l)(x:yF)(v:PV):VM (D.put (kl x) (EP v)) ((x,v)::l):=by
 refine⟨b.tidy.put (Ie x) _,fun y=>?_,fun y u a z=>?_,fun y a z=>?_⟩
 ·by_cases e:y=x
  ·subst e;rw[has_put_same b.tidy.isMap (Ie y)];simp[BH]
  ·rw[has_put_other (fun c=>e (Lg c)),b.has y];simp[BH,e]
 ·by_cases e:y=x
  ·subst e
   simp[BH]at a;subst a;exact atKey_put_same b.tidy.isMap (Ie y) _ z
  ·rw[atKey_put_other (fun c=>e (Lg c))]
   simp[BH,e]at a;exact b.val y u a z
 ·by_cases e:y=x
  ·subst e;simp[BH]at a
  ·rw[atKey_put_other (fun c=>e (Lg c))]
   simp[BH,e]at a;exact b.non y a z
theorem KG(w:World):(zeroValue 154).run prog w=.ok (Hd (0,0,⟨#[]⟩)) w:=by kernel_rfl
def IL(l:AN)(x:yF):PV:=(BH l x).getD (0,0,⟨#[]⟩)
theorem VM.get{D:DataW Unit}{l:AN}(b:VM D l){x:yF}{u:Value}{c:List MemPlace}(a:Fu u=some (D.atKey (kl x) (EP (0,0,⟨#[]⟩)),c)):u=Hd (IL l x):=by
 cases e:BH l x with
 |none=>rw[b.non x e]at a;rw[Zi a];unfold IL;rw[e];rfl
 |some v=>rw[b.val x v e]at a;rw[Zi a];unfold IL;rw[e];rfl
theorem BT.move{w w':World}{a n:Nat}{D:DataW Unit}(b:BT w a n D)(g:w'.heap[a]?=w.heap[a]?):BT w' a n D:=by
 obtain⟨es,clock,c,d,e,f⟩:=b;exact⟨es,clock,g.trans c,d,e,f⟩
theorem BT.lt{w:World}{a n:Nat}{D:DataW Unit}(b:BT w a n D):a<w.heap.size:=by
 obtain⟨es,clock,c,_⟩:=b;exact Ab c
theorem BT.below{w w':World}{a n:Nat}{D:DataW Unit}(b:BT w a n D)(hb:yG w w'):BT w' a n D:=b.move (hb.block _ b.lt)
theorem BT.keep{w w':World}{a n b:Nat}{D:DataW Unit}(c:BT w a n D)(k:Ag b w w')(d:a≠b):BT w' a n D:=c.move (k.block _ c.lt d)
def KA(s:St):yF:=(Ay s 3).s
def JO(l:AN)(s:St):St:=if (BH l (KA s)).isSome=true then none else nK s 3
def Jm(l:AN)(s:St):AN×St:=((KA s,valK (nK (JO l s) 9))::l,pVal (nK (JO l s) 9))
theorem uP{w:World}{b G:Nat}{s:St}(a:PS w b G s):(KA s).size<=4000:=by
 unfold KA Ay;split
 ·cases s with
  |none=>decide
  |some l=>cases l with
   |nil=>decide
   |cons t l=>exact(a.wf t (by simp)).2.2.1
 ·decide
theorem wD{w:World}{a n b G:Nat}{s:St}{D:DataW Unit}{l:AN}(q:PS w b G s)(L:BT w a n D)(t:VM D l)(hb:b<a)(aD:G<a)(aG:n<=100000):
 Calls prog 67 #[.map (some a),.pointer (some ⟨b,0,none⟩)] w fun e w'=>e=.returned (.tuple #[])/\PS w' b G (Jm l s).2/\(∃j,BT w' a (n+1) j/\VM j (Jm l s).1)/\CH b a w w':=by
 have ah:=Aa (show Calls prog 65 #[.pointer (some ⟨b,0,none⟩),.int .i64 3] w (fun e w'=>e=.returned (.agg #[.int .i64 (Ay s 3).k,.string (KA s),.int .i64 (Ay s 3).n])/\PS w' b G (nK s 3)/\Ag b w w')from Cj w b G s 3 q);have ai:=Ic (KA s) (uP q);have K:=t.has (KA s);have p:=Aa (JO.eq_1 l s);have ar:=Aa (Jm.eq_1 l s);generalize Jm l s=N at*;generalize JO l s=c at*;have S:=Aa (fun W (I:PS W b G c)=>(show Calls prog _ _ W (fun e w'=>_/\PS w' b G (nK c 9)/\_)from Cj W b G c 9 I));generalize nK c 9=z at*;have V:=Aa (fun W (I:PS W b G z)=>Ok W b G z I);generalize valK z=i at*;generalize pVal z=aM at*;generalize nK s 3=s1 at*;generalize (Ay c 9).k=aI at*;generalize (Ay c 9).n=aJ at*;generalize (Ay c 9).s=aK at*;generalize (Ay s 3).k=aA at*;generalize (Ay s 3).n=aB at*;generalize KA s=x at*;have aL:=Qg aA aB x;have R:=Aa L;have aq:=Aa t;have aF:=q.lt;have aE:=L.lt;have B:=Aa (fun(u:Value) (M:List MemPlace) (ax:Fu u=some (D.atKey (kl x) (EP (0,0,⟨#[]⟩)),M))=>t.get ax);clear q L t;obtain⟨d,ao⟩:∃d,Hi (d=IL l x):=⟨_,Aa rfl⟩;rw[<-ao.o]at B;go_enter func67,ntmps67;go_wp2_with fail;refine ah.o.mono ?_;rintro _ w1 ⟨rfl,ab,v⟩;have H:=R.o.keep v (by omega);have O:=Aa ab;have X:=Aa v;have aH:=v.size;clear ab v ah R;obtain⟨J,ap⟩:∃J:Bool,Hi (J=(BH l x).isSome):=⟨_,Aa rfl⟩;rw[<-ap.o]at K p
 go_upto_if 16 with(at_lookup;refine wpList_lookup_own_ok _ rfl _ _ 105 rfl 9 154 Ci underlying105 Fu (KG _) (EP (0,0,⟨#[]⟩)) [] (Jn _) a n D rfl H _ _ rfl ai ?_;intro aC M ay;rw[K];have aa:=B.o aC M ay;unfold Hd at aa;subst aa)
 have m:=Aa (show yG w1 (w1.alloc (.cells #[.int .i64 d.1,.int .i64 d.2.1,.string d.2.2] 154))from(wR _ _).alloc (wQ _) _);have A:=Aa (O.o.below m.o);have ae:=H.below m.o;have E:=Aa (X.o.trans (Ag.of_below m.o));generalize w1.alloc (.cells #[.int .i64 d.1,.int .i64 d.2.1,.string d.2.2] 154)=av at*;have C:=Aa ae;clear m O X H ae;go_cut [] (fun wc=>PS wc b G c/\BT wc a n D/\Ag b w wc)
 case first=>
  cases J
  ·have F:c=s1:=p.o
   subst F;go_wp2;go_meet;exact⟨A.o,C.o,E.o⟩
  ·have F:c=none:=p.o
   have am:=Aa (Gc av b G s1 A.o);go_wp2_with fail;refine am.o.mono ?_;rintro _ w4 ⟨rfl,r,h⟩;go_wp2;go_meet;rw[F];exact⟨r,C.o.keep h (by omega),E.o.trans h⟩
 case rest=>
 obtain⟨ad,af,ak⟩:=hcut;have P:=Aa ad;have T:=Aa af;have Y:=Aa ak;clear ad af ak A C E p B K;go_wp2_with fail;refine(S.o _ P.o).mono ?_;rintro _ w4 ⟨rfl,r,h⟩;have U:=Aa (T.o.keep h (by omega));have Z:=Aa (Y.o.trans h);have Q:=Aa r;clear r h T Y P S;go_wp2_with fail;refine(V.o _ Q.o).mono ?_;rintro _ w5 ⟨rfl,y⟩;have ag:=U.o.keep y.kp (by omega);have g:=Aa (Z.o.trans y.kp);have al:=Aa y.ps;clear y U Z Q V;have az:Fu (.agg #[.int .i64 i.1,.int .i64 i.2.1,.string i.2.2])=some (EP i,[]):=Jn i;go_wp2_with (at_mapUpdate;refine wpList_mapUpdate_own _ rfl _ _ _ 105 rfl 9 154 Ci underlying105 _ a n D rfl ag (by unfold maxLen;omega) _ _ _ rfl rfl ai _ [] az ?_;intro w6 aj f);have au:=Aa (show PS w6 b G N.2/\(∃j,BT w6 a (n+1) j/\VM j N.1)/\CH b a w w6 from by
  rw[ar.o];refine⟨al.o.grown' f (fun e=>by have:=xD e;omega) (fun e=>by have:=xD e;omega),⟨_,aj,aq.o.put x i⟩,?_⟩;exact⟨f.os.trans g.o.os,f.tape.trans g.o.tape,f.output.trans g.o.output,wV g.o.size f.size,fun k aw hb hF=>(f.block k (by have:=g.o.size;omega) (fun e=>hF (xD e))).trans (g.o.block k aw hb)⟩)
 clear aj f ag;go_wp2;go_end0;exact⟨rfl,au.o⟩
def FQ:Nat->AN->St->AN×St
 |0,l,s=>(l,s)
 |f+1,l,s=>if Ae s 3=true then FQ f (Jm l s).1 (Jm l s).2 else(l,s)
def FP(s:St):AN×Bool:=if Ec s=true then([],true)else((FQ 801 [] (nK s 14)).1,Ec (nK (FQ 801 [] (nK s 14)).2 15))
theorem vW(f:Nat)(l:AN)(s:St)(a:Ae s 3=false):FQ f l s=(l,s):=by
 cases f with
 |zero=>rfl
 |succ f=>rw[FQ,xG (by rw[a];simp)]
theorem nB(l:AN)(s:St):ln (Jm l s).2<=ln (nK s 3):=by
 refine wV (Sa _) (wV (FB _ _) ?_);unfold JO;split
 ·simp[ln]
 ·exact wQ _
theorem WO(w:World):(Instr.makeMap 105 none).run prog w=.ok (.map (some w.heap.size)) (w.alloc (.map #[] 0)):=by
 unfold Instr.makeMap;simp[go_sem]
theorem wC(x:yF)(w:World)(hs:x.size<=maxLen):
 Calls prog 41 #[.string x] w fun e w'=>∃M n D,e=.returned (.tuple #[.map (some M),.bool (FP (Ad x)).2])/\BT w' M n D/\VM D (FP (Ad x)).1/\n<=1000/\w.heap.size<=M/\yG w w':=by
 have am:=Aa (Qd x w hs);have j:=Aa (FP.eq_1 (Ad x));generalize FP (Ad x)=I at*;generalize Ad x=c at*;have aF:=WO;go_enter func41,ntmps41;go_wp2_with fail;refine am.o.mono ?_;rintro _ w1 ⟨b,G,rfl,hb,p,O⟩;have T:=O.size;have ay:=p.len;have aA:=p.lt;have aC:=p.glt;have K:=Aa (show BT (w1.alloc (.map #[] 0)) w1.heap.size 0 (.map [])from World.ownsMap_made w1 _ _ _);have t:=Aa (show yG w (w1.alloc (.map #[] 0))from O.alloc T _);have J:=Aa (p.alloc (.map #[] 0));have u:=Aa (Nq (w1.alloc (.map #[] 0)) b G c J.o);clear p O am;go_wp2_with fail;generalize w1.alloc (.map #[] 0)=af at*;refine u.o.mono ?_;rintro _ w2 ⟨rfl,R⟩;have R:=R.symm;subst R;cases N:Ec c
 rotate_left
 ·rw[N]at j
  have A:=Aa (show I=([],true)from j.o);go_wp2;go_ret2;rw[A.o];exact⟨_,0,_,rfl,K.o,VM.nil,by decide,T,t.o⟩
 rw[N]at j;have A:=Aa (show I=((FQ 801 [] (nK c 14)).1,Ec (nK (FQ 801 [] (nK c 14)).2 15))from j.o);have z:=Aa (show Calls prog _ _ af (fun e w'=>_/\PS w' b G (nK c 14)/\_)from Cj af b G c 14 J.o);have az:=FB c 14;generalize nK c 14=s1 at*;generalize (Ay c 14).k=aJ at*;generalize (Ay c 14).n=aK at*;generalize (Ay c 14).s=aL at*;clear j N u;go_wp2_with fail;refine z.o.mono ?_;rintro _ w3 ⟨rfl,ag,U⟩;have Z:=Aa (K.o.keep U (by omega));have X:=Aa (t.o.trans (U.below hb (t.o.size)));have V:=Aa ag;clear ag U z K t J;go_wp2;go_loopg [] (ln s1) (fun m wr=>∃(n:Nat) (D:DataW Unit) (l:AN) (a:St) (f:Nat),ln a<=m/\ln a<=f/\PS wr b G a/\BT wr w1.heap.size n D/\VM D l/\n+ln a<=801/\yG w wr/\FQ 801 [] s1=FQ f l a)
 case atStart=>exact⟨0,_,[],s1,801,wQ _,by omega,V.o,Z.o,VM.nil,by omega,X.o,rfl⟩
 case round=>
  obtain⟨n,D,l,a,f,aD,aB,Q,ah,aj,aG,P,hrel⟩:=hrel;have ab:=Aa Q;have aa:=Aa ah;have ae:=Aa aj;have Y:=Aa P;have y:=Aa hrel;have E:=Aa (Hg wr b G a 3 Q);have al:=P.size;clear Q ah aj P hrel V Z X;cases h:Ae a 3
  ·rw[h]at E
   have v:=Aa (show I=(l,Ec (nK a 15))from by rw[A.o,y.o,vW f l a h]);have z:=Aa (fun W (F:PS W b G a)=>(show Calls prog _ _ W (fun e w'=>_/\PS w' b G (nK a 15)/\_)from Cj W b G a 15 F));generalize nK a 15=H at*;generalize (Ay a 15).k=mk at*;generalize (Ay a 15).n=aH at*;generalize (Ay a 15).s=aI at*;clear h y A;go_wp2_with fail;refine E.o.mono ?_;rintro _ w5 ⟨rfl,g⟩;have ap:=Aa (ab.o.below g);have ar:=Aa (aa.o.below g);have i:=Aa (Y.o.trans (g.mono al));clear g;go_wp2_with fail;refine(z.o _ ap.o).mono ?_;rintro _ w6 ⟨rfl,q,d⟩;have u:=Aa (Nq w6 b G H q);have au:=Aa (ar.o.keep d (by omega));have aq:=Aa (i.o.trans (d.below hb i.o.size));clear q d;go_wp2_with fail;refine u.o.mono ?_;rintro _ w7 ⟨rfl,S⟩;have S:=S.symm;subst S;go_wp2;go_ret2;rw[v.o];exact⟨_,n,D,rfl,au.o,ae.o,by omega,T,aq.o⟩
  ·rw[h]at E
   have aE:=RW a 3 (by decide) h;have av:=nB l a;obtain⟨C,rfl⟩:∃C,f=C+1:=⟨f-1,by omega⟩;have v:=Aa (show FQ 801 [] s1=FQ C (Jm l a).1 (Jm l a).2 from by rw[y.o,FQ,xH h]);have L:=Aa (fun W (F:yG wr W)=>wD (ab.o.below F) (aa.o.below F) ae.o (by omega) (by omega) (by omega));clear h y;generalize Jm l a=r at*;obtain⟨aw,H⟩:=r;simp only[]at L v av;go_wp2_with fail;refine E.o.mono ?_;rintro _ w5 ⟨rfl,g⟩;have i:=Aa (Y.o.trans (g.mono al));have ad:=Aa (L.o _ g);clear g L;go_wp2_with fail;refine ad.o.mono ?_;rintro _ w6 ⟨rfl,q,⟨ao,ai,ak⟩,d⟩;have B:=Aa (xZ q (xZ ai (xZ ak (show yG w w6 from i.o.trans ⟨d.os,d.tape,d.output,d.size,fun k ax=>d.block k (by have:=i.o.size;omega) (by omega) (by omega)⟩))));clear q ai ak d ad;go_wp2;go_roundg (ln H)
   case measure=>omega
   case rel=>exact⟨n+1,ao,aw,H,C,wQ _,by omega,B.o.1,B.o.2.1,B.o.2.2.1,by omega,B.o.2.2.2,v.o⟩
theorem Cw{β:Type}{b:World}{B e size:Nat}{v:Value}{a:List β}{flat:β->List Value}(c:b.ownsRow B e size v a.length (a.flatMap flat))(d:∀x,(flat x).length=size)(j:Nat)(x:β)(f:a[j]?=some x):∃g cap,v=.slice (some ⟨g,0,none⟩) a.length cap/\∀k u,(flat x)[k]?=some u->b.cell? ⟨g,j*size+k,none⟩=some u:=
 BV.cell (ok:=fun _ _=>True) ⟨c,fun _ _=>trivial⟩ d j x f
theorem CQ.rd{b:World}{B0 i k:Nat}{pp:List Nat}{P:Ai}(s:CQ b B0 pp i P)(A:pp[i]?=some k):∃a cap,b.heap[k]?=some (.cells #[.string P.typ,.int .i64 i,.slice a P.sels.length cap] 223 (0,0))/\P.sels.length<=1000/\∀t x,P.sels[t]?=some x->∃g n p,a=some ⟨g,0,none⟩/\(∀c u,(sL pp (x,n,p))[c]?=some u->b.cell? ⟨g,t*6+c,none⟩=some u)/\DF b B0 pp.length (x,n,p)/\∃r,b.heap[g]?=some (.cells r 229 (0,0)):=by
 obtain⟨D,H,q,h,v,F,j,d,G,w⟩:=s.ex;have e:D=k:=by rw[A]at h;exact(xD h).symm
 subst e;obtain⟨a,cap,rfl⟩:=An d;have B:P.sels.length=q.length:=by rw[<-j,xT]
 refine⟨a,cap,by rw[B];exact v,by omega,fun t x l=>?_⟩;rw[<-j,xI]at l;obtain⟨y,m,rfl⟩:=yC.1 l;obtain⟨g,E,C,z⟩:=Cw d (fun _=>rfl) t y m;have f:=(Value.slice.inj C).1;exact⟨g,y.2.1,y.2.2,f,z,w y (wT m),FG d g (by rw[f];rfl)⟩
theorem kD{w w':World}{b g:Nat}{o:Obj}(k:Ag b w w')(a:w.heap[g]?=some o)(c:¬g=b)(i:Nat):w'.cell? ⟨g,i,none⟩=w.cell? ⟨g,i,none⟩:=by
 unfold World.cell?;rw[k.block g (Ab a) c]
theorem Eg{w:World}{a b:Nat}{cs f:Array Value}{T c:TypeId}{g h:Nat×Nat}(d:w.heap[a]?=some (.cells cs T g))(i:w.heap[b]?=some (.cells f c h))(k:T≠c):¬a=b:=fun e=>by
 rw[e,i]at d;have j:=xD d;exact k (Obj.cells.inj j).2.1.symm
def Gk(st:List Nat):Nat:=st.countP (· ==0)
def Ew(rec:Nat->List Nat->Bool×List Nat):List As->List Nat->Bool×List Nat
 |[],st=>(false,st)
 |x::l,st=>match x.part with
  |none=>Ew rec l st
  |some i=>if (rec i st).1=true then(true,(rec i st).2)else Ew rec l (rec i st).2
def Ax(parts:List Ai)(i:Nat):Ai:=parts.getD i ⟨⟨#[]⟩,[]⟩
def CK(parts:List Ai):Nat->Nat->List Nat->Bool×List Nat
 |0,_,st=>(false,st)
 |f+1,i,st=>
  if st.getD i 0=0 then
   if (Ew (CK parts f) (Ax parts i).sels (st.set i 1)).1=true then(true,(Ew (CK parts f) (Ax parts i).sels (st.set i 1)).2)
   else(false,(Ew (CK parts f) (Ax parts i).sels (st.set i 1)).2.set i 2)
  else(st.getD i 0==1,st)
theorem ZB(st:List Nat)(i v:Nat)(b:v≠0):Gk (st.set i v)<=Gk st:=by
 unfold Gk
 induction st generalizing i with
 |nil=>simp
 |cons a l c=>
  cases i with
  |zero=>simp[List.countP_cons,b]
  |succ i=>simp only[List.set_cons_succ,List.countP_cons];have:=c i;omega
theorem wP(st:List Nat)(i v:Nat)(c:v≠0)(b:st[i]?=some 0):Gk (st.set i v)+1=Gk st:=by
 unfold Gk
 induction st generalizing i with
 |nil=>simp at b
 |cons a l d=>
  cases i with
  |zero=>simp at b;subst b;simp[c]
  |succ i=>simp only[List.set_cons_succ,List.countP_cons];have:=d i (by simpa using b);omega
def Tu(rec:Nat->List Nat->Bool×List Nat):Prop:=∀i st,(rec i st).2.length=st.length/\Gk (rec i st).2<=Gk st
theorem Rb{rec:Nat->List Nat->Bool×List Nat}(a:Tu rec):∀(l:List As) (st:List Nat),(Ew rec l st).2.length=st.length/\Gk (Ew rec l st).2<=Gk st
 |[],st=>⟨rfl,wQ _⟩
 |x::l,st=>by
  rw[Ew];split
  ·exact Rb a l st
  ·rename_i i _
   have b:=a i st;split
   ·exact b
   ·have c:=Rb a l (rec i st).2
    exact⟨c.1.trans b.1,wV c.2 b.2⟩
theorem Rc(parts:List Ai):∀f,Tu (CK parts f)
 |0,i,st=>⟨rfl,wQ _⟩
 |f+1,i,st=>by
  rw[CK];have a:=Rb (Rc parts f) (Ax parts i).sels (st.set i 1);have b:=ZB st i 1 (by decide);split
  ·split
   ·exact⟨a.1.trans (by simp),wV a.2 b⟩
   ·have c:=ZB (Ew (CK parts f) (Ax parts i).sels (st.set i 1)).2 i 2 (by decide)
    exact⟨by rw[List.length_set,a.1];simp,wV c (wV a.2 b)⟩
  ·exact⟨rfl,wQ _⟩
def GK(st:List Nat):List Value:=st.map (fun(n:Nat)=>.int .i64 (n:Int))
theorem YV(st:List Nat)(i v:Nat):(GK st).toArray.setIfInBounds i (.int .i64 (v:Int))=(GK (st.set i v)).toArray:=by
 apply Array.ext';simp[GK,List.map_set]
theorem YU(st:List Nat)(i v:Nat)(a:st[i]?=some v):(GK st).toArray[i]?=some (.int .i64 (v:Int)):=by simp[GK,a]
section
variable {B0:Nat} {ps:List Nat} {parts:List Ai}
theorem cJ(aw:ps.length=parts.length):∀(f:Nat) (w:World) (i k Sb:Nat) (st:List Nat),Bl w B0 ps 0 parts->ps[i]?=some k->w.heap[Sb]?=some (.cells (GK st).toArray 290 (0,0))->st.length=ps.length->Gk st+1<=f->
 Calls prog 108 #[.pointer (some ⟨k,0,none⟩),.slice (some ⟨Sb,0,none⟩) ps.length ps.length] w fun e w'=>e=.returned (.bool (CK parts f i st).1)/\w'.heap[Sb]?=some (.cells (GK (CK parts f i st).2).toArray 290 (0,0))/\Ag Sb w w':=by
 intro f
 induction f with
 |zero=>intro w i k Sb st _ _ _ _ aj;omega
 |succ f aA=>
 intro w i k Sb st C ap h ay aQ;have aY:=Aa aw;have bb:i<ps.length:=FC ap;obtain⟨P,U⟩:∃P,parts[i]?=some P:=⟨_,wS (by omega)⟩;clear aw;have H:=C i P U;rw[Nat.zero_add]at H;obtain⟨a,cap,A,bd,Z⟩:=H.rd ap;obtain⟨v,I⟩:∃v,st[i]?=some v:=⟨_,wS (by omega)⟩;have ao:st.getD i 0=v:=by simp[List.getD,I]
 have ax:Ax parts i=P:=by simp[Ax,List.getD,U]
 have d:=Aa (show CK parts (f+1) i st=(if st.getD i 0=0 then(if (Ew (CK parts f) (Ax parts i).sels (st.set i 1)).1=true then(true,(Ew (CK parts f) (Ax parts i).sels (st.set i 1)).2)else(false,(Ew (CK parts f) (Ax parts i).sels (st.set i 1)).2.set i 2))else(st.getD i 0==1,st))from by rw[CK]);rw[ao,ax]at d;generalize CK parts (f+1) i st=L at*;have a4:=Ac A;have bj:=Ab A;have a2:w.cell? ⟨Sb,i,none⟩=some (.int .i64 v):=(Ac h i).trans (YU st i v I);have a8:=Ak h;have bi:=Ab h;have ar:¬k=Sb:=Eg A h (by decide);have ba:(i:Int)<ps.length:=by omega
 by_cases az:v=0
 ·subst az
  rw[xH rfl]at d;have aI:=Aa (show(w.setCell ⟨Sb,i,none⟩ (.int .i64 ((1:Nat):Int))).heap[Sb]?=some (.cells (GK (st.set i 1)).toArray 290 (0,0))from by rw[<-YV];exact AI h i _);have aR:=wP st i 1 (by decide) I;have bh:Gk (st.set i 1)+1<=f:=by omega
  have aH:=Aa C;have E:=Aa h;have aJ:=Aa Z;have aF:=Aa A;have aX:=Aa (Ed (i:=i) A ar (.int .i64 ((1:Nat):Int)));have a0:=Aa (C.typ' (AA.set h (by decide) i (.int .i64 ((1:Nat):Int))));have aE:=Aa (show Ag Sb w (w.setCell ⟨Sb,i,none⟩ (.int .i64 ((1:Nat):Int)))from(Ag.refl Sb w).setCell i _);have aM:(st.set i 1).length=ps.length:=by simp[ay]
  generalize aN:st.set i 1=st1 at*;clear aN Z C H A U ao ax I aQ ay aR;go_enter func108,ntmps108;go_wp2_with fail;have aD:=Aa aA;obtain⟨l,ae⟩:∃l,Hi (l=Ew (CK parts f) P.sels st1):=⟨_,Aa rfl⟩;rw[<-ae.o]at d;clear aA;generalize w.setCell ⟨Sb,i,none⟩ (.int .i64 ((1:Nat):Int))=a1 at*;go_loopg [6,34] P.sels.length (fun m v6 v34 wr=>∃(t:Nat) (b:List Nat),v34=.int .i64 t/\t<=P.sels.length/\P.sels.length-t<=m/\Ag Sb w wr/\wr.heap[Sb]?=some (.cells (GK b).toArray 290 (0,0))/\b.length=ps.length/\Gk b<=Gk st1/\l=Ew (CK parts f) (P.sels.drop t) b)
  case atStart=>exact⟨0,st1,rfl,wZ _,wQ _,aE.o,aI.o,aM,wQ _,by rw[ae.o];rfl⟩
  case round=>
   obtain⟨t,b,rfl,bf,bg,q,n,au,aS,hrel⟩:=hrel;have y:=Aa hrel;have ad:=Aa q;have af:=Aa n;have aC:=Ab n;by_cases av:t<P.sels.length
   ·have J:=wS av
    have F:P.sels.drop t=P.sels[t]::P.sels.drop (t+1):=xX av;generalize P.sels[t]=x at J F;obtain⟨g,bl,bm,rfl,X,G,a6,am⟩:=aJ.o t x J;obtain⟨O,R,T⟩:=An G.a;obtain⟨Q,S,ai⟩:=An G.c;simp only[]at T ai;subst T ai;have aL:=Eg am E.o (by decide);have gc:=fun c u (aj:(sL ps (x,Value.slice O x.args.length R,Value.slice Q x.conds.length S))[c]?=some u)=>(kD q am aL (t*6+c)).trans (X c u aj);have aV:wr.cell? ⟨g,t*6,none⟩=some (.int .i64 x.kind):=by simpa using gc 0 _ rfl
    have bn:wr.cell? ⟨g,t*6+1,none⟩=some (.string x.key):=gc 1 _ rfl;have bo:wr.cell? ⟨g,t*6+2,none⟩=some (.string x.name):=gc 2 _ rfl;have bp:wr.cell? ⟨g,t*6+3,none⟩=some (.slice O x.args.length R):=gc 3 _ rfl;have bq:wr.cell? ⟨g,t*6+4,none⟩=some (.slice Q x.conds.length S):=gc 4 _ rfl;have ah:=Aa (show wr.cell? ⟨g,t*6+5,none⟩=some (AO ps x.part)from gc 5 _ rfl);have bc:g<wr.heap.size:=wW wr _ aV;have V:=G.p;have aZ:=Aa G;rw[F]at y;cases z:x.part with
    |none=>
     have s:=Aa (show l=Ew (CK parts f) (P.sels.drop (t+1)) b from by rw[y.o,Ew,z]);have aW:wr.cell? ⟨g,t*6+5,none⟩=some (.pointer none):=by have:=ah.o;rw[z]at this;exact this
     clear X gc J F y V z hrel n q;go_wp2;go_roundg (P.sels.length-(t+1))
     case measure=>omega
     case rel=>exact⟨t+1,b,by go_num,by omega,wQ _,ad.o.alloc _,(AJ _ _ _ aC).trans af.o,au,aS,s.o⟩
    |some j=>
     obtain⟨D,aq⟩:∃D,ps[j]?=some D:=⟨_,wS (V j z)⟩;have aW:wr.cell? ⟨g,t*6+5,none⟩=some (.pointer (some ⟨D,0,none⟩)):=by have:=ah.o;rw[z]at this;rw[this];simp[AO,aq]
     have M:=Aa (fun W (al:yG wr W)=>aD.o W j D Sb b ((aH.o.typ' (AA.keep q E.o (by decide))).typ' (AA.below al)) aq ((al.block _ aC).trans af.o) au (by omega));have aT:=Rc parts f j b;have s:=Aa (show l=if (CK parts f j b).1=true then(true,(CK parts f j b).2)else Ew (CK parts f) (P.sels.drop (t+1)) (CK parts f j b).2 from by rw[y.o,Ew,z]);generalize CK parts f j b=r at*;obtain⟨aU,st2⟩:=r;simp only[]at M aT s;clear X gc J F y V z hrel n q;go_wp2_with fail;have aa:=Aa (show yG wr (wr.alloc (.cells #[.int .i64 x.kind,.string x.key,.string x.name,.slice O x.args.length R,.slice Q x.conds.length S,.pointer (some ⟨D,0,none⟩)] 229))from(wR _ _).alloc (wQ _) _);refine(M.o _ aa.o).mono ?_;rintro _ w5 ⟨rfl,ak,aB⟩;have ag:=Aa ak;have ab:=Aa ((ad.o.trans (Ag.of_below aa.o)).trans aB);clear ak aB M;cases aU
     ·have N:=Aa (show l=Ew (CK parts f) (P.sels.drop (t+1)) st2 from s.o)
      go_wp2;go_roundg (P.sels.length-(t+1))
      case measure=>omega
      case rel=>exact⟨t+1,st2,by go_num,by omega,wQ _,ab.o,ag.o,by omega,by omega,N.o⟩
     ·have N:=Aa (show l=(true,st2)from s.o)
      rw[N.o]at d;have B:=Aa (show L=(true,st2)from d.o);go_wp2;go_ret;rw[B.o];exact⟨rfl,ag.o,ab.o⟩
   ·have aO:t=P.sels.length:=by omega
    subst aO;have s:=Aa (show l=(false,b)from by rw[y.o,List.drop_length];rfl);rw[s.o]at d;have B:=Aa (show L=(false,b.set i 2)from d.o);have Y:=q.at aF.o ar;have a5:=Ac Y;have bk:=Ab Y;have a9:=Ak n;have aK:=Aa (show(wr.setCell ⟨Sb,i,none⟩ (.int .i64 ((2:Nat):Int))).heap[Sb]?=some (.cells (GK (b.set i 2)).toArray 290 (0,0))from by rw[<-YV];exact AI n i _);have aG:=Aa (q.setCell i (.int .i64 ((2:Nat):Int)));obtain⟨K,aP⟩:∃K,b[i]?=some K:=⟨_,wS (by omega)⟩;have a3:wr.cell? ⟨Sb,i,none⟩=some (.int .i64 K):=(Ac n i).trans (YU b i K aP);clear n q Y y hrel;go_wp2;go_ret;rw[B.o];exact⟨rfl,aK.o,aG.o⟩
 ·rw[xG az]at d
  have a7:((v:Int)!=0)=true:=by simp;omega
  have E:=Aa h;have B:=Aa (show L=(v==1,st)from d.o);have T:((v:Int)==1)=(v==1):=by
   rw[Bool.eq_iff_iff];simp;omega
  clear h Z C H A;go_enter func108,ntmps108;go_wp2;go_ret;rw[B.o];exact⟨by simp,E.o,Ag.refl _ _⟩
end
end Go.Proofs.YtogdodlibkckkaaGreatDoor
