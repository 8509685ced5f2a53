import Derived.Test.YtadneapobijejaaGreatDoorC16
import Derived.Test.YtadneapobijejaaGreatDoorC11
import Derived.Deep.DeepCutAuto
namespace Go.Proofs.YtadneapobijejaaGreatDoor
set_option maxHeartbeats 20000000
set_option maxRecDepth 100000
open Go.RowKit Tryz
open Go.Maps Tryz
abbrev AL:=List (vD×PV)
def BF:AL->vD->Option PV
 |[],_=>none
 |(n,v)::l,x=>if x=n then some v else BF l x
def EE(v:PV):DataW Unit:=.agg [.lit (.int .i64 v.1),.lit (.int .i64 v.2.1),.lit (.string v.2.2.data.toList)]
def Ff:Value->Option (DataW Unit×List MemPlace)
 | .agg ⟨[.int .i64 k,.int .i64 n,.string t]⟩=>some (.agg [.lit (.int .i64 k),.lit (.int .i64 n),.lit (.string t.data.toList)],[])
 |_=>none
def GP(v:PV):Value:=.agg #[.int .i64 v.1,.int .i64 v.2.1,.string v.2.2]
theorem Jc(v:PV):Ff (GP v)=some (EE v,[]):=rfl
theorem Yi{u:Value}{v:PV}{ps:List MemPlace}(h:Ff u=some (EE v,ps)):u=GP v:=by
 unfold Ff at h;split at h
 ·rename_i k n t
  simp only[Option.some.injEq,Prod.mk.injEq,EE,DataW.agg.injEq,List.cons.injEq,DataW.lit.injEq,Lit.int.injEq,Lit.string.injEq,true_and,and_true]at h;obtain⟨⟨h1,h2,h3⟩,_⟩:=h;subst h1 h2;have e:t=v.2.2:=by
   cases t with
   |mk d=>
    cases hv:v.2.2 with
    |mk d'=>rw[hv]at h3;simp only[]at h3;rw[Array.toList_inj.1 h3]
  rw[e];rfl
 ·cases h
abbrev BQ(w:World)(M n:Nat)(D:DataW Unit):Prop:=w.ownsMap prog 9 Ff M n D
structure VM(D:DataW Unit)(l:AL):Prop where
 tidy:Tidy D
 has:∀x,Maps.has D (kl x)=(BF l x).isSome
 val:∀x v,BF l x=some v->∀z,D.atKey (kl x) z=EE v
 non:∀x,BF l x=none->∀z,D.atKey (kl x) z=z
theorem VM.nil:VM (.map []) []:=⟨tidy_empty,fun x=>by simp[Maps.has,BF],fun x v h=>by simp[BF]at h,fun x _ z=>by simp[DataW.atKey]⟩
theorem VM.put{D:DataW Unit}{l:AL}(h:VM D l)(x:vD)(v:PV):VM (D.put (kl x) (EE v)) ((x,v)::l):=by
 refine⟨h.tidy.put (Hq x) _,fun y=>?_,fun y u hy z=>?_,fun y hy z=>?_⟩
 ·by_cases e:y=x
  ·subst e;rw[has_put_same h.tidy.isMap (Hq y)];simp[BF]
  ·rw[has_put_other (fun h'=>e (KO h')),h.has y];simp[BF,e]
 ·by_cases e:y=x
  ·subst e
   simp[BF]at hy;subst hy;exact atKey_put_same h.tidy.isMap (Hq y) _ z
  ·rw[atKey_put_other (fun h'=>e (KO h'))]
   simp[BF,e]at hy;exact h.val y u hy z
 ·by_cases e:y=x
  ·subst e;simp[BF]at hy
  ·rw[atKey_put_other (fun h'=>e (KO h'))]
   simp[BF,e]at hy;exact h.non y hy z
theorem Km(w:World):(zeroValue 116).run prog w=.ok (GP (0,0,⟨#[]⟩)) w:=by kernel_rfl
def Iz(l:AL)(x:vD):PV:=(BF l x).getD (0,0,⟨#[]⟩)
theorem VM.get{D:DataW Unit}{l:AL}(h:VM D l){x:vD}{u:Value}{ps:List MemPlace}(hu:Ff u=some (D.atKey (kl x) (EE (0,0,⟨#[]⟩)),ps)):u=GP (Iz l x):=by
 cases e:BF l x with
 |none=>rw[h.non x e]at hu;rw[Yi hu];unfold Iz;rw[e];rfl
 |some v=>rw[h.val x v e]at hu;rw[Yi hu];unfold Iz;rw[e];rfl
theorem BQ.move{w w':World}{M n:Nat}{D:DataW Unit}(h:BQ w M n D)(hk:w'.heap[M]?=w.heap[M]?):BQ w' M n D:=by
 obtain⟨es,clock,h1,h2,h3,h4⟩:=h;exact⟨es,clock,hk.trans h1,h2,h3,h4⟩
theorem BQ.lt{w:World}{M n:Nat}{D:DataW Unit}(h:BQ w M n D):M<w.heap.size:=by
 obtain⟨es,clock,h1,_⟩:=h;exact Ab h1
theorem BQ.below{w w':World}{M n:Nat}{D:DataW Unit}(h:BQ w M n D)(hb:vE w w'):BQ w' M n D:=h.move (hb.block _ h.lt)
theorem BQ.keep{w w':World}{M n b:Nat}{D:DataW Unit}(h:BQ w M n D)(k:Ag b w w')(hne:M≠b):BQ w' M n D:=h.move (k.block _ h.lt hne)
def Kh(s:St):vD:=(Ay s 3).s
def JD(l:AL)(s:St):St:=if (BF l (Kh s)).isSome=true then none else nK s 3
def Jb(l:AL)(s:St):AL×St:=((Kh s,valK (nK (JD l s) 9))::l,pVal (nK (JD l s) 9))
theorem sA{w:World}{b G:Nat}{s:St}(h:PS w b G s):(Kh s).size<=4000:=by
 unfold Kh Ay;split
 ·cases s with
  |none=>decide
  |some l=>cases l with
   |nil=>decide
   |cons t l=>exact(h.wf t (by simp)).2.2.1
 ·decide
theorem sZ{w:World}{M n b G:Nat}{s:St}{D:DataW Unit}{l:AL}(h:PS w b G s)(hm:BQ w M n D)(hv:VM D l)(hb:b<M)(hg:G<M)(hn:n<=100000):
 Calls prog 38 #[.map (some M),.pointer (some ⟨b,0,none⟩)] w fun e w'=>e=.returned (.tuple #[])/\PS w' b G (Jb l s).2/\(∃D',BQ w' M (n+1) D'/\VM D' (Jb l s).1)/\CC b M w w':=by
 have hc:=Aa (show Calls prog 36 #[.pointer (some ⟨b,0,none⟩),.int .i64 3] w (fun e w'=>e=.returned (.agg #[.int .i64 (Ay s 3).k,.string (Kh s),.int .i64 (Ay s 3).n])/\PS w' b G (nK s 3)/\Ag b w w')from Cc w b G s 3 h);have hkey:=Ho (Kh s) (sA h);have hhas:=hv.has (Kh s);have HTS:=Aa (JD.eq_1 l s);have HVV:=Aa (Jb.eq_1 l s);generalize Jb l s=FF at*;generalize JD l s=s2 at*;have HN:=Aa (fun W (hW:PS W b G s2)=>(show Calls prog _ _ W (fun e w'=>_/\PS w' b G (nK s2 9)/\_)from Cc W b G s2 9 hW));generalize nK s2 9=s3 at*;have HV:=Aa (fun W (hW:PS W b G s3)=>NK W b G s3 hW);generalize valK s3=vv at*;generalize pVal s3=s4 at*;generalize nK s 3=s1 at*;generalize (Ay s2 9).k=nk2 at*;generalize (Ay s2 9).n=nn2 at*;generalize (Ay s2 9).s=ny2 at*;generalize (Ay s 3).k=nk at*;generalize (Ay s 3).n=nn at*;generalize Kh s=x at*;have rf:=Pm nk nn x;have HM:=Aa hm;have HVM:=Aa hv;have hlb:=h.lt;have hlM:=hm.lt;have HG:=Aa (fun(u:Value) (ps:List MemPlace) (hu:Ff u=some (D.atKey (kl x) (EE (0,0,⟨#[]⟩)),ps))=>hv.get hu);clear h hm hv;obtain⟨gv,HGV⟩:∃gv,Hi (gv=Iz l x):=⟨_,Aa rfl⟩;rw[<-HGV.o]at HG;go_enter func38,ntmps38;go_wp2_with fail;refine hc.o.mono ?_;rintro _ w1 ⟨rfl,h1,k1⟩;have hO1:=HM.o.keep k1 (by omega);have H1:=Aa h1;have K1:=Aa k1;have hz1:=k1.size;clear h1 k1 hc HM;obtain⟨hb',HHB⟩:∃hb':Bool,Hi (hb'=(BF l x).isSome):=⟨_,Aa rfl⟩;rw[<-HHB.o]at hhas HTS
 go_upto_if 16 with(at_lookup;refine wpList_lookup_own_ok _ rfl _ _ 66 rfl 9 116 Ca underlying66 Ff (Km _) (EE (0,0,⟨#[]⟩)) [] (Jc _) M n D rfl hO1 _ _ rfl hkey ?_;intro uv ps huv;rw[hhas];have euv:=HG.o uv ps huv;unfold GP at euv;subst euv)
 have HA:=Aa (show vE w1 (w1.alloc (.cells #[.int .i64 gv.1,.int .i64 gv.2.1,.string gv.2.2] 116))from(tM _ _).alloc (tL _) _);have H2:=Aa (H1.o.below HA.o);have hO2:=hO1.below HA.o;have K2:=Aa (K1.o.trans (Ag.of_below HA.o));generalize w1.alloc (.cells #[.int .i64 gv.1,.int .i64 gv.2.1,.string gv.2.2] 116)=W2 at*;have HO2:=Aa hO2;clear HA H1 K1 hO1 hO2;go_cut [] (fun wc=>PS wc b G s2/\BQ wc M n D/\Ag b w wc)
 case first=>
  cases hb'
  ·have e2:s2=s1:=HTS.o
   subst e2;go_wp2_with fail;go_meet;exact⟨H2.o,HO2.o,K2.o⟩
  ·have e2:s2=none:=HTS.o
   have HF:=Aa (FO W2 b G s1 H2.o);go_wp2_with fail;refine HF.o.mono ?_;rintro _ w4 ⟨rfl,h4,k4⟩;go_wp2_with fail;go_meet;rw[e2];exact⟨h4,HO2.o.keep k4 (by omega),K2.o.trans k4⟩
 case rest=>
 obtain⟨h3,hO3,k3⟩:=hcut;have H3:=Aa h3;have HO3:=Aa hO3;have K3:=Aa k3;clear h3 hO3 k3 H2 HO2 K2 HTS HG hhas;go_wp2_with fail;refine(HN.o _ H3.o).mono ?_;rintro _ w4 ⟨rfl,h4,k4⟩;have HO4:=Aa (HO3.o.keep k4 (by omega));have K4:=Aa (K3.o.trans k4);have H4:=Aa h4;clear h4 k4 HO3 K3 H3 HN;go_wp2_with fail;refine(HV.o _ H4.o).mono ?_;rintro _ w5 ⟨rfl,q5⟩;have hO5:=HO4.o.keep q5.kp (by omega);have K5:=Aa (K4.o.trans q5.kp);have H5:=Aa q5.ps;clear q5 HO4 K4 H4 HV;have hval:Ff (.agg #[.int .i64 vv.1,.int .i64 vv.2.1,.string vv.2.2])=some (EE vv,[]):=Jc vv;go_wp2_with (at_mapUpdate;refine wpList_mapUpdate_own _ rfl _ _ _ 66 rfl 9 116 Ca underlying66 _ M n D rfl hO5 (by unfold maxLen;omega) _ _ _ rfl rfl hkey _ [] hval ?_;intro w6 wM hgrow6);have HX:=Aa (show PS w6 b G FF.2/\(∃D',BQ w6 M (n+1) D'/\VM D' FF.1)/\CC b M w w6 from by
  rw[HVV.o];refine⟨H5.o.grown' hgrow6 (fun e=>by have:=tY e;omega) (fun e=>by have:=tY e;omega),⟨_,wM,HVM.o.put x vv⟩,?_⟩;exact⟨hgrow6.os.trans K5.o.os,hgrow6.tape.trans K5.o.tape,hgrow6.output.trans K5.o.output,tQ K5.o.size hgrow6.size,fun k hk hb hF=>(hgrow6.block k (by have:=K5.o.size;omega) (fun e=>hF (tY e))).trans (K5.o.block k hk hb)⟩)
 clear wM hgrow6 hO5;go_wp2_with fail;go_end0;exact⟨rfl,HX.o⟩
def FD:Nat->AL->St->AL×St
 |0,l,s=>(l,s)
 |f+1,l,s=>if Ad s 3=true then FD f (Jb l s).1 (Jb l s).2 else(l,s)
def FZ(s:St):AL×Bool:=if Eb s=true then([],true)else((FD 801 [] (nK s 14)).1,Eb (nK (FD 801 [] (nK s 14)).2 15))
theorem sT(f:Nat)(l:AL)(s:St)(h:Ad s 3=false):FD f l s=(l,s):=by
 cases f with
 |zero=>rfl
 |succ f=>rw[FD,uB (by rw[h];simp)]
theorem jS(l:AL)(s:St):ln (Jb l s).2<=ln (nK s 3):=by
 refine tQ (Rl _) (tQ (Ft _ _) ?_);unfold JD;split
 ·simp[ln]
 ·exact tL _
theorem VF(w:World):(Instr.makeMap 66 none).run prog w=.ok (.map (some w.heap.size)) (w.alloc (.map #[] 0)):=by
 unfold Instr.makeMap;simp[go_sem]
theorem sY(x:vD)(w:World)(hs:x.size<=maxLen):
 Calls prog 18 #[.string x] w fun e w'=>∃M n D,e=.returned (.tuple #[.map (some M),.bool (FZ (Af x)).2])/\BQ w' M n D/\VM D (FZ (Af x)).1/\n<=1000/\w.heap.size<=M/\vE w w':=by
 have hc:=Aa (Pg x w hs);have HQ:=Aa (FZ.eq_1 (Af x));generalize FZ (Af x)=FF at*;generalize Af x=s0 at*;have hmm:=VF;go_enter func18,ntmps18;go_wp2_with fail;refine hc.o.mono ?_;rintro _ w1 ⟨b,G,rfl,hb,h1,hB⟩;have hws:=hB.size;have hl0:=h1.len;have hlb:=h1.lt;have hlg:=h1.glt;have HM1:=Aa (show BQ (w1.alloc (.map #[] 0)) w1.heap.size 0 (.map [])from World.ownsMap_made w1 _ _ _);have HB1:=Aa (show vE w (w1.alloc (.map #[] 0))from hB.alloc hws _);have H1:=Aa (h1.alloc (.map #[] 0));have HD:=Aa (MQ (w1.alloc (.map #[] 0)) b G s0 H1.o);clear h1 hB hc;go_wp2_with fail;generalize w1.alloc (.map #[] 0)=W1 at*;refine HD.o.mono ?_;rintro _ w2 ⟨rfl,hw2⟩;have hw2:=hw2.symm;subst hw2;cases ed:Eb s0
 rotate_left
 ·rw[ed]at HQ
  have HQ2:=Aa (show FF=([],true)from HQ.o);go_wp2_with fail;go_ret2;rw[HQ2.o];exact⟨_,0,_,rfl,HM1.o,VM.nil,by decide,hws,HB1.o⟩
 rw[ed]at HQ;have HQ2:=Aa (show FF=((FD 801 [] (nK s0 14)).1,Eb (nK (FD 801 [] (nK s0 14)).2 15))from HQ.o);have HN:=Aa (show Calls prog _ _ W1 (fun e w'=>_/\PS w' b G (nK s0 14)/\_)from Cc W1 b G s0 14 H1.o);have hl1:=Ft s0 14;generalize nK s0 14=s1 at*;generalize (Ay s0 14).k=nk at*;generalize (Ay s0 14).n=nn at*;generalize (Ay s0 14).s=ny at*;clear HQ ed HD;go_wp2_with fail;refine HN.o.mono ?_;rintro _ w3 ⟨rfl,h3,k3⟩;have HM3:=Aa (HM1.o.keep k3 (by omega));have HB3:=Aa (HB1.o.trans (k3.below hb (HB1.o.size)));have H3:=Aa h3;clear h3 k3 HN HM1 HB1 H1;go_wp2_with fail;go_loopg [] (ln s1) (fun m wr=>∃(n:Nat) (D:DataW Unit) (l:AL) (s':St) (f:Nat),ln s'<=m/\ln s'<=f/\PS wr b G s'/\BQ wr w1.heap.size n D/\VM D l/\n+ln s'<=801/\vE w wr/\FD 801 [] s1=FD f l s')
 case atStart=>exact⟨0,_,[],s1,801,tL _,by omega,H3.o,HM3.o,VM.nil,by omega,HB3.o,rfl⟩
 case round=>
  obtain⟨n,D,l,s',f,hlk,hlf,hr,hO,hV,hnl,hBr,hrel⟩:=hrel;have HR:=Aa hr;have HO:=Aa hO;have HV:=Aa hV;have HBr:=Aa hBr;have HM:=Aa hrel;have hSE:=Aa (GS wr b G s' 3 hr);have hbz:=hBr.size;clear hr hO hV hBr hrel H3 HM3 HB3;cases e3:Ad s' 3
  ·rw[e3]at hSE
   have HE:=Aa (show FF=(l,Eb (nK s' 15))from by rw[HQ2.o,HM.o,sT f l s' e3]);have HN:=Aa (fun W (hW:PS W b G s')=>(show Calls prog _ _ W (fun e w'=>_/\PS w' b G (nK s' 15)/\_)from Cc W b G s' 15 hW));generalize nK s' 15=s2 at*;generalize (Ay s' 15).k=mk at*;generalize (Ay s' 15).n=mn at*;generalize (Ay s' 15).s=my at*;clear e3 HM HQ2;go_wp2_with fail;refine hSE.o.mono ?_;rintro _ w5 ⟨rfl,b5⟩;have H5:=Aa (HR.o.below b5);have HO5:=Aa (HO.o.below b5);have HB5:=Aa (HBr.o.trans (b5.mono hbz));clear b5;go_wp2_with fail;refine(HN.o _ H5.o).mono ?_;rintro _ w6 ⟨rfl,h6,k6⟩;have HD:=Aa (MQ w6 b G s2 h6);have HO6:=Aa (HO5.o.keep k6 (by omega));have HB6:=Aa (HB5.o.trans (k6.below hb HB5.o.size));clear h6 k6;go_wp2_with fail;refine HD.o.mono ?_;rintro _ w7 ⟨rfl,hw7⟩;have hw7:=hw7.symm;subst hw7;go_wp2_with fail;go_ret2;rw[HE.o];exact⟨_,n,D,rfl,HO6.o,HV.o,by omega,hws,HB6.o⟩
  ·rw[e3]at hSE
   have hlt:=Rh s' 3 (by decide) e3;have hlv:=jS l s';obtain⟨f',rfl⟩:∃f',f=f'+1:=⟨f-1,by omega⟩;have HE:=Aa (show FD 801 [] s1=FD f' (Jb l s').1 (Jb l s').2 from by rw[HM.o,FD,uC e3]);have HT:=Aa (fun W (hW:vE wr W)=>sZ (HR.o.below hW) (HO.o.below hW) HV.o (by omega) (by omega) (by omega));clear e3 HM;generalize Jb l s'=r at*;obtain⟨l2,s2⟩:=r;simp only[]at HT HE hlv;go_wp2_with fail;refine hSE.o.mono ?_;rintro _ w5 ⟨rfl,b5⟩;have HB5:=Aa (HBr.o.trans (b5.mono hbz));have HT5:=Aa (HT.o _ b5);clear b5 HT;go_wp2_with fail;refine HT5.o.mono ?_;rintro _ w6 ⟨rfl,h6,⟨D6,hO6,hV6⟩,k6⟩;have HX:=Aa (uV h6 (uV hO6 (uV hV6 (show vE w w6 from HB5.o.trans ⟨k6.os,k6.tape,k6.output,k6.size,fun k hk=>k6.block k (by have:=HB5.o.size;omega) (by omega) (by omega)⟩))));clear h6 hO6 hV6 k6 HT5;go_wp2_with fail;go_roundg (ln s2)
   case measure=>omega
   case rel=>exact⟨n+1,D6,l2,s2,f',tL _,by omega,HX.o.1,HX.o.2.1,HX.o.2.2.1,by omega,HX.o.2.2.2,HE.o⟩
theorem Cn{β:Type}{X:World}{B e size:Nat}{v:Value}{L:List β}{flat:β->List Value}(h:X.ownsRow B e size v L.length (L.flatMap flat))(hf:∀x,(flat x).length=size)(j:Nat)(x:β)(hj:L[j]?=some x):∃g cap,v=.slice (some ⟨g,0,none⟩) L.length cap/\∀k u,(flat x)[k]?=some u->X.cell? ⟨g,j*size+k,none⟩=some u:=
 BS.cell (ok:=fun _ _=>True) ⟨h,fun _ _=>trivial⟩ hf j x hj
theorem CH.rd{X:World}{B0 i k:Nat}{pp:List Nat}{P:Ai}(h:CH X B0 pp i P)(hk:pp[i]?=some k):∃a cap,X.heap[k]?=some (.cells #[.string P.typ,.int .i64 i,.slice a P.sels.length cap] 171 (0,0))/\P.sels.length<=1000/\∀t x,P.sels[t]?=some x->∃g va vc,a=some ⟨g,0,none⟩/\(∀c u,(sL pp (x,va,vc))[c]?=some u->X.cell? ⟨g,t*6+c,none⟩=some u)/\Dr X B0 pp.length (x,va,vc)/\∃cur,X.heap[g]?=some (.cells cur 177 (0,0)):=by
 obtain⟨k',vS,L,h1,h2,h3,h4,h5,h6,h7⟩:=h.ex;have e:k'=k:=by rw[hk]at h1;exact(tY h1).symm
 subst e;obtain⟨a,cap,rfl⟩:=An h5;have hl:P.sels.length=L.length:=by rw[<-h4,uP]
 refine⟨a,cap,by rw[hl];exact h2,by omega,fun t x hx=>?_⟩;rw[<-h4,uD]at hx;obtain⟨y,hy,rfl⟩:=uY.1 hx;obtain⟨g,cap',hv,hc⟩:=Cn h5 (fun _=>rfl) t y hy;have ea:=(Value.slice.inj hv).1;exact⟨g,y.2.1,y.2.2,ea,hc,h7 y (tO hy),Fx h5 g (by rw[ea];rfl)⟩
theorem gB{w w':World}{b g:Nat}{o:Obj}(k:Ag b w w')(h:w.heap[g]?=some o)(hne:¬g=b)(i:Nat):w'.cell? ⟨g,i,none⟩=w.cell? ⟨g,i,none⟩:=by
 unfold World.cell?;rw[k.block g (Ab h) hne]
theorem DW{w:World}{a b:Nat}{cs cs':Array Value}{T T':TypeId}{fr fr':Nat×Nat}(h1:w.heap[a]?=some (.cells cs T fr))(h2:w.heap[b]?=some (.cells cs' T' fr'))(hT:T≠T'):¬a=b:=fun e=>by
 rw[e,h2]at h1;have h3:=tY h1;exact hT (Obj.cells.inj h3).2.1.symm
def Gb(st:List Nat):Nat:=st.countP (· ==0)
def El(rec:Nat->List Nat->Bool×List Nat):List Aq->List Nat->Bool×List Nat
 |[],st=>(false,st)
 |x::l,st=>match x.part with
  |none=>El rec l st
  |some i=>if (rec i st).1=true then(true,(rec i st).2)else El rec l (rec i st).2
def Ax(parts:List Ai)(i:Nat):Ai:=parts.getD i ⟨⟨#[]⟩,[]⟩
def CD(parts:List Ai):Nat->Nat->List Nat->Bool×List Nat
 |0,_,st=>(false,st)
 |f+1,i,st=>
  if st.getD i 0=0 then
   if (El (CD parts f) (Ax parts i).sels (st.set i 1)).1=true then(true,(El (CD parts f) (Ax parts i).sels (st.set i 1)).2)
   else(false,(El (CD parts f) (Ax parts i).sels (st.set i 1)).2.set i 2)
  else(st.getD i 0==1,st)
theorem YD(st:List Nat)(i v:Nat)(hv:v≠0):Gb (st.set i v)<=Gb st:=by
 unfold Gb
 induction st generalizing i with
 |nil=>simp
 |cons a l ih=>
  cases i with
  |zero=>simp[List.countP_cons,hv]
  |succ i=>simp only[List.set_cons_succ,List.countP_cons];have:=ih i;omega
theorem tK(st:List Nat)(i v:Nat)(hv:v≠0)(h:st[i]?=some 0):Gb (st.set i v)+1=Gb st:=by
 unfold Gb
 induction st generalizing i with
 |nil=>simp at h
 |cons a l ih=>
  cases i with
  |zero=>simp at h;subst h;simp[hv]
  |succ i=>simp only[List.set_cons_succ,List.countP_cons];have:=ih i (by simpa using h);omega
def SE(rec:Nat->List Nat->Bool×List Nat):Prop:=∀i st,(rec i st).2.length=st.length/\Gb (rec i st).2<=Gb st
theorem Qk{rec:Nat->List Nat->Bool×List Nat}(h:SE rec):∀(l:List Aq) (st:List Nat),(El rec l st).2.length=st.length/\Gb (El rec l st).2<=Gb st
 |[],st=>⟨rfl,tL _⟩
 |x::l,st=>by
  rw[El];split
  ·exact Qk h l st
  ·rename_i i _
   have h1:=h i st;split
   ·exact h1
   ·have h2:=Qk h l (rec i st).2
    exact⟨h2.1.trans h1.1,tQ h2.2 h1.2⟩
theorem Ql(parts:List Ai):∀f,SE (CD parts f)
 |0,i,st=>⟨rfl,tL _⟩
 |f+1,i,st=>by
  rw[CD];have h1:=Qk (Ql parts f) (Ax parts i).sels (st.set i 1);have h2:=YD st i 1 (by decide);split
  ·split
   ·exact⟨h1.1.trans (by simp),tQ h1.2 h2⟩
   ·have h3:=YD (El (CD parts f) (Ax parts i).sels (st.set i 1)).2 i 2 (by decide)
    exact⟨by rw[List.length_set,h1.1];simp,tQ h3 (tQ h1.2 h2)⟩
  ·exact⟨rfl,tL _⟩
def Gx(st:List Nat):List Value:=st.map (fun(n:Nat)=>.int .i64 (n:Int))
theorem XO(st:List Nat)(i v:Nat):(Gx st).toArray.setIfInBounds i (.int .i64 (v:Int))=(Gx (st.set i v)).toArray:=by
 apply Array.ext';simp[Gx,List.map_set]
theorem XN(st:List Nat)(i v:Nat)(h:st[i]?=some v):(Gx st).toArray[i]?=some (.int .i64 (v:Int)):=by simp[Gx,h]
section
variable {B0:Nat} {ps:List Nat} {parts:List Ai}
theorem ZM(hn:ps.length=parts.length):∀(f:Nat) (w:World) (i k Sb:Nat) (st:List Nat),Bh w B0 ps 0 parts->ps[i]?=some k->w.heap[Sb]?=some (.cells (Gx st).toArray 257 (0,0))->st.length=ps.length->Gb st+1<=f->
 Calls prog 74 #[.pointer (some ⟨k,0,none⟩),.slice (some ⟨Sb,0,none⟩) ps.length ps.length] w fun e w'=>e=.returned (.bool (CD parts f i st).1)/\w'.heap[Sb]?=some (.cells (Gx (CD parts f i st).2).toArray 257 (0,0))/\Ag Sb w w':=by
 intro f
 induction f with
 |zero=>intro w i k Sb st _ _ _ _ h;omega
 |succ f ih=>
 intro w i k Sb st hp hk hS hst hz;have HN:=Aa hn;have hil:i<ps.length:=Fu hk;obtain⟨P,hP⟩:∃P,parts[i]?=some P:=⟨_,tN (by omega)⟩;clear hn;have hpi:=hp i P hP;rw[Nat.zero_add]at hpi;obtain⟨a,cap,hkb,hsl,hsel⟩:=hpi.rd hk;obtain⟨v,hv⟩:∃v,st[i]?=some v:=⟨_,tN (by omega)⟩;have hgd:st.getD i 0=v:=by simp[List.getD,hv]
 have hpd:Ax parts i=P:=by simp[Ax,List.getD,hP]
 have HQ:=Aa (show CD parts (f+1) i st=(if st.getD i 0=0 then(if (El (CD parts f) (Ax parts i).sels (st.set i 1)).1=true then(true,(El (CD parts f) (Ax parts i).sels (st.set i 1)).2)else(false,(El (CD parts f) (Ax parts i).sels (st.set i 1)).2.set i 2))else(st.getD i 0==1,st))from by rw[CD]);rw[hgd,hpd]at HQ;generalize CD parts (f+1) i st=FF at*;have ck:=Ac hkb;have lk:=Ab hkb;have cS:w.cell? ⟨Sb,i,none⟩=some (.int .i64 v):=(Ac hS i).trans (XN st i v hv);have fS:=Am hS;have lS:=Ab hS;have hkS:¬k=Sb:=DW hkb hS (by decide);have hiI:(i:Int)<ps.length:=by omega
 by_cases hv0:v=0
 ·subst hv0
  rw[uC rfl]at HQ;have HS1:=Aa (show(w.setCell ⟨Sb,i,none⟩ (.int .i64 ((1:Nat):Int))).heap[Sb]?=some (.cells (Gx (st.set i 1)).toArray 257 (0,0))from by rw[<-XO];exact AI hS i _);have hz1:=tK st i 1 (by decide) hv;have hzf:Gb (st.set i 1)+1<=f:=by omega
  have HP:=Aa hp;have HS0:=Aa hS;have wU:=Aa hsel;have HKB:=Aa hkb;have HKB1:=Aa (DT (i:=i) hkb hkS (.int .i64 ((1:Nat):Int)));have HP1:=Aa (hp.typ' (AA.set hS (by decide) i (.int .i64 ((1:Nat):Int))));have HK1:=Aa (show Ag Sb w (w.setCell ⟨Sb,i,none⟩ (.int .i64 ((1:Nat):Int)))from(Ag.refl Sb w).setCell i _);have hlen1:(st.set i 1).length=ps.length:=by simp[hst]
  generalize hst1:st.set i 1=st1 at*;clear hst1 hsel hp hpi hkb hP hgd hpd hv hz hst hz1;go_enter func74,ntmps74;go_wp2_with fail;have HIH:=Aa ih;obtain⟨RES,vH⟩:∃RES,Hi (RES=El (CD parts f) P.sels st1):=⟨_,Aa rfl⟩;rw[<-vH.o]at HQ;clear ih;generalize w.setCell ⟨Sb,i,none⟩ (.int .i64 ((1:Nat):Int))=W1 at*;go_loopg [6,34] P.sels.length (fun m v6 v34 wr=>∃(t:Nat) (st':List Nat),v34=.int .i64 t/\t<=P.sels.length/\P.sels.length-t<=m/\Ag Sb w wr/\wr.heap[Sb]?=some (.cells (Gx st').toArray 257 (0,0))/\st'.length=ps.length/\Gb st'<=Gb st1/\RES=El (CD parts f) (P.sels.drop t) st')
  case atStart=>exact⟨0,st1,rfl,tU _,tL _,HK1.o,HS1.o,hlen1,tL _,by rw[vH.o];rfl⟩
  case round=>
   obtain⟨t,st',rfl,htl,htm,hkw,hS',hlen',hzer',hrel⟩:=hrel;have HM:=Aa hrel;have HKW:=Aa hkw;have HS':=Aa hS';have lS':=Ab hS';by_cases hlt:t<P.sels.length
   ·have hx:=tN hlt
    have hdr:P.sels.drop t=P.sels[t]::P.sels.drop (t+1):=uT hlt;generalize P.sels[t]=x at hx hdr;obtain⟨g,va,vc,rfl,hc,hok,cur,hg⟩:=wU.o t x hx;obtain⟨aA,cA,e1⟩:=An hok.a;obtain⟨aC,cC,e2⟩:=An hok.c;simp only[]at e1 e2;subst e1 e2;have hgS:=DW hg HS0.o (by decide);have gc:=fun c u (h:(sL ps (x,Value.slice aA x.args.length cA,Value.slice aC x.conds.length cC))[c]?=some u)=>(gB hkw hg hgS (t*6+c)).trans (hc c u h);have x0:wr.cell? ⟨g,t*6,none⟩=some (.int .i64 x.kind):=by simpa using gc 0 _ rfl
    have x1:wr.cell? ⟨g,t*6+1,none⟩=some (.string x.key):=gc 1 _ rfl;have x2:wr.cell? ⟨g,t*6+2,none⟩=some (.string x.name):=gc 2 _ rfl;have x3:wr.cell? ⟨g,t*6+3,none⟩=some (.slice aA x.args.length cA):=gc 3 _ rfl;have x4:wr.cell? ⟨g,t*6+4,none⟩=some (.slice aC x.conds.length cC):=gc 4 _ rfl;have X5:=Aa (show wr.cell? ⟨g,t*6+5,none⟩=some (AM ps x.part)from gc 5 _ rfl);have hlg:g<wr.heap.size:=tR wr _ x0;have hbd:=hok.p;have HOK:=Aa hok;rw[hdr]at HM;cases ep:x.part with
    |none=>
     have HE:=Aa (show RES=El (CD parts f) (P.sels.drop (t+1)) st' from by rw[HM.o,El,ep]);have x5:wr.cell? ⟨g,t*6+5,none⟩=some (.pointer none):=by have:=X5.o;rw[ep]at this;exact this
     clear hc gc hx hdr HM hbd ep hrel hS' hkw;go_wp2_with fail;go_roundg (P.sels.length-(t+1))
     case measure=>omega
     case rel=>exact⟨t+1,st',by go_num,by omega,tL _,HKW.o.alloc _,(AK _ _ _ lS').trans HS'.o,hlen',hzer',HE.o⟩
    |some j=>
     obtain⟨k',hk'⟩:∃k',ps[j]?=some k':=⟨_,tN (hbd j ep)⟩;have x5:wr.cell? ⟨g,t*6+5,none⟩=some (.pointer (some ⟨k',0,none⟩)):=by have:=X5.o;rw[ep]at this;rw[this];simp[AM,hk']
     have HC:=Aa (fun W (hW:vE wr W)=>HIH.o W j k' Sb st' ((HP.o.typ' (AA.keep hkw HS0.o (by decide))).typ' (AA.below hW)) hk' ((hW.block _ lS').trans HS'.o) hlen' (by omega));have hzl:=Ql parts f j st';have HE:=Aa (show RES=if (CD parts f j st').1=true then(true,(CD parts f j st').2)else El (CD parts f) (P.sels.drop (t+1)) (CD parts f j st').2 from by rw[HM.o,El,ep]);generalize CD parts f j st'=r at*;obtain⟨rb,st2⟩:=r;simp only[]at HC hzl HE;clear hc gc hx hdr HM hbd ep hrel hS' hkw;go_wp2_with fail;have HA:=Aa (show vE wr (wr.alloc (.cells #[.int .i64 x.kind,.string x.key,.string x.name,.slice aA x.args.length cA,.slice aC x.conds.length cC,.pointer (some ⟨k',0,none⟩)] 177))from(tM _ _).alloc (tL _) _);refine(HC.o _ HA.o).mono ?_;rintro _ w5 ⟨rfl,h5,k5⟩;have HS5:=Aa h5;have HK5:=Aa ((HKW.o.trans (Ag.of_below HA.o)).trans k5);clear h5 k5 HC;cases rb
     ·have HE2:=Aa (show RES=El (CD parts f) (P.sels.drop (t+1)) st2 from HE.o)
      go_wp2_with fail;go_roundg (P.sels.length-(t+1))
      case measure=>omega
      case rel=>exact⟨t+1,st2,by go_num,by omega,tL _,HK5.o,HS5.o,by omega,by omega,HE2.o⟩
     ·have HE2:=Aa (show RES=(true,st2)from HE.o)
      rw[HE2.o]at HQ;have HQ2:=Aa (show FF=(true,st2)from HQ.o);go_wp2_with fail;go_ret;rw[HQ2.o];exact⟨rfl,HS5.o,HK5.o⟩
   ·have ht:t=P.sels.length:=by omega
    subst ht;have HE:=Aa (show RES=(false,st')from by rw[HM.o,List.drop_length];rfl);rw[HE.o]at HQ;have HQ2:=Aa (show FF=(false,st'.set i 2)from HQ.o);have yC:=hkw.at HKB.o hkS;have ck':=Ac yC;have lk':=Ab yC;have fS':=Am hS';have HSF:=Aa (show(wr.setCell ⟨Sb,i,none⟩ (.int .i64 ((2:Nat):Int))).heap[Sb]?=some (.cells (Gx (st'.set i 2)).toArray 257 (0,0))from by rw[<-XO];exact AI hS' i _);have HKF:=Aa (hkw.setCell i (.int .i64 ((2:Nat):Int)));obtain⟨vi,hvi⟩:∃vi,st'[i]?=some vi:=⟨_,tN (by omega)⟩;have cS':wr.cell? ⟨Sb,i,none⟩=some (.int .i64 vi):=(Ac hS' i).trans (XN st' i vi hvi);clear hS' hkw yC HM hrel;go_wp2_with fail;go_ret;rw[HQ2.o];exact⟨rfl,HSF.o,HKF.o⟩
 ·rw[uB hv0]at HQ
  have e0:((v:Int)!=0)=true:=by simp;omega
  have HS0:=Aa hS;have HQ2:=Aa (show FF=(v==1,st)from HQ.o);have e1:((v:Int)==1)=(v==1):=by
   rw[Bool.eq_iff_iff];simp;omega
  clear hS hsel hp hpi hkb;go_enter func74,ntmps74;go_wp2_with fail;go_ret;rw[HQ2.o];exact⟨by simp,HS0.o,Ag.refl _ _⟩
end
end Go.Proofs.YtadneapobijejaaGreatDoor
