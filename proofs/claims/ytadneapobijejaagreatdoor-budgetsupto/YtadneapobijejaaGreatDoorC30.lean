import Derived.Test.YtadneapobijejaaGreatDoorC29
import Derived.BigQuiet
namespace Go.Proofs.YtadneapobijejaaGreatDoor
set_option maxHeartbeats 20000000
set_option maxRecDepth 100000
open Go.RowKit Tryz
def Bw(pp l:List Nat):List Value:=l.map (fun j=>AM pp (some j))
theorem WK(pp a b:List Nat):Bw pp (a++b)=Bw pp a++Bw pp b:=uU
theorem infoPt:(prog.info? 89).map (fun i=>(i.zero,i.size,i.bytes))=some (some (.pointer none),1,8):=by kernel_rfl
section
variable {B0:Nat} {pp:List Nat} {parts:List Ai} {w0:World}
theorem gZ(hP:Bh w0 B0 pp 0 parts)(hn:pp.length=parts.length)(hpi:BM parts){B1 Sb:Nat}(hB1:w0.heap.size<=B1)(hSb:B1<=Sb):∀(f:Nat) (w:World) (i k:Nat) (l:List Nat) (v:Value) (seen:List Bool),vE w0 w->B1<=w.heap.size->pp[i]?=some k->w.ownsRow B1 89 1 v l.length (Bw pp l)->w.heap[Sb]?=some (.cells (Bp seen).toArray 4 (0,0))->seen.length=pp.length->uns seen+1<=f->l.length+uns seen<=4000->
 Calls prog 177 #[.pointer (some ⟨k,0,none⟩),v,.slice (some ⟨Sb,0,none⟩) pp.length pp.length] w fun e w'=>∃v',e=.returned v'/\w'.ownsRow B1 89 1 v' (BJ parts f i l seen).1.length (Bw pp (BJ parts f i l seen).1)/\w'.heap[Sb]?=some (.cells (Bp (BJ parts f i l seen).2).toArray 4 (0,0))/\Below B1 w w':=by
 obtain⟨i0,hi,hz⟩:=uY.1 infoPt;simp only[Prod.mk.injEq]at hz;obtain⟨hz0,hz1,hz2⟩:=hz;intro f
 induction f with
 |zero=>intro w i k l v seen _ _ _ _ _ _ hz;omega
 |succ f ih=>
 intro w i k l v seen hb0 hBw hk hl hS hst hz hlu;have hil:i<pp.length:=Fu hk;obtain⟨P,hPi⟩:∃P,parts[i]?=some P:=⟨_,tN (by omega)⟩;have hpa:=hP i P hPi;rw[Nat.zero_add]at hpa;obtain⟨a,cap,wH,hsl,hsel⟩:=hpa.selAt hk;have hkb:=(hb0.block _ (Ab wH)).trans wH;obtain⟨b,hv0⟩:∃b,seen[i]?=some b:=⟨_,tN (by omega)⟩;have hgd:seen.getD i false=b:=by simp[List.getD,hv0]
 have hpd:Ax parts i=P:=by simp[Ax,List.getD,hPi]
 have HQ:=Aa (show BJ parts (f+1) i l seen=(if seen.getD i false=true then(l,seen)else CN (BJ parts f) (Ax parts i).sels (l++[i]) (seen.set i true))from by rw[BJ]);rw[hgd,hpd]at HQ;generalize BJ parts (f+1) i l seen=FF at*;obtain⟨av,cv,rfl⟩:=An hl;have ck:=Ac hkb;have lk:=Ab hkb;have cS:w.cell? ⟨Sb,i,none⟩=some (.bool b):=(Ac hS i).trans (ML seen i b hv0);have fS:=Am hS;have lS:=Ab hS;have hkS:¬k=Sb:=DW hkb hS (by decide);have hiI:(i:Int)<pp.length:=by omega
 cases b
 ·rw[uB (by simp)]at HQ
  have HS1:=Aa (show(w.setCell ⟨Sb,i,none⟩ (.bool true)).heap[Sb]?=some (.cells (Bp (seen.set i true)).toArray 4 (0,0))from by rw[<-NY];exact AI hS i _);have hun1:=Kj seen i hv0;have hzf:uns (seen.set i true)+1<=f:=by omega
  have hlen1:(seen.set i true).length=pp.length:=by simp[hst]
  have hO1:(w.setCell ⟨Sb,i,none⟩ (.bool true)).ownsRow B1 89 1 (.slice av l.length cv) l.length (Bw pp l):=It hl (fun j hj _=>tX _ _ _ _ (show j≠Sb from fun e=>Bv hl hS (by decide) (by rw[<-e];exact hj)));have HB1:=Aa (show Below B1 w (w.setCell ⟨Sb,i,none⟩ (.bool true))from(tM _ _).setCell hSb _);have HPI:=Aa (show AM pp (some i)=.pointer (some ⟨k,0,none⟩)from by simp[AM,hk]);have hsz:w.heap.size<=(w.setCell ⟨Sb,i,none⟩ (.bool true)).heap.size:=by simp[World.setCell]
  generalize hst1:seen.set i true=st1 at*;have HIH:=Aa ih;have xT:=Aa wH;have wU:=Aa hsel;have HB0:=Aa hb0;have HPIN:=Aa hpi;have hPl:=Aa (fun x (hx:x∈P.sels) j (e:x.part=some j)=>(show j<parts.length from hpi.d i x (by rw[hpd];exact hx) j e));obtain⟨RES,vH⟩:∃RES,Hi (RES=CN (BJ parts f) P.sels (l++[i]) st1):=⟨_,Aa rfl⟩;rw[<-vH.o]at HQ;have HN:=Aa hn;clear hst1 hsel hpa hkb wH hPi hgd hpd hv0 ih hS hb0 hP hl hst hz hpi hn;go_enter func177,ntmps177;go_upto_region 4 with fail;generalize w.setCell ⟨Sb,i,none⟩ (.bool true)=W1 at*;have hkB:k<B1:=tV (Ab xT.o) hB1;have lk1:=tV lk HB1.o.size;have hBW1:B1<=W1.heap.size:=tQ hBw hsz;clear ck cS fS;go_upto_region 5 with(at_builtin;refine wpList_append_own _ rfl _ _ 78 rfl B1 89 i0 (.pointer none) 1 8 underlying78 hi hz0 hz1 hz2 rfl (by decide) _ _ _ rfl (hO1.alloc _) ⟨W1.heap.size,0,none⟩ 1 1 [.pointer (some ⟨k,0,none⟩)] rfl rfl (Cs _ _ _ _ (by simp)) (fun u hu=>by simp at hu;subst hu;rfl) (by unfold maxLen;omega) (by omega) (by simp;omega) ?_;intro v' w2 hown' hgrow _;obtain⟨av2,cv2,rfl⟩:=An hown';have HO2:=Aa hown';have HG2:=Aa hgrow;clear hown' hgrow);have hSbl:Sb<W1.heap.size:=Ab HS1.o;have HB2:=Aa (show Below B1 w w2 from HB1.o.trans (((tM B1 W1).alloc hBW1 _).grown HG2.o (by simp;omega) (fun j hj=>(hO1.lt j hj).1)));have HS2:=Aa (show w2.heap[Sb]?=some (.cells (Bp st1).toArray 4 (0,0))from(HG2.o.block Sb (by simp;omega) (fun e=>Bv hO1 HS1.o (by decide) e.symm)).trans ((AK _ _ _ hSbl).trans HS1.o));have HO2':=Aa (show w2.ownsRow B1 89 1 (.slice av2 (l.length+1) cv2) (l++[i]).length (Bw pp (l++[i]))from by rw[WK,uE];simpa [Bw,HPI.o]using HO2.o);have hk2:w2.heap[k]?=some (.cells #[.string P.typ,.int .i64 i,.slice a P.sels.length cap] 171 (0,0)):=(HB2.o.block k hkB).trans ((HB0.o.block k (Ab xT.o)).trans xT.o);have ck2:=Ac hk2;have lk2:=Ab hk2;clear hk2 HG2 HO2 hO1 HB1 HS1 lk1;go_wp2_with fail;go_loopg [1,8,32] P.sels.length (fun m v1 v8 v32 wr=>∃(t:Nat) (l':List Nat) (st':List Bool),v32=.int .i64 t/\t<=P.sels.length/\P.sels.length-t<=m/\wr.ownsRow B1 89 1 v1 l'.length (Bw pp l')/\wr.heap[Sb]?=some (.cells (Bp st').toArray 4 (0,0))/\st'.length=pp.length/\uns st'<=uns st1/\l'.length+uns st'<=l.length+1+uns st1/\Below B1 w wr/\RES=CN (BJ parts f) (P.sels.drop t) l' st')
  case atStart=>exact⟨0,l++[i],st1,rfl,tU _,tL _,HO2'.o,HS2.o,hlen1,tL _,by simp,HB2.o,vH.o⟩
  case round=>
   obtain⟨t,l',st',rfl,htl,htm,hO',hS',hlen',hun',hlu',hb',hrel⟩:=hrel;have HM:=Aa hrel;have HO':=Aa hO';have HS':=Aa hS';have HB':=Aa hb';have lS':=Ab hS';have hbz:=hb'.size;have xJ:vE w0 wr:=HB0.o.trans (hb'.mono hB1);have xL:=Aa xJ;obtain⟨al,cl,rfl⟩:=An hO';by_cases hlt:t<P.sels.length
   ·have hx:=tN hlt
    have hdr:P.sels.drop t=P.sels[t]::P.sels.drop (t+1):=uT hlt;have hmem:P.sels[t]∈P.sels:=List.getElem_mem hlt;generalize P.sels[t]=x at hx hdr hmem;obtain⟨g,hag,hgl,hsa⟩:=wU.o t x hx;subst hag;obtain⟨aA,cA,aC,cC,hc,hok⟩:=(hsa.below xJ).ex;have x0:wr.cell? ⟨g,t*6,none⟩=some (.int .i64 x.kind):=by simpa using hc 0 _ rfl
    have x1:wr.cell? ⟨g,t*6+1,none⟩=some (.string x.key):=hc 1 _ rfl;have x2:wr.cell? ⟨g,t*6+2,none⟩=some (.string x.name):=hc 2 _ rfl;have x3:wr.cell? ⟨g,t*6+3,none⟩=some (.slice aA x.args.length cA):=hc 3 _ rfl;have x4:wr.cell? ⟨g,t*6+4,none⟩=some (.slice aC x.conds.length cC):=hc 4 _ rfl;have X5:=Aa (show wr.cell? ⟨g,t*6+5,none⟩=some (AM pp x.part)from hc 5 _ rfl);have hlg:g<wr.heap.size:=tR wr _ x0;have hbd:=hPl.o x hmem;rw[hdr]at HM;clear hc hx hdr hrel hS' hb' hO' hsa hok xJ;by_cases hk0:x.kind=0
    ·have T0:((x.kind:Int)!=0)=false:=by rw[hk0];rfl
     have HE:=Aa (show RES=CN (BJ parts f) (P.sels.drop (t+1)) l' st' from by rw[HM.o,CN,uC hk0]);obtain⟨p5,hp5⟩:∃p5,AM pp x.part=.pointer p5:=by
      cases x.part with
      |none=>exact⟨none,rfl⟩
      |some p=>exact⟨_,rfl⟩
     have x5:wr.cell? ⟨g,t*6+5,none⟩=some (.pointer p5):=by have:=X5.o;rw[hp5]at this;exact this
     clear hp5 hk0 HM hbd;go_wp2_with fail;go_roundg (P.sels.length-(t+1))
     case measure=>omega
     case rel=>exact⟨t+1,l',st',by go_num,by omega,tL _,HO'.o.alloc _,(AK _ _ _ lS').trans HS'.o,hlen',hun',hlu',HB'.o.alloc (by omega) _,HE.o⟩
    ·have T0:((x.kind:Int)!=0)=true:=by simp;omega
     cases ep:x.part with
     |none=>
      have HE:=Aa (show RES=CN (BJ parts f) (P.sels.drop (t+1)) l' st' from by rw[HM.o,CN,uB hk0,ep]);have x5:wr.cell? ⟨g,t*6+5,none⟩=some (.pointer none):=by have:=X5.o;rw[ep]at this;exact this
      clear ep hk0 HM hbd;go_wp2_with fail;go_roundg (P.sels.length-(t+1))
      case measure=>omega
      case rel=>exact⟨t+1,l',st',by go_num,by omega,tL _,HO'.o.alloc _,(AK _ _ _ lS').trans HS'.o,hlen',hun',hlu',HB'.o.alloc (by omega) _,HE.o⟩
     |some j=>
      have hjl:=hbd j ep;obtain⟨k',hk'⟩:∃k',pp[j]?=some k':=⟨_,tN (by have:=HN.o;omega)⟩;have x5:wr.cell? ⟨g,t*6+5,none⟩=some (.pointer (some ⟨k',0,none⟩)):=by have:=X5.o;rw[ep]at this;rw[this];simp[AM,hk']
      have HC:=Aa (fun W (hW:vE wr W)=>HIH.o W j k' l' (.slice al l'.length cl) st' (xL.o.trans (hW.mono xL.o.size)) (tQ (by omega) hW.size) hk' (AT HO'.o hW) ((hW.block _ lS').trans HS'.o) hlen' (by omega) (by omega));have hzl:=Ng HPIN.o f j l' st' hjl (by rw[hlen'];exact HN.o);have HE:=Aa (show RES=CN (BJ parts f) (P.sels.drop (t+1)) (BJ parts f j l' st').1 (BJ parts f j l' st').2 from by rw[HM.o,CN,uB hk0,ep]);generalize BJ parts f j l' st'=r at*;obtain⟨l2,st2⟩:=r;simp only[]at HC hzl HE;clear ep hk0 HM hbd hk';go_wp2_with fail;have HA:=Aa (show vE wr (wr.alloc (.cells #[.int .i64 x.kind,.string x.key,.string x.name,.slice aA x.args.length cA,.slice aC x.conds.length cC,.pointer (some ⟨k',0,none⟩)] 177))from(tM _ _).alloc (tL _) _);refine(HC.o _ HA.o).mono ?_;rintro _ w5 ⟨v5,rfl,h5,s5,b5⟩;have HO5:=Aa h5;have HS5:=Aa s5;have HB5:=Aa (show Below B1 w w5 from(HB'.o.trans (HA.o.mono (by omega))).trans b5);have HZL:=Aa hzl;clear hzl;clear h5 s5 b5 HC;go_wp2_with fail;go_roundg (P.sels.length-(t+1))
      case measure=>omega
      case rel=>exact⟨t+1,l2,st2,by go_num,by omega,tL _,HO5.o,HS5.o,by have:=HN.o;have:=HZL.o.1;omega,by have:=HZL.o.2.1;omega,by have:=HZL.o.2.2.1;omega,HB5.o,HE.o⟩
   ·have ht:t=P.sels.length:=by omega
    subst ht;have HE:=Aa (show RES=(l',st')from by rw[HM.o,List.drop_length];rfl);rw[HE.o]at HQ;have HQ2:=Aa (show FF=(l',st')from HQ.o);clear hS' hb' hO' HM hrel xJ;go_wp2_with fail;go_ret;rw[HQ2.o];exact⟨_,rfl,HO'.o,HS'.o,HB'.o⟩
 ·rw[uC rfl]at HQ
  have HS0:=Aa hS;have HL0:=Aa hl;have HQ2:=Aa (show FF=(l,seen)from HQ.o);clear hS hsel hpa hkb hl wH;go_enter func177,ntmps177;go_wp2_with fail;go_ret;rw[HQ2.o];exact⟨_,rfl,HL0.o,HS0.o,tM _ _⟩
end
def LY(pp:List Nat)(p:Nat×Nat):List Value:=[AM pp (some p.1),AM pp (some p.2)]
structure AG(X:World)(B1 G Mb Lb:Nat)(pp:List Nat)(parts:List Ai)(g:AY)(vo:Value):Prop where
 b:X.heap[G]?=some (.cells #[vo,.slice (some ⟨Mb,0,none⟩) (pp.length*pp.length) (pp.length*pp.length),.slice (some ⟨Lb,0,none⟩) pp.length pp.length] 192 (0,0))
 o:X.ownsRow B1 195 2 vo g.2.length (g.2.flatMap (LY pp))
 m:X.heap[Mb]?=some (.cells (Bp g.1).toArray 4 (0,0))
 l:∃cs:Array Value,X.heap[Lb]?=some (.cells cs 78 (0,0))/\cs.size=pp.length/\∀i,i<pp.length->cs[i]?=some (.slice none 0 0)\/∃a c,cs[i]?=some (.slice (some a) (Bf parts i).length c)/\X.ownsRow B1 89 1 (.slice (some a) (Bf parts i).length c) (Bf parts i).length (Bw pp (Bf parts i))
 lg:B1<=G
 lm:B1<=Mb
 ll:B1<=Lb
structure AF(G Mb Lb:Nat)(w:World)(vo:Value)(X:World)(vo':Value):Prop where
 os:X.os=w.os
 tape:X.tape=w.tape
 output:X.output=w.output
 size:w.heap.size<=X.heap.size
 blk:∀k,k<w.heap.size->k≠G->k≠Mb->k≠Lb->vo.ownBlock≠some k->X.heap[k]?=w.heap[k]?
 li:∀k,vo'.ownBlock=some k->vo.ownBlock=some k\/w.heap.size<=k
section
variable {w X Y:World} {B1 G Mb Lb:Nat} {pp:List Nat} {parts:List Ai} {g:AY} {vo vo' vo2:Value}
theorem AF.refl(G Mb Lb:Nat)(w:World)(vo:Value):AF G Mb Lb w vo w vo:=⟨rfl,rfl,rfl,tL _,fun _ _ _ _ _ _=>rfl,fun _ h=>.inl h⟩
theorem AF.trans(h:AF G Mb Lb w vo X vo')(k:AF G Mb Lb X vo' Y vo2):AF G Mb Lb w vo Y vo2:=
 ⟨k.os.trans h.os,k.tape.trans h.tape,k.output.trans h.output,tQ h.size k.size,fun i hi h1 h2 h3 h4=>(k.blk i (tV hi h.size) h1 h2 h3 (fun e=>by
  rcases h.li i e with q|q
  ·exact h4 q
  ·omega)).trans (h.blk i hi h1 h2 h3 h4),fun i hi=>by
  rcases k.li i hi with q|q
  ·exact h.li i q
  ·exact .inr (tQ h.size q)⟩
theorem AF.of_below(h:vE w X):AF G Mb Lb w vo X vo:=⟨h.os,h.tape,h.output,h.size,fun k hk _ _ _ _=>h.block k hk,fun _ q=>.inl q⟩
theorem AF.below(h:AF G Mb Lb w vo X vo')(a:AG w B1 G Mb Lb pp parts g vo):Below B1 w X:=⟨h.os,h.tape,h.output,h.size,fun k hk=>by
 rcases Nat.lt_or_ge k w.heap.size with q|q
 ·exact h.blk k q (by have:=a.lg;omega) (by have:=a.lm;omega) (by have:=a.ll;omega) (fun e=>by have:=(a.o.lt k e).1;omega)
 ·have:=Ab a.b;have:=a.lg;omega⟩
theorem AG.below(h:AG X B1 G Mb Lb pp parts g vo)(hb:vE X Y):AG Y B1 G Mb Lb pp parts g vo:=by
 obtain⟨cs,h1,h2,h3⟩:=h.l;exact⟨(hb.block _ (Ab h.b)).trans h.b,AT h.o hb,(hb.block _ (Ab h.m)).trans h.m,⟨cs,(hb.block _ (Ab h1)).trans h1,h2,fun i hi=>(h3 i hi).imp (fun e=>e) (fun⟨a,c,e,o⟩=>⟨a,c,e,AT o hb⟩)⟩,h.lg,h.lm,h.ll⟩
theorem AF.pts{v:Value}{l:List Value}{k:Nat}(h:AF G Mb Lb w vo X vo')(a:AG w B1 G Mb Lb pp parts g vo)(ho:w.ownsRow B1 89 1 v k l):X.ownsRow B1 89 1 v k l:=by
 obtain⟨cs,h1,_⟩:=a.l;refine It ho (fun j hj hlt=>h.blk j hlt (fun e=>Bv ho a.b (by decide) (by rw[<-e];exact hj)) (fun e=>Bv ho a.m (by decide) (by rw[<-e];exact hj)) (fun e=>Bv ho h1 (by decide) (by rw[<-e];exact hj)) (fun e=>?_));obtain⟨c1,q1⟩:=Fx ho j hj;exact Bv a.o q1 (by decide) e
theorem AG.setM(h:AG X B1 G Mb Lb pp parts g vo)(p:Nat):AG (X.setCell ⟨Mb,p,none⟩ (.bool true)) B1 G Mb Lb pp parts (g.1.set p true,g.2) vo/\AF G Mb Lb X vo (X.setCell ⟨Mb,p,none⟩ (.bool true)) vo:=by
 obtain⟨cs,h1,h2,h3⟩:=h.l;have ow:∀{e:TypeId} {size n:Nat} {v:Value} {xs:List Value},X.ownsRow B1 e size v n xs->e≠4->(X.setCell ⟨Mb,p,none⟩ (.bool true)).ownsRow B1 e size v n xs:=fun ho he=>It ho (fun j hj _=>tX _ _ _ _ (show j≠Mb from fun e=>Bv ho h.m (fun q=>he q.symm) (by rw[<-e];exact hj)));refine⟨⟨DT h.b (DW h.b h.m (by decide)) _,ow h.o (by decide),by rw[<-NY];exact AI h.m p _,⟨cs,DT h1 (DW h1 h.m (by decide)) _,h2,fun i hi=>(h3 i hi).imp (fun e=>e) (fun⟨a,c,e,o⟩=>⟨a,c,e,ow o (by decide)⟩)⟩,h.lg,h.lm,h.ll⟩,rfl,rfl,rfl,by simp[World.setCell],fun k _ _ hk _ _=>tX _ _ _ _ hk,fun _ q=>.inl q⟩
theorem AG.push(h:AG X B1 G Mb Lb pp parts g vo){v':Value}{p:Nat×Nat}(hg:X.grownBy Y vo.ownBlock)(ho:Y.ownsRow B1 195 2 v' (g.2.length+1) (g.2.flatMap (LY pp)++LY pp p))(hl:∀k,v'.ownBlock=some k->vo.ownBlock=some k\/X.heap.size<=k):AG (Y.setCell ⟨G,0,none⟩ v') B1 G Mb Lb pp parts (g.1,g.2++[p]) v'/\AF G Mb Lb X vo (Y.setCell ⟨G,0,none⟩ v') v':=by
 obtain⟨cs,h1,h2,h3⟩:=h.l;have far:∀{k:Nat} {c:Array Value} {T:TypeId},X.heap[k]?=some (.cells c T (0,0))->T≠195->Y.heap[k]?=some (.cells c T (0,0)):=fun hk hT=>(hg.block _ (Ab hk) (fun e=>Bv h.o hk hT e.symm)).trans hk;have hG:=far h.b (by decide);have ow:∀{e:TypeId} {size n:Nat} {v:Value} {xs:List Value},Y.ownsRow B1 e size v n xs->e≠192->(Y.setCell ⟨G,0,none⟩ v').ownsRow B1 e size v n xs:=fun ho he=>It ho (fun j hj _=>tX _ _ _ _ (show j≠G from fun e=>Bv ho hG (fun q=>he q.symm) (by rw[<-e];exact hj)));have hY:∀{v:Value} {n:Nat} {xs:List Value},X.ownsRow B1 89 1 v n xs->Y.ownsRow B1 89 1 v n xs:=fun ho=>It ho (fun j hj hlt=>hg.block j hlt (fun e=>by
  obtain⟨c1,q1⟩:=Fx ho j hj;exact Bv h.o q1 (by decide) e.symm))
 refine⟨⟨AI hG 0 v',by rw[List.flatMap_append,uE];simpa using ow ho (by decide),DT (far h.m (by decide)) (DW h.m h.b (by decide)) _,⟨cs,DT (far h1 (by decide)) (DW h1 h.b (by decide)) _,h2,fun i hi=>(h3 i hi).imp (fun e=>e) (fun⟨a,c,e,o⟩=>⟨a,c,e,ow (hY o) (by decide)⟩)⟩,h.lg,h.lm,h.ll⟩,hg.os,hg.tape,hg.output,tQ hg.size (by simp[World.setCell]),fun k hk h1 _ _ h4=>(tX _ _ _ _ h1).trans (hg.block k hk (fun e=>h4 e.symm)),hl⟩
end
theorem Wg{a b:Value}(ha:a.oneCell'=true)(hb:b.oneCell'=true):∀u∈[a,b],u.oneCell'=true:=fun u hu=>by
 rcases vB.1 hu with rfl|hu
 ·exact ha
 ·rw[List.mem_singleton]at hu;rw[hu];exact hb
theorem UT{v:Value}{g H len cap:Nat}(h:v.ownBlock=some g\/g=H):∀k,(Value.slice (some ⟨g,0,none⟩) len cap).ownBlock=some k->v.ownBlock=some k\/H<=k:=fun k hk=>by
 have e:g=k:=tY hk;subst e;rcases h with q|q
 ·exact .inl q
 ·exact .inr (by omega)
theorem infoPr:(prog.info? 195).map (fun i=>(i.zero,i.size,i.bytes))=some (some (.agg #[.pointer none,.pointer none]),2,16):=by kernel_rfl
section
variable {w:World} {B0 B1 G Mb Lb:Nat} {pp:List Nat} {parts:List Ai} {g:AY} {vo:Value}
theorem dT(h:AG w B1 G Mb Lb pp parts g vo)(hBw:B1<=w.heap.size)(hP:Bh w B0 pp 0 parts)(hn:pp.length=parts.length)(hn2:pp.length<=2000){c:Nat}(hg:BB parts.length c g)(hc:c<=5000000){i j ki kj:Nat}(hi:pp[i]?=some ki)(hj:pp[j]?=some kj):
 Calls prog 124 #[.pointer (some ⟨G,0,none⟩),.pointer (some ⟨ki,0,none⟩),.pointer (some ⟨kj,0,none⟩)] w fun e w'=>e=.returned (.tuple #[])/\∃vo',AG w' B1 G Mb Lb pp parts (Hr pp.length i j g) vo'/\AF G Mb Lb w vo w' vo':=by
 obtain⟨i0,hi0,hz⟩:=uY.1 infoPr;simp only[Prod.mk.injEq]at hz;obtain⟨hz0,hz1,hz2⟩:=hz;have hil:i<pp.length:=Fu hi;have hjl:j<pp.length:=Fu hj;have num:∀a ka,pp[a]?=some ka->a<pp.length->w.cell? ⟨ka,1,none⟩=some (.int .i64 a)/\ka<w.heap.size:=fun a ka ha hal=>by
  have hpa:=hP a _ (tN (by omega));rw[Nat.zero_add]at hpa;obtain⟨aa,cap,hkb,_⟩:=hpa.rd ha;exact⟨Ac hkb 1,Ab hkb⟩
 obtain⟨ni,li⟩:=num i ki hi hil;obtain⟨nj,lj⟩:=num j kj hj hjl;have HPi:=Aa (show AM pp (some i)=.pointer (some ⟨ki,0,none⟩)from by simp[AM,hi]);have HPj:=Aa (show AM pp (some j)=.pointer (some ⟨kj,0,none⟩)from by simp[AM,hj]);have HQ:=Aa (Hr.eq_1 pp.length i j g);generalize Hr pp.length i j g=FF at*;have hgl:g.1.length=pp.length*pp.length:=by rw[hn];exact hg.l
 have hgo:g.2.length<=5000000:=by have:=hg.c;omega
 obtain⟨ao,co,rfl⟩:=An h.o;have HX:=Aa h;have cG:=Ac h.b;have lG:=Ab h.b;have HM:=Aa h.m;have lM:=Ab h.m;clear hP hn hg num;by_cases hlt:j<i
 ·have HO:=Aa (show Cg i j=(j,i)from by unfold Cg;rw[uC hlt])
  rw[HO.o]at HQ;simp only[]at HQ;have hpl:=Pd (n:=pp.length) (a:=j) (b:=i) (by omega) (by omega);obtain⟨b,hb⟩:∃b,g.1[j*pp.length+i]?=some b:=⟨_,tN (by omega)⟩;have HGD:=Aa (show g.1.getD (j*pp.length+i) false=b from by simp[List.getD,hb]);rw[HGD.o]at HQ;have hmul:j*pp.length<=4000000:=tQ (Nat.mul_le_mul (show j<=2000 by omega) hn2) (by decide);have cM:w.cell? ⟨Mb,j*pp.length+i,none⟩=some (.bool b):=(Ac HM.o _).trans (ML g.1 _ b hb);have fM:=Am HM.o;have hci:(j:Int)<i:=by omega
  obtain⟨pl,yH⟩:∃pl,pl=j*pp.length+i:=⟨_,rfl⟩;have hmI:((j:Int)*(pp.length:Int)+(i:Int))=(pl:Int):=by rw[yH];simp
  have hmI0:(0:Int)<=(j:Int)*(pp.length:Int):=by rw[<-Int.natCast_mul];omega
  have hmI1:(j:Int)*(pp.length:Int)<=4000000:=by rw[<-Int.natCast_mul];omega
  have hpn:(pl:Int)<(pp.length:Int)*(pp.length:Int):=by rw[<-Int.natCast_mul];omega
  rw[<-yH]at cM HQ;have hpl4:pl<=4002000:=by omega
  have hplM:pl<g.1.length:=by omega
  clear hpl hb yH hgl;cases b
  ·rw[uB (by simp)]at HQ
   go_enter func124,ntmps124;go_wp2_with fail;go_quiet (fail);obtain⟨n1,hn1⟩:∃n1,n1=nq:=⟨_,rfl⟩;rw[<-hn1];clear hn1 nq;go_wp2_with fail;go_quiet (fail);go_upto_region 5 with fail;obtain⟨hS1,hS2⟩:=(HX.o.below (below_drewN (tM w.heap.size w) (n1+nq))).setM pl;have hA1:=AF.trans (AF.of_below (G:=G) (Mb:=Mb) (Lb:=Lb) (vo:=.slice ao g.2.length co) (below_drewN (tM w.heap.size w) (n1+nq))) hS2;have hz5:=hA1.size;generalize (w.drewN (n1+nq)).setCell ⟨Mb,pl,none⟩ (.bool true)=W1 at*;have HA1:=Aa hA1;have HS1:=Aa hS1;have cG1:=Ac hS1.b;have lG1:=Ab hS1.b;have hown:=hS1.o;have HBA:=Aa (hS1.below (bA (tM _ _) (.cells #[.pointer (some ⟨kj,0,none⟩),.pointer (some ⟨ki,0,none⟩)] 195)));simp only[]at hown;have farG:=Aa (fun(Y:World) (hgr:(W1.alloc (.cells #[.pointer (some ⟨kj,0,none⟩),.pointer (some ⟨ki,0,none⟩)] 195)).grownBy Y (Value.slice ao g.2.length co).ownBlock)=>(hgr.block G (Ab HBA.o.b) (fun e=>Bv HBA.o.o HBA.o.b (by decide) e.symm)).trans HBA.o.b);clear hS1 hS2 hA1 cG lG cM fM;go_wp2_with (at_builtin;refine wpList_append_lies _ rfl _ _ 190 rfl B1 195 i0 (.agg #[.pointer none,.pointer none]) 2 16 underlying190 hi0 hz0 hz1 hz2 rfl (by decide) _ _ _ rfl (hown.alloc _) ⟨W1.heap.size,0,none⟩ 1 1 [.pointer (some ⟨kj,0,none⟩),.pointer (some ⟨ki,0,none⟩)] rfl rfl (Cs _ _ _ _ (by simp)) (Wg rfl rfl) (by decide) (by unfold maxLen;omega) (by omega) (by simp;omega) (W1.heap.size+1) (by simp) ?_;intro g1 wK w1 hown1 hgrow1 hat1 hlt1;have HO1:=Aa hown1;have HG1:=Aa hgrow1;have HAT1:=Aa hat1;have hG1:=farG.o w1 hgrow1;have cG2:=Ac hG1;have fG2:=Am hG1;have lG2:=Ab hG1;clear hG1 hown1 hgrow1 hat1);have HP:=Aa (HBA.o.push (p:=(j,i)) HG1.o (by unfold LY;rw[HPj.o,HPi.o];exact HO1.o) (by have q:=UT (len:=g.2.length+1) (cap:=wK) HAT1.o;rw[show(W1.alloc (.cells #[.pointer (some ⟨kj,0,none⟩),.pointer (some ⟨ki,0,none⟩)] 195)).heap.size=W1.heap.size+1 from by simp];exact q));go_end0;rw[HQ.o];exact⟨rfl,_,HP.o.1,(HA1.o.trans (AF.of_below (bA (tM _ _) _))).trans HP.o.2⟩
  ·rw[uC rfl]at HQ
   have HQ2:=Aa (show FF=g from HQ.o);go_enter func124,ntmps124;go_wp2_with fail;go_quiet (fail);obtain⟨n1,hn1⟩:∃n1,n1=nq:=⟨_,rfl⟩;rw[<-hn1];clear hn1 nq;go_wp2_with fail;go_quiet (fail);go_wp2_with fail;go_end0;rw[HQ2.o];have hbb:=below_drewN (tM w.heap.size w) (n1+nq);exact⟨rfl,_,HX.o.below hbb,AF.of_below hbb⟩
 ·have HO:=Aa (show Cg i j=(i,j)from by unfold Cg;rw[uB hlt])
  rw[HO.o]at HQ;simp only[]at HQ;have hpl:=Pd (n:=pp.length) (a:=i) (b:=j) (by omega) (by omega);obtain⟨b,hb⟩:∃b,g.1[i*pp.length+j]?=some b:=⟨_,tN (by omega)⟩;have HGD:=Aa (show g.1.getD (i*pp.length+j) false=b from by simp[List.getD,hb]);rw[HGD.o]at HQ;have hmul:i*pp.length<=4000000:=tQ (Nat.mul_le_mul (show i<=2000 by omega) hn2) (by decide);have cM:w.cell? ⟨Mb,i*pp.length+j,none⟩=some (.bool b):=(Ac HM.o _).trans (ML g.1 _ b hb);have fM:=Am HM.o;have hci:¬(j:Int)<i:=by omega
  obtain⟨pl,yH⟩:∃pl,pl=i*pp.length+j:=⟨_,rfl⟩;have hmI:((i:Int)*(pp.length:Int)+(j:Int))=(pl:Int):=by rw[yH];simp
  have hmI0:(0:Int)<=(i:Int)*(pp.length:Int):=by rw[<-Int.natCast_mul];omega
  have hmI1:(i:Int)*(pp.length:Int)<=4000000:=by rw[<-Int.natCast_mul];omega
  have hpn:(pl:Int)<(pp.length:Int)*(pp.length:Int):=by rw[<-Int.natCast_mul];omega
  rw[<-yH]at cM HQ;have hpl4:pl<=4002000:=by omega
  have hplM:pl<g.1.length:=by omega
  clear hpl hb yH hgl;cases b
  ·rw[uB (by simp)]at HQ
   go_enter func124,ntmps124;go_wp2_with fail;go_quiet (fail);obtain⟨n1,hn1⟩:∃n1,n1=nq:=⟨_,rfl⟩;rw[<-hn1];clear hn1 nq;go_wp2_with fail;go_quiet (fail);go_upto_region 5 with fail;obtain⟨hS1,hS2⟩:=(HX.o.below (below_drewN (tM w.heap.size w) (n1+nq))).setM pl;have hA1:=AF.trans (AF.of_below (G:=G) (Mb:=Mb) (Lb:=Lb) (vo:=.slice ao g.2.length co) (below_drewN (tM w.heap.size w) (n1+nq))) hS2;have hz5:=hA1.size;generalize (w.drewN (n1+nq)).setCell ⟨Mb,pl,none⟩ (.bool true)=W1 at*;have HA1:=Aa hA1;have HS1:=Aa hS1;have cG1:=Ac hS1.b;have lG1:=Ab hS1.b;have hown:=hS1.o;have HBA:=Aa (hS1.below (bA (tM _ _) (.cells #[.pointer (some ⟨ki,0,none⟩),.pointer (some ⟨kj,0,none⟩)] 195)));simp only[]at hown;have farG:=Aa (fun(Y:World) (hgr:(W1.alloc (.cells #[.pointer (some ⟨ki,0,none⟩),.pointer (some ⟨kj,0,none⟩)] 195)).grownBy Y (Value.slice ao g.2.length co).ownBlock)=>(hgr.block G (Ab HBA.o.b) (fun e=>Bv HBA.o.o HBA.o.b (by decide) e.symm)).trans HBA.o.b);clear hS1 hS2 hA1 cG lG cM fM;go_wp2_with (at_builtin;refine wpList_append_lies _ rfl _ _ 190 rfl B1 195 i0 (.agg #[.pointer none,.pointer none]) 2 16 underlying190 hi0 hz0 hz1 hz2 rfl (by decide) _ _ _ rfl (hown.alloc _) ⟨W1.heap.size,0,none⟩ 1 1 [.pointer (some ⟨ki,0,none⟩),.pointer (some ⟨kj,0,none⟩)] rfl rfl (Cs _ _ _ _ (by simp)) (Wg rfl rfl) (by decide) (by unfold maxLen;omega) (by omega) (by simp;omega) (W1.heap.size+1) (by simp) ?_;intro g1 wK w1 hown1 hgrow1 hat1 hlt1;have HO1:=Aa hown1;have HG1:=Aa hgrow1;have HAT1:=Aa hat1;have hG1:=farG.o w1 hgrow1;have cG2:=Ac hG1;have fG2:=Am hG1;have lG2:=Ab hG1;clear hG1 hown1 hgrow1 hat1);have HP:=Aa (HBA.o.push (p:=(i,j)) HG1.o (by unfold LY;rw[HPi.o,HPj.o];exact HO1.o) (by have q:=UT (len:=g.2.length+1) (cap:=wK) HAT1.o;rw[show(W1.alloc (.cells #[.pointer (some ⟨ki,0,none⟩),.pointer (some ⟨kj,0,none⟩)] 195)).heap.size=W1.heap.size+1 from by simp];exact q));go_end0;rw[HQ.o];exact⟨rfl,_,HP.o.1,(HA1.o.trans (AF.of_below (bA (tM _ _) _))).trans HP.o.2⟩
  ·rw[uC rfl]at HQ
   have HQ2:=Aa (show FF=g from HQ.o);go_enter func124,ntmps124;go_wp2_with fail;go_quiet (fail);obtain⟨n1,hn1⟩:∃n1,n1=nq:=⟨_,rfl⟩;rw[<-hn1];clear hn1 nq;go_wp2_with fail;go_quiet (fail);go_wp2_with fail;go_end0;rw[HQ2.o];have hbb:=below_drewN (tM w.heap.size w) (n1+nq);exact⟨rfl,_,HX.o.below hbb,AF.of_below hbb⟩
end
end Go.Proofs.YtadneapobijejaaGreatDoor
