import Derived.Test.YtadneapobijejaaGreatDoorC29
import Derived.Test.YtadneapobijejaaGreatDoorC33
import Derived.Lib.SliceRun
namespace Go.Proofs.YtadneapobijejaaGreatDoor
set_option maxHeartbeats 20000000
set_option maxRecDepth 100000
open Go.RowKit Tryz
def Gj(c:GZ):Bool:=((c.2.1:Int)==(c.1:Int))
theorem bC(c:GZ):Gj c=decide (c.2.1=c.1):=by
 unfold Gj;rw[Bool.eq_iff_iff];simp;omega
theorem ZR(w:World)(c:GZ):Calls prog 215 #[.agg #[.int .i64 c.1,.int .i64 c.2.1,.int .i64 c.2.2.1,.string c.2.2.2]] w fun e w'=>e=.returned (.bool (Gj c))/\vE w w':=by
 have HQ:=Aa (show Gj c=((c.2.1:Int)==(c.1:Int))from rfl);generalize Gj c=q at*;go_enter func215,ntmps215;go_wp2_with fail;go_ret;rw[HQ.o];exact⟨rfl,bA (tM _ _) _⟩
section
variable {w:World} {B:Nat} {v:Value} {l:List GZ}
theorem eK(h:w.ownsRow B 186 4 v l.length (l.flatMap cL))(hl:l.length<=802):
 Calls prog 235 #[v,.func (Fn.func 215) #[] #[]] w fun e w'=>(∃q:Int,e=.returned (.int .i64 q)/\decide (0<=q)=l.any Gj/\ -1<=q)/\vE w w':=by
 obtain⟨a,cap,rfl⟩:=An h;have H0:=Aa h;obtain⟨RES,vH⟩:∃RES,Hi (RES=l.any Gj):=⟨_,Aa rfl⟩;rw[<-vH.o];clear h;go_enter func235,ntmps235;go_wp2_with fail;go_loopg [5,8] l.length (fun m v5 v8 wr=>∃k:Nat,v8=.int .i64 k/\k<=l.length/\l.length-k<=m/\vE w wr/\RES=(l.drop k).any Gj)
 case atStart=>exact⟨0,rfl,tU _,tL _,tM _ _,vH.o⟩
 case round=>
  obtain⟨k,rfl,hk,hm,hb,hrel⟩:=hrel;have HM:=Aa hrel;have HB:=Aa hb;by_cases hlt:k<l.length
  ·have hx:=tN hlt
   have hdr:l.drop k=l[k]::l.drop (k+1):=uT hlt;generalize l[k]=c at hx hdr;obtain⟨g,cap',hv,hc⟩:=Cn H0.o (fun _=>rfl) k c hx;have ea:=(Value.slice.inj hv).1;subst ea;have y0:wr.cell? ⟨g,k*4,none⟩=some (.int .i64 c.1):=Ah hb (by simpa using hc 0 _ rfl);have y1:wr.cell? ⟨g,k*4+1,none⟩=some (.int .i64 c.2.1):=Ah hb (hc 1 _ rfl);have y2:wr.cell? ⟨g,k*4+2,none⟩=some (.int .i64 c.2.2.1):=Ah hb (hc 2 _ rfl);have y3:wr.cell? ⟨g,k*4+3,none⟩=some (.string c.2.2.2):=Ah hb (hc 3 _ rfl);have lg:=tR wr _ y0;have HC:=Aa (ZR wr c);rw[hdr,List.any_cons]at HM;generalize Gj c=db at*;clear hc hv hx hdr hrel hb;cases db
   ·have HE:=Aa (show RES=(l.drop (k+1)).any Gj from HM.o)
    go_wp2_with fail;refine HC.o.mono ?_;rintro _ w1 ⟨rfl,b1⟩;have HB1:=Aa (bT HB.o b1);clear b1;go_wp2_with fail;go_roundg (l.length-(k+1))
    case measure=>omega
    case rel=>exact⟨k+1,by go_num,by omega,tL _,HB1.o,HE.o⟩
   ·have HE:=Aa (show RES=true from HM.o)
    go_wp2_with fail;refine HC.o.mono ?_;rintro _ w1 ⟨rfl,b1⟩;have HB1:=Aa (bT HB.o b1);clear b1;go_wp2_with fail;go_ret;exact⟨⟨(k:Int),rfl,by rw[HE.o];exact uH (by omega),by omega⟩,HB1.o⟩
  ·have hkl:k=l.length:=by omega
   subst hkl;have HE:=Aa (show RES=false from by rw[HM.o,List.drop_length];rfl);clear hb hrel HM;go_wp2_with fail;go_ret;exact⟨⟨-1,rfl,by rw[HE.o];rfl,by omega⟩,HB.o⟩
theorem dX(h:w.ownsRow B 186 4 v l.length (l.flatMap cL))(hl:l.length<=802):
 Calls prog 214 #[v,.func (Fn.func 215) #[] #[]] w fun e w'=>e=.returned (.bool (l.any Gj))/\vE w w':=by
 have HI:=Aa (eK h hl);obtain⟨a,cap,rfl⟩:=An h;generalize l.any Gj=q at*;clear h;go_enter func214,ntmps214;go_wp2_with fail;refine HI.o.mono ?_;rintro _ w1 ⟨⟨z,rfl,hz,_⟩,b1⟩;go_wp2_with fail;go_ret;exact⟨Ak (by rw[<-hz]),b1⟩
theorem hH{g o B0:Nat}{pp:List Nat}{x:Aq}(hx:ET w B0 pp g o x):
 Calls prog 179 #[.pointer (some ⟨g,o,none⟩)] w fun e w'=>e=.returned (.bool (LK x))/\vE w w':=by
 obtain⟨aA,cA,aC,cC,hc,hok⟩:=hx.ex;have x4:w.cell? ⟨g,o+4,none⟩=some (.slice aC x.conds.length cC):=hc 4 _ rfl;have lg:=tR w _ x4;have HH:=Aa (dX hok.c hok.cl);have HQ:=Aa (show LK x=x.conds.any Gj from by unfold LK;congr 1;funext c;exact(bC c).symm);generalize LK x=FF at*;simp only[]at HH;generalize x.conds.any Gj=q at*;clear hc hok hx;go_enter func179,ntmps179;go_wp2_with fail;refine HH.o.mono ?_;rintro _ w1 ⟨rfl,b1⟩;go_wp2_with fail;go_ret;rw[HQ.o];exact⟨rfl,b1⟩
end
open Go.Lib (strCells)
def Gv(roles:List vD)(fs:List Al):List vD:=(fs.filter (fun f=>Dy roles f.hide_)).map Al.name
def JT(objs:List Ap)(ifs:List As)(roles:List vD)(typ:vD):List UInt8:=match DU objs ifs typ with
 |none=>Hy
 |some fs=>Hs (Gv roles fs)
theorem rG(roles:List vD)(l:List Al)(f:Al):Gv roles (l++[f])=Gv roles l++(if Dy roles f.hide_=true then [f.name]else []):=by
 unfold Gv;rw[List.filter_append,uU];by_cases h:Dy roles f.hide_=true
 ·rw[uC h];simp[h]
 ·rw[uB h];simp[h]
section
variable {w:World} {S:Nat} {vR vO vI vU vN:Value} {LR:List (At×Value)} {LO:List AV} {LI:List (As×Value)} {LU:List (Au×Value)} {names:List vD} {B0 M T V n:Nat} {s:Aj}
theorem kK(hS:SV w S vR vO vI vU vN LR LO LI LU names){vL u:Value}{id:vD}{roles:List vD}(hV:DM w V id roles)(hT:w.heap[T]?=some (.cells #[vL,.pointer (some ⟨S,0,none⟩),u] 75 (0,0)))(typ:vD)(hne:∀fs,DU (LO.map Prod.fst) (LI.map Prod.fst) typ=some fs->fs≠[]/\∀f∈fs,f.name.size<=100000)(h:MK w B0 M T V n s)(hr:Ej s)(hr2:s.data.length<=60000000000000)(hw:B0<=w.heap.size):Calls prog 131 #[.pointer (some ⟨M,0,none⟩),.string typ] w (AQ w B0 M T V n (.tuple #[]) (s.write (JT (LO.map Prod.fst) (LI.map Prod.fst) roles typ))):=by
 obtain⟨i0,hi,hz⟩:=uY.1 info9';simp only[Prod.mk.injEq]at hz;obtain⟨hz0,hz1,hz2⟩:=hz;have HF:=Aa (Xz hS typ);have HN:=Aa (fun(W:World) (hW:vE w W) (l:List vD) (hl:l.length<=10000) (hls:∀x∈l,x.size<=100000) (v:Value) (ho:W.ownsRow w.heap.size 9 1 v l.length (Bi l))=>VG (w:=W) l v (fun X hX=>hX.strs ho) hl hls (h.below hW) hr hr2 (tQ hw hW.size));have HW:=Aa (fun(W:World) (hW:vE w W)=>IP ⟨#[110,117,108,108]⟩ (by decide) (h.below hW) hr (tQ hw hW.size));have HVW:=Aa (fun(W:World) (hW:vE w W)=>hV.below hW);obtain⟨vd,ve,vp,hx⟩:=h;have HX:=Aa hx;have cM:=Ac hx.b;have lM:=Ab hx.b;have cT:=Ac hT;have lT:=Ab hT;have heq:=fun(W:World) (a:Option Addr) (n c:Nat)=>Lib.run_eql_slice_nil (P:=prog) W 198 248 a n c 0 0 underlying198;have HQ:=Aa (JT.eq_1 (LO.map Prod.fst) (LI.map Prod.fst) roles typ);generalize JT (LO.map Prod.fst) (LI.map Prod.fst) roles typ=FF at*;have HNE:=Aa hne;generalize DU (LO.map Prod.fst) (LI.map Prod.fst) typ=fp at*;unfold AQ at HN HW⊢;clear hx hT hS hr hV hne;go_enter func131,ntmps131;go_wp2_with fail;refine HF.o.mono ?_;rintro _ w1 ⟨v,rfl,b1,hv⟩;have HB1:=Aa b1;cases fp with
 |none=>
  have e:v=.slice none 0 0:=hv;subst e;have HQ2:=Aa (show FF=Hy from HQ.o);have HWC:=Aa (HW.o w1 b1);clear b1 hv HF;go_wp2_with fail;refine HWC.o.mono ?_;rintro _ w3 ⟨rfl,h3,f3⟩;have H3:=Aa h3;have F3:=Aa ((FT.of_below HB1.o hw).trans f3);clear h3 f3;go_wp2_with fail;refine bodyPost_ret (v:=.tuple #[]) (by simp[results,go_sem]) rfl ?_;rw[HQ2.o];exact⟨rfl,H3.o,F3.o⟩
 |some fs=>
  obtain⟨hpf,hfl⟩:=hv;obtain⟨hfne,hfsz⟩:=HNE.o fs rfl;have HQ2:=Aa (show FF=Hs (Gv roles fs)from HQ.o);obtain⟨L,hL,hrow⟩:=hpf.row;have hLf:L.length=fs.length:=by rw[<-hL,uP]
  obtain⟨gF,cF,hvF,hcell⟩:∃gF cF,v=.slice (some ⟨gF,0,none⟩) fs.length cF/\∀j f,fs[j]?=some f->∃u,Ce w gF (j*6) f u:=by
   obtain⟨y0,hy0⟩:∃y0,L[0]?=some y0:=⟨_,tN (by have:=List.length_pos_iff.2 hfne;omega)⟩;obtain⟨g,cap,e,_,_⟩:=hrow.fldAt 0 y0 hy0;refine⟨g,cap,by rw[e,hLf],fun j f hj=>?_⟩;rw[<-hL,uD]at hj;obtain⟨y,hy,rfl⟩:=uY.1 hj;obtain⟨g',cap',e',hfa,_⟩:=hrow.fldAt j y hy;have e3:=Addr.mk.inj (tY (Value.slice.inj (e.symm.trans e')).1);rw[e3.1];exact⟨y.2,hfa⟩
  subst hvF;have HCELL:=Aa hcell;have HSZ:=Aa hfsz;have hMX:=(HX.o.below b1).b;have cM1:=Ac hMX;have lM1:=Ab hMX;clear hpf hL hrow hLf hcell b1 hfsz HNE hMX cM lM cT lT HF;go_wp2_with fail;go_loopg [5,6,22] fs.length (fun m v5 v6 v22 wr=>∃(t:Nat) (l':List vD),v22=.int .i64 t/\t<=fs.length/\fs.length-t<=m/\vE w wr/\wr.ownsRow w.heap.size 9 1 v5 l'.length (Bi l')/\l'=Gv roles (fs.take t))
  case atStart=>exact⟨0,[],rfl,tU _,tL _,HB1.o,uA _ _ _ _,rfl⟩
  case round=>
   obtain⟨t,l',rfl,htl,htm,hb,ho,hle⟩:=hrel;have HB:=Aa hb;have HO:=Aa ho;have HLE:=Aa hle;obtain⟨al,cl,rfl⟩:=An ho;have hll:l'.length<=802:=by
    rw[hle];unfold Gv;rw[uP];refine tQ (List.length_filter_le _ _) ?_;rw[List.length_take];omega
   have hMX:=(HX.o.below hb).b;have cMr:=Ac hMX;have lMr:=Ab hMX;have hbz:=hb.size;clear hle hMX;by_cases hlt:t<fs.length
   ·have hx:=tN hlt
    generalize fs[t]=f at hx;obtain⟨uf,hfa0⟩:=HCELL.o t f hx;have hfa:=hfa0.below hb;have f0:=hfa.c0;have lf:=tR wr _ f0;have HHI:=Aa (fun(W:World) (hW:vE wr W)=>Yk ((HVW.o wr hb).below hW) (hfa.below hW));have HX1:=Aa (show Gv roles (fs.take (t+1))=l'++(if Dy roles f.hide_=true then [f.name]else [])from by rw[uG,hx,Option.toList_some,rG,HLE.o]);generalize Dy roles f.hide_=mb at*;have htI:(t:Int)<fs.length:=by omega
    have hO1:=ho.alloc (.cells #[.string f.name] 9);clear hb hfa hfa0 hx;cases mb
    ·have HX2:=Aa (show l'=Gv roles (fs.take (t+1))from by rw[HX1.o];simp)
     go_wp2_with fail;go_quiet ((go_at_call 172;refine Calls.quiet_of_same (HHI.o _ (below_drewN (tM _ _) _))));go_wp2_with fail;go_roundg (fs.length-(t+1))
     case measure=>omega
     case rel=>exact⟨t+1,l',by go_num,by omega,tL _,below_drewN HB.o _,AT HO.o (below_drewN (tM _ _) _),HX2.o⟩
    ·have HX2:=Aa (show l'++[f.name]=Gv roles (fs.take (t+1))from by rw[HX1.o];simp)
     go_wp2_with fail;go_quiet ((go_at_call 172;refine Calls.quiet_of_same (HHI.o _ (below_drewN (tM _ _) _))));have HOq:=Aa (AT HO.o (below_drewN (tM _ _) nq));have HBq:=Aa (below_drewN HB.o nq);have f0q:(wr.drewN nq).cell? ⟨gF,t*6,none⟩=some (.string f.name):=Ah (below_drewN (tM _ _) nq) f0;have lfq:gF<(wr.drewN nq).heap.size:=tV lf (below_drewN (tM wr.heap.size wr) nq).size;have hzq:w.heap.size<=(wr.drewN nq).heap.size:=tQ hbz (below_drewN (tM wr.heap.size wr) nq).size;generalize wr.drewN nq=Wq at*;have hOq1:=HOq.o.alloc (.cells #[.string f.name] 9);clear f0 lf hO1 ho;go_wp2_with (at_builtin;refine wpList_append_own _ rfl _ _ 107 rfl w.heap.size 9 i0 (.string ⟨#[]⟩) 1 16 underlying107 hi hz0 hz1 hz2 rfl (by decide) _ _ _ rfl hOq1 ⟨Wq.heap.size,0,none⟩ 1 1 [.string f.name] rfl rfl (Cs _ _ _ _ (by simp)) (fun u hu=>by simp at hu;subst hu;rfl) (by unfold maxLen;omega) (by omega) (by simp;omega) ?_;intro v' w2 hown' hgrow _);have HB2:=Aa (show vE w w2 from(bA HBq.o (.cells #[.string f.name] 9)).grown hgrow (by simp;omega) (fun k hk=>(hOq1.lt k hk).1));have HO2:=Aa (show w2.ownsRow w.heap.size 9 1 v' (l'++[f.name]).length (Bi (l'++[f.name]))from by
      rw[uE];simpa [Bi]using hown')
     obtain⟨av2,cv2,rfl⟩:=An hown';clear hown' hgrow hOq1;go_roundg (fs.length-(t+1))
     case measure=>omega
     case rel=>exact⟨t+1,l'++[f.name],by go_num,by omega,tL _,HB2.o,HO2.o,HX2.o⟩
   ·have ht:t=fs.length:=by omega
    subst ht;have hl':l'=Gv roles fs:=by rw[HLE.o,List.take_length]
    have HNC:=Aa (HN.o wr hb l' (by omega) (fun x hx=>by
     rw[hl']at hx;obtain⟨f,hf,rfl⟩:=List.mem_map.1 hx;exact HSZ.o f (List.mem_filter.1 hf).1) _ HO.o)
    have HS:=Aa (show FF=Hs l' from by rw[HQ2.o,hl']);clear hb ho HLE hl';go_wp2_with fail;refine HNC.o.mono ?_;rintro _ w3 ⟨rfl,h3,f3⟩;have H3:=Aa h3;have F3:=Aa ((FT.of_below HB.o hw).trans f3);clear h3 f3;go_wp2_with fail;go_end0;rw[HS.o];exact⟨rfl,H3.o,F3.o⟩
end
def PL(s s':Aj):Prop:=s'.path=s.path/\s'.left<=s.left
theorem PL.refl(s:Aj):PL s s:=⟨rfl,Int.le_refl _⟩
theorem PL.trans{a b c:Aj}(h:PL a b)(k:PL b c):PL a c:=⟨k.1.trans h.1,Int.le_trans k.2 h.2⟩
theorem PL.write(s:Aj)(t:List UInt8):PL s (s.write t):=⟨rfl,Int.le_refl _⟩
theorem PL.fail(s:Aj):PL s s.fail:=⟨rfl,Int.le_refl _⟩
theorem PL.step(s:Aj):PL s s.step:=⟨rfl,by show s.left-1<=s.left;omega⟩
theorem PL.settle(n how:Nat)(st:Bool)(s:Aj):PL s (BE n how st s).2:=by
 unfold BE;split
 ·exact PL.refl _
 ·show PL s (if how=1/\st=true then(s.cutNull n).fail else s.cutNull n)
  split<;>exact⟨rfl,Int.le_refl _⟩
theorem Qr(p t:List UInt8):(Cj p++t).take p.length=p:=by
 unfold Cj;split
 ·rename_i h;rw[h];rfl
 ·rw[List.append_assoc,List.take_left]
theorem PL.around{s1 s':Aj}{t:List UInt8}(h:PL (s1.enter t) s'):PL s1 (s'.leave s1.path.length):=⟨by
 show s'.path.take s1.path.length=s1.path;rw[h.1];exact Qr _ _,h.2⟩
def Ez(obj:BW):Prop:=∀r ps s,PL s (obj r ps s).2
theorem Xo{obj:BW}(h:Ez obj)(r:Option MR)(ps:List Nat)(s:Aj):PL s (Fb obj r ps s).2:=by
 unfold Fb;cases r with
 |none=>exact PL.fail s
 |some r=>exact h r ps s
mutual
theorem Mj(E:AJ){obj:BW}(h:Ez obj):∀(c:RV) (ty:Bo) (ps:List Nat) (s:Aj),PL s (Bj E obj c ty ps s).2
 | .mk k n t l,ty,ps,s=>by
   rw[Bj];split
   ·exact PL.refl _
   split
   ·exact PL.fail _
   split
   ·exact Xo h _ _ _
   split
   ·exact(PL.write s _).trans (QW E h l 0 (NI ty) ps 0 (s.write [91]))
   ·exact PL.write s _
theorem QW(E:AJ){obj:BW}(h:Ez obj):∀(l:List RV) (i:Nat) (ty:Bo) (ps:List Nat) (how:Nat) (s:Aj),PL s (BO E obj l i ty ps how s).2
 |[],i,ty,ps,how,s=>by rw[BO];exact PL.write s _
 |c::l,i,ty,ps,how,s=>by
  rw[BO];split
  ·exact PL.step s
  ·have h1:PL s (if 0<i then s.step.write [44]else s.step):=by
    split
    ·exact(PL.step s).trans (PL.write _ _)
    ·exact PL.step s
   generalize (if 0<i then s.step.write [44]else s.step)=s1 at*;have h2:=Mj E h c ty ps (s1.enter (AH i));have h3:=PL.settle (s1.enter (AH i)).data.length (Bj E obj c ty ps (s1.enter (AH i))).1 (CA ty) (Bj E obj c ty ps (s1.enter (AH i))).2;exact(h1.trans (PL.around (h2.trans h3))).trans (QW E h l (i+1) ty ps _ _)
end
theorem Sm(E:AJ){obj:BW}(h:Ez obj)(r:MR)(d:Al)(f:QF)(s:Aj):PL s (Da E obj r d f s).2:=by
 unfold Da;split
 ·exact PL.fail s
 split
 ·exact Xo h _ _ _
 split
 ·exact Mj E h _ _ _ _
 ·exact Mj E h _ _ _ _
theorem Oi(E:AJ){obj:BW}(h:Ez obj)(r:MR)(f:QF)(s:Aj):PL s (Cx E obj r f s).2:=by
 unfold Cx;split
 ·exact PL.write s _
 split
 ·exact PL.write s _
 split
 ·exact PL.write s _
 ·exact(Sm E h r _ f s).trans (PL.settle _ _ _ _)
theorem Rw(E:AJ){obj:BW}(h:Ez obj)(r:MR):∀(l:List QF) (i how:Nat) (s:Aj),PL s (BX E obj r l i how s).2
 |[],i,how,s=>by rw[BX];exact PL.write s _
 |f::l,i,how,s=>by
  rw[BX];split
  ·exact PL.step s
  ·have h1:PL s (if 0<i then s.step.write [44]else s.step):=by
    split
    ·exact(PL.step s).trans (PL.write _ _)
    ·exact PL.step s
   generalize (if 0<i then s.step.write [44]else s.step)=s1 at*;have h2:=Oi E h r f ((s1.enter (AO f)).write (AO f++[58]));exact(h1.trans (PL.around ((PL.write _ _).trans h2))).trans (Rw E h r l (i+1) _ _)
theorem GK(E:AJ):∀f,Ez (AR E f)
 |0,_,_,s=>PL.refl s
 |f+1,r,ps,s=>by rw[AR];exact(PL.write s _).trans (Rw E (GK E f) r _ 0 0 (s.write [123]))
def Sh(d:Int)(s t:Aj):Prop:=t.left=s.left+d/\t.data=s.data/\t.errs=s.errs/\t.path=s.path
section
variable {d:Int} {s t:Aj}
theorem Sh.write(h:Sh d s t)(b:List UInt8):Sh d (s.write b) (t.write b):=⟨h.1,by show t.data++b=s.data++b;rw[h.2.1],h.2.2.1,h.2.2.2⟩
theorem Sh.fail(h:Sh d s t):Sh d s.fail t.fail:=⟨h.1,h.2.1,by show Cj t.errs++Ie++t.path++JP=Cj s.errs++Ie++s.path++JP;rw[h.2.2.1,h.2.2.2],h.2.2.2⟩
theorem Sh.step(h:Sh d s t):Sh d s.step t.step:=⟨by show t.left-1=s.left-1+d;rw[h.1];omega,h.2⟩
theorem Sh.enter(h:Sh d s t)(b:List UInt8):Sh d (s.enter b) (t.enter b):=⟨h.1,h.2.1,h.2.2.1,by show Cj t.path++b=Cj s.path++b;rw[h.2.2.2]⟩
theorem Sh.leave(h:Sh d s t)(n:Nat):Sh d (s.leave n) (t.leave n):=⟨h.1,h.2.1,h.2.2.1,by show t.path.take n=s.path.take n;rw[h.2.2.2]⟩
theorem Sh.cut(h:Sh d s t)(n:Nat):Sh d (s.cutNull n) (t.cutNull n):=⟨h.1,by show t.data.take n++Hy=s.data.take n++Hy;rw[h.2.1],h.2.2⟩
theorem Sh.settle(h:Sh d s t)(n how:Nat)(st:Bool):(BE n how st t).1=(BE n how st s).1/\Sh d (BE n how st s).2 (BE n how st t).2:=by
 unfold BE;by_cases e:how=0
 ·rw[uC e,uC e];exact⟨rfl,h⟩
 ·rw[uB e,uB e]
  refine⟨rfl,?_⟩;show Sh d (if how=1/\st=true then(s.cutNull n).fail else s.cutNull n) (if how=1/\st=true then(t.cutNull n).fail else t.cutNull n);by_cases c:how=1/\st=true
  ·rw[uC c,uC c];exact(h.cut n).fail
  ·rw[uB c,uB c];exact h.cut n
end
def Kt(d f:Int)(obj wB:BW):Prop:=∀r ps s t,Sh d s t->s.left<f->0<=(obj r ps s).2.left->(wB r ps t).1=(obj r ps s).1/\Sh d (obj r ps s).2 (wB r ps t).2
theorem Xp{d f:Int}{obj wB:BW}(h:Kt d f obj wB)(r:Option MR)(ps:List Nat)(s t:Aj)(hs:Sh d s t)(hf:s.left<f)(h0:0<=(Fb obj r ps s).2.left):(Fb wB r ps t).1=(Fb obj r ps s).1/\Sh d (Fb obj r ps s).2 (Fb wB r ps t).2:=by
 cases r with
 |none=>exact⟨rfl,hs.fail⟩
 |some r=>exact h r ps s t hs hf h0
mutual
theorem Ss(E:AJ){d f:Int}{obj wB:BW}(hd:0<=d)(hp:Ez obj)(h:Kt d f obj wB):∀(c:RV) (ty:Bo) (ps:List Nat) (s t:Aj),Sh d s t->s.left<f->0<=(Bj E obj c ty ps s).2.left->(Bj E wB c ty ps t).1=(Bj E obj c ty ps s).1/\Sh d (Bj E obj c ty ps s).2 (Bj E wB c ty ps t).2
 | .mk k n x l,ty,ps,s,t,hs,hf,h0=>by
   rw[Bj]at h0;rw[Bj,Bj];by_cases k0:k=0
   ·rw[uC k0,uC k0];exact⟨rfl,hs⟩
   rw[uB k0,uB k0];rw[uB k0]at h0;by_cases k8:k=8
   ·rw[uC k8,uC k8];exact⟨rfl,hs.fail⟩
   rw[uB k8,uB k8];rw[uB k8]at h0;by_cases k6:k=6
   ·rw[uC k6,uC k6]
    rw[uC k6]at h0;exact Xp h _ _ _ _ hs hf h0
   rw[uB k6,uB k6];rw[uB k6]at h0;by_cases k7:k=7
   ·rw[uC k7,uC k7]
    rw[uC k7]at h0;exact UA E hd hp h l 0 (NI ty) ps 0 _ _ (hs.write _) hf h0
   rw[uB k7,uB k7];exact⟨rfl,hs.write _⟩
theorem UA(E:AJ){d f:Int}{obj wB:BW}(hd:0<=d)(hp:Ez obj)(h:Kt d f obj wB):∀(l:List RV) (i:Nat) (ty:Bo) (ps:List Nat) (how:Nat) (s t:Aj),Sh d s t->s.left<f->0<=(BO E obj l i ty ps how s).2.left->(BO E wB l i ty ps how t).1=(BO E obj l i ty ps how s).1/\Sh d (BO E obj l i ty ps how s).2 (BO E wB l i ty ps how t).2
 |[],i,ty,ps,how,s,t,hs,hf,h0=>by rw[BO,BO];exact⟨rfl,hs.write _⟩
 |c::l,i,ty,ps,how,s,t,hs,hf,h0=>by
  rw[BO]at h0;rw[BO,BO];by_cases e:s.step.left<0
  ·rw[uC e]at h0;exact absurd e (by simp only[]at h0;omega)
  ·have e':¬t.step.left<0:=by have:=hs.step.1;omega
   rw[uB e]at h0;rw[uB e,uB e'];have h1:Sh d (if 0<i then s.step.write [44]else s.step) (if 0<i then t.step.write [44]else t.step):=by
    split
    ·exact hs.step.write _
    ·exact hs.step
   have hl1:(if 0<i then s.step.write [44]else s.step).left<f:=by
    have:s.step.left<f:=by show s.left-1<f;omega
    split<;>exact this
   generalize (if 0<i then s.step.write [44]else s.step)=s1 at*;generalize (if 0<i then t.step.write [44]else t.step)=t1 at*;have hpl:=Mj E hp c ty ps (s1.enter (AH i));have hps:=PL.settle (s1.enter (AH i)).data.length (Bj E obj c ty ps (s1.enter (AH i))).1 (CA ty) (Bj E obj c ty ps (s1.enter (AH i))).2;have hpi:=QW E hp l (i+1) ty ps (if (BE (s1.enter (AH i)).data.length (Bj E obj c ty ps (s1.enter (AH i))).1 (CA ty) (Bj E obj c ty ps (s1.enter (AH i))).2).1=true then how else 2) ((BE (s1.enter (AH i)).data.length (Bj E obj c ty ps (s1.enter (AH i))).1 (CA ty) (Bj E obj c ty ps (s1.enter (AH i))).2).2.leave s1.path.length);have a1:(0:Int)<=(BE (s1.enter (AH i)).data.length (Bj E obj c ty ps (s1.enter (AH i))).1 (CA ty) (Bj E obj c ty ps (s1.enter (AH i))).2).2.left:=Int.le_trans h0 hpi.2;have a2:(0:Int)<=(Bj E obj c ty ps (s1.enter (AH i))).2.left:=Int.le_trans a1 hps.2;obtain⟨v1,v2⟩:=Ss E hd hp h c ty ps _ _ (h1.enter (AH i)) hl1 a2;have hdl:(t1.enter (AH i)).data.length=(s1.enter (AH i)).data.length:=by rw[(h1.enter (AH i)).2.1]
   obtain⟨z1,z2⟩:=v2.settle (s1.enter (AH i)).data.length (Bj E obj c ty ps (s1.enter (AH i))).1 (CA ty);simp only[hdl,v1,z1,h1.2.2.2];refine UA E hd hp h l (i+1) ty ps _ _ _ (z2.leave _) ?_ h0;show(BE _ _ _ _).2.left<f;have:=hps.2;have:=hpl.2;have:(s1.enter (AH i)).left=s1.left:=rfl;omega
end
theorem sF(E:AJ){d f:Int}{obj wB:BW}(hd:0<=d)(hp:Ez obj)(h:Kt d f obj wB)(r:MR)(q:Al)(x:QF)(s t:Aj)(hs:Sh d s t)(hf:s.left<f)(h0:0<=(Da E obj r q x s).2.left):(Da E wB r q x t).1=(Da E obj r q x s).1/\Sh d (Da E obj r q x s).2 (Da E wB r q x t).2:=by
 unfold Da at h0⊢;by_cases c1:Dy E.roles q.auth=false
 ·rw[uC c1,uC c1];exact⟨rfl,hs.fail⟩
 rw[uB c1,uB c1];rw[uB c1]at h0;by_cases c2:q.arg=CI
 ·rw[uC c2,uC c2]
  rw[uC c2]at h0;exact Xp h _ _ _ _ hs hf h0
 rw[uB c2,uB c2];rw[uB c2]at h0;by_cases c3:x.1.args=[]
 ·rw[uC c3,uC c3]
  rw[uC c3]at h0;exact Ss E hd hp h _ _ _ _ _ hs hf h0
 rw[uB c3,uB c3];rw[uB c3]at h0;exact Ss E hd hp h _ _ _ _ _ hs hf h0
theorem dB(E:AJ){d f:Int}{obj wB:BW}(hd:0<=d)(hp:Ez obj)(h:Kt d f obj wB)(r:MR)(x:QF)(s t:Aj)(hs:Sh d s t)(hf:s.left<f)(h0:0<=(Cx E obj r x s).2.left):(Cx E wB r x t).1=(Cx E obj r x s).1/\Sh d (Cx E obj r x s).2 (Cx E wB r x t).2:=by
 unfold Cx at h0⊢;by_cases c1:x.1.name=FH
 ·rw[uC c1,uC c1];exact⟨rfl,hs.write _⟩
 rw[uB c1,uB c1];rw[uB c1]at h0;by_cases c2:x.1.name=FI
 ·rw[uC c2,uC c2];exact⟨rfl,hs.write _⟩
 rw[uB c2,uB c2];rw[uB c2]at h0;by_cases c3:x.1.name=Fk
 ·rw[uC c3,uC c3];exact⟨rfl,hs.write _⟩
 rw[uB c3,uB c3];rw[uB c3]at h0;simp only[]at h0⊢;generalize (En (E.obj r.1).fields x.1.name).getD QJ=q at*;have a:=Int.le_trans h0 (PL.settle s.data.length (Da E obj r q x s).1 (CA q.ty) (Da E obj r q x s).2).2;obtain⟨v1,v2⟩:=sF E hd hp h r q x s t hs hf a;rw[hs.2.1,v1];exact v2.settle _ _ _
theorem Wa(E:AJ){d f:Int}{obj wB:BW}(hd:0<=d)(hp:Ez obj)(h:Kt d f obj wB)(r:MR):∀(l:List QF) (i how:Nat) (s t:Aj),Sh d s t->s.left<=f->0<=(BX E obj r l i how s).2.left->(BX E wB r l i how t).1=(BX E obj r l i how s).1/\Sh d (BX E obj r l i how s).2 (BX E wB r l i how t).2
 |[],i,how,s,t,hs,hf,h0=>by rw[BX,BX];exact⟨rfl,hs.write _⟩
 |x::l,i,how,s,t,hs,hf,h0=>by
  rw[BX]at h0;rw[BX,BX];by_cases e:s.step.left<0
  ·rw[uC e]at h0;exact absurd e (by simp only[]at h0;omega)
  ·have e':¬t.step.left<0:=by have:=hs.step.1;omega
   rw[uB e]at h0;rw[uB e,uB e'];have h1:Sh d (if 0<i then s.step.write [44]else s.step) (if 0<i then t.step.write [44]else t.step):=by
    split
    ·exact hs.step.write _
    ·exact hs.step
   have hl1:(if 0<i then s.step.write [44]else s.step).left<f:=by
    have:s.step.left<f:=by show s.left-1<f;omega
    split<;>exact this
   generalize (if 0<i then s.step.write [44]else s.step)=s1 at*;generalize (if 0<i then t.step.write [44]else t.step)=t1 at*;simp only[]at h0⊢;have h2:Sh d ((s1.enter (AO x)).write (AO x++[58])) ((t1.enter (AO x)).write (AO x++[58])):=(h1.enter _).write _;have hl2:((s1.enter (AO x)).write (AO x++[58])).left<f:=hl1;generalize (s1.enter (AO x)).write (AO x++[58])=s2 at*;generalize (t1.enter (AO x)).write (AO x++[58])=t2 at*;have hpl:=Oi E hp r x s2;have hpi:=Rw E hp r l (i+1) (if (Cx E obj r x s2).1=true then how else 2) ((Cx E obj r x s2).2.leave s1.path.length);have a2:(0:Int)<=(Cx E obj r x s2).2.left:=Int.le_trans h0 hpi.2;obtain⟨v1,v2⟩:=dB E hd hp h r x s2 t2 h2 hl2 a2;rw[v1,h1.2.2.2];refine Wa E hd hp h r l (i+1) _ _ _ (v2.leave _) ?_ h0;show(Cx E obj r x s2).2.left<=f;have:=hpl.2;omega
theorem Wc(E:AJ){d:Int}(hd:0<=d):∀(f f':Nat),f<=f'->Kt d f (AR E f) (AR E f')
 |0,_,_=>fun r ps s t hs hf h0=>by
  have:=(GK E 0 r ps s).2;omega
 |f+1,f',hff=>fun r ps s t hs hf h0=>by
  obtain⟨g,rfl⟩:∃g,f'=g+1:=⟨f'-1,by omega⟩;rw[AR]at h0;rw[AR,AR];exact Wa E hd (GK E f) (Wc E hd f g (by omega)) r _ 0 0 _ _ (hs.write _) (by show s.left<=f;omega) h0
end Go.Proofs.YtadneapobijejaaGreatDoor
