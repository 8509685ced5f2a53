import Derived.Test.YtadneapobijejaaGreatDoorC30
import Derived.Lib.SliceRun
namespace Go.Proofs.YtadneapobijejaaGreatDoor
set_option maxHeartbeats 20000000
set_option maxRecDepth 100000
open Go.RowKit Tryz
theorem Rb{parts:List Ai}(hp:BM parts){i:Nat}(hi:i<parts.length):Bf parts i≠[]:=by
 unfold Bf;rw[BJ];rw[uB (by rw[List.getD_eq_getElem?_getD,List.getElem?_replicate];split<;>simp)];have key:∀(f:Nat) (r:List Aq) (l:List Nat) (s:List Bool),(∀x∈r,∀i,x.part=some i->i<parts.length)->s.length=parts.length->l≠[]->(CN (BJ parts f) r l s).1≠[]:=by
  intro f
  induction f with
  |zero=>
   intro r
   induction r with
   |nil=>intro l s _ _ h;exact h
   |cons x r ih=>
    intro l s hx hs h;rw[CN];split
    ·exact ih l s (fun y hy=>hx y (uW _ hy)) hs h
    ·exact ih _ _ (fun y hy=>hx y (uW _ hy)) hs h
  |succ f ihf=>
   intro r
   induction r with
   |nil=>intro l s _ _ h;exact h
   |cons x r ih=>
    intro l s hx hs h;rw[CN];split
    ·exact ih l s (fun y hy=>hx y (uW _ hy)) hs h
    ·rename_i j hj
     have hjp:x.part=some j:=by
      by_cases hk:x.kind=0
      ·rw[uC hk]at hj;cases hj
      ·rw[uB hk]at hj;exact hj
     refine ih _ _ (fun y hy=>hx y (uW _ hy)) (Ng hp (f+1) j l s (hx x uX j hjp) hs).1 ?_;rw[BJ];split
     ·exact h
     ·exact ihf _ _ _ (hp.d j) (by simpa using hs) (by simp)
 exact key _ _ _ _ (hp.d i) (by simp) (by simp)
theorem Nq{w:World}{B e:Nat}{v:Value}{l:List Nat}{pp:List Nat}(h:w.ownsRow B e 1 v l.length (Bw pp l))(hl:l≠[]):∃g c,v=.slice (some ⟨g,0,none⟩) l.length c:=by
 rcases h.2 with⟨_,q⟩|⟨g,cap,cur,e1,_⟩
 ·exact absurd (tZ q) hl
 ·exact⟨g,cap,e1⟩
section
variable {w w0:World} {B0 B1 G Mb Lb:Nat} {pp:List Nat} {parts:List Ai} {g:AY} {vo:Value}
theorem AG.setL(h:AG w B1 G Mb Lb pp parts g vo){i:Nat}(hi:i<pp.length){a:Addr}{c:Nat}(ho:w.ownsRow B1 89 1 (.slice (some a) (Bf parts i).length c) (Bf parts i).length (Bw pp (Bf parts i))):AG (w.setCell ⟨Lb,i,none⟩ (.slice (some a) (Bf parts i).length c)) B1 G Mb Lb pp parts g vo/\AF G Mb Lb w vo (w.setCell ⟨Lb,i,none⟩ (.slice (some a) (Bf parts i).length c)) vo:=by
 obtain⟨cs,h1,h2,h3⟩:=h.l;have ow:∀{e:TypeId} {size n:Nat} {v:Value} {xs:List Value},w.ownsRow B1 e size v n xs->e≠78->(w.setCell ⟨Lb,i,none⟩ (.slice (some a) (Bf parts i).length c)).ownsRow B1 e size v n xs:=fun ho he=>It ho (fun j hj _=>tX _ _ _ _ (show j≠Lb from fun e=>Bv ho h1 (fun q=>he q.symm) (by rw[<-e];exact hj)));refine⟨⟨DT h.b (DW h.b h1 (by decide)) _,ow h.o (by decide),DT h.m (DW h.m h1 (by decide)) _,⟨_,AI h1 i _,by simpa using h2,fun j hj=>?_⟩,h.lg,h.lm,h.ll⟩,rfl,rfl,rfl,by simp[World.setCell],fun k _ _ _ hk _=>tX _ _ _ _ hk,fun _ q=>.inl q⟩;by_cases e:i=j
 ·subst e
  exact .inr ⟨a,c,by rw[Array.getElem?_setIfInBounds_self];simp[h2,hi],ow ho (by decide)⟩
 ·rw[uR e]
  exact(h3 j hj).imp (fun e=>e) (fun⟨a,c,e,o⟩=>⟨a,c,e,ow o (by decide)⟩)
theorem gW(hP:Bh w0 B0 pp 0 parts)(hn:pp.length=parts.length)(hpi:BM parts)(hn2:pp.length<=2000)(hb0:vE w0 w)(hBw:B1<=w.heap.size)(h:AG w B1 G Mb Lb pp parts g vo){i k:Nat}(hi:pp[i]?=some k):
 Calls prog 123 #[.pointer (some ⟨G,0,none⟩),.pointer (some ⟨k,0,none⟩)] w fun e w'=>∃a c,e=.returned (.slice (some a) (Bf parts i).length c)/\w'.ownsRow B1 89 1 (.slice (some a) (Bf parts i).length c) (Bf parts i).length (Bw pp (Bf parts i))/\AG w' B1 G Mb Lb pp parts g vo/\AF G Mb Lb w vo w' vo:=by
 have hil:i<pp.length:=Fu hi;obtain⟨P,hPi⟩:∃P,parts[i]?=some P:=⟨_,tN (by omega)⟩;have hpa:=hP i P hPi;rw[Nat.zero_add]at hpa;obtain⟨aa,cap,wH, -⟩:=hpa.rd hi;have hkb:=(hb0.block _ (Ab wH)).trans wH;have nk:w.cell? ⟨k,1,none⟩=some (.int .i64 i):=Ac hkb 1;have lk:=Ab hkb;obtain⟨cs,h1,h2,h3⟩:=h.l;have cG:=Ac h.b;have lG:=Ab h.b;have cL:=Ac h1 i;have fL:=Am h1;have lL:=Ab h1;have HX:=Aa h;have hiI:(i:Int)<pp.length:=by omega
 have heq:=fun(W:World) (a:Option Addr) (n c:Nat)=>Lib.run_eql_slice_nil (P:=prog) W 78 89 a n c 0 0 underlying78;rcases h3 i hil with e|⟨a,c,e,ho⟩
 ·have cL':w.cell? ⟨Lb,i,none⟩=some (.slice none 0 0):=cL.trans e
  have hmk:=run_make_row' (P:=prog) 124 4 (.bool false) 1 underlying124 info4 rfl .i64 .i64 pp.length (by omega) (by omega);have HLA:=Aa (fun(W:World) (hW:vE w W) (Sb:Nat) (hSb:w.heap.size<=Sb) (hS:W.heap[Sb]?=some (.cells (madeCells #[.bool false] pp.length) 4 (0,0)))=>(show Calls prog 177 #[.pointer (some ⟨k,0,none⟩),.slice none 0 0,.slice (some ⟨Sb,0,none⟩) pp.length pp.length] W fun e w'=>∃v',e=.returned v'/\w'.ownsRow B1 89 1 v' (Bf parts i).length (Bw pp (Bf parts i))/\Below w.heap.size W w' from by
   have q:=gZ (B1:=w.heap.size) (Sb:=Sb) hP hn hpi hb0.size hSb (parts.length+1) W i k [] (.slice none 0 0) (List.replicate pp.length false) (hb0.trans (hW.mono hb0.size)) hW.size hi (uA _ _ _ _) (by rw[<-Nk];exact hS) (by simp) (by rw[Ja];omega) (by rw[Ja];simp;omega);refine q.mono ?_;rintro e w' ⟨v',q1,q2,_,q4⟩;have e0:(BJ parts (parts.length+1) i [] (List.replicate pp.length false)).1=Bf parts i:=by unfold Bf;rw[hn]
   rw[e0]at q2;exact⟨v',q1,Fw q2 hBw,q4⟩))
  have hne:=Rb hpi (show i<parts.length by omega);generalize hLP:Bf parts i=LP at*;have HK:=Aa hkb;have HL1:=Aa h1;clear hP hn hpi hb0 hpa wH hkb h h1 h3 cL e hPi;go_enter func123,ntmps123;go_wp2_with fail;go_quiet (fail);obtain⟨n1,hn1⟩:∃n1,n1=nq:=⟨_,rfl⟩;rw[<-hn1];clear hn1 nq;go_wp2_with fail;have HB1:=Aa (below_drewN (tM w.heap.size w) n1);go_cut [] (fun wc=>AG wc B1 G Mb Lb pp parts g vo/\AF G Mb Lb w vo wc vo/\∃a c,wc.cell? ⟨Lb,i,none⟩=some (.slice (some a) LP.length c)/\wc.ownsRow B1 89 1 (.slice (some a) LP.length c) LP.length (Bw pp LP))
  case first=>
   have HLB:=Aa (fun(W:World) (hW:vE w W) (Sb:Nat) (hSb:w.heap.size<=Sb) (hS:W.heap[Sb]?=some (.cells (madeCells #[.bool false] pp.length) 4 (0,0)))=>(HLA.o W hW Sb hSb hS).mono (show∀e w',_->(∃g2 c2,e=.returned (.slice (some ⟨g2,0,none⟩) LP.length c2)/\(∀j,w'.cell? ⟨G,j,none⟩=(#[vo,.slice (some ⟨Mb,0,none⟩) (pp.length*pp.length) (pp.length*pp.length),.slice (some ⟨Lb,0,none⟩) pp.length pp.length]:Array Value)[j]?)/\w'.cell? ⟨k,1,none⟩=some (.int .i64 i)/\w'.cell? ⟨Lb,i,none⟩=some (.slice none 0 0)/\(∀j,w'.frozen? ⟨Lb,j,none⟩=false)/\G<w'.heap.size/\k<w'.heap.size/\Lb<w'.heap.size/\Hi (w'.ownsRow B1 89 1 (.slice (some ⟨g2,0,none⟩) LP.length c2) LP.length (Bw pp LP)/\vE w w'))from by
    rintro e w' ⟨v',rfl,ho,b2⟩;obtain⟨g2,c2,rfl⟩:=Nq ho hne;have hV:=hW.trans b2;exact⟨g2,c2,rfl,Ac (HX.o.below hV).b,Ah hV nk,Ah hV cL',Am ((hV.block _ lL).trans HL1.o),tV lG hV.size,tV lk hV.size,tV lL hV.size,Aa ⟨ho,hV⟩⟩))
   clear HLA;have nkA:=fun(m:Nat) (o:Obj)=>Ah (bA (below_drewN (tM w.heap.size w) m) o) nk;have cGA:=fun(m:Nat) (o:Obj)=>Ac (HX.o.below (bA (below_drewN (tM w.heap.size w) m) o)).b;go_region_with (go_at_call 177;refine(HLB.o _ (by first|exact bA (below_drewN (tM _ _) _) _|exact bA (tM _ _) _) w.heap.size (tL _) (by first|exact tS (w.drewN _) _|exact tS w _)).mono ?_;rintro _ w2 ⟨g2,c2,rfl,cG2,nk2,cL2,fL2,lG2,lk2,lL2,HW2⟩);all_goals(
    obtain⟨ho,hbb⟩:=HW2.o;obtain⟨hS1,hS2⟩:=(HX.o.below hbb).setL hil (by rw[hLP];exact ho);rw[hLP]at hS1 hS2;have HS1:=Aa hS1;have HS2:=Aa ((AF.of_below hbb).trans hS2);have HCL:=Aa (show(w2.setCell ⟨Lb,i,none⟩ (.slice (some ⟨g2,0,none⟩) LP.length c2)).cell? ⟨Lb,i,none⟩=some (.slice (some ⟨g2,0,none⟩) LP.length c2)from by
     rw[Ac (AI ((hbb.block _ lL).trans HL1.o) i _) i,Array.getElem?_setIfInBounds_self];simp[h2,hil])
    have HOW:=Aa (show(w2.setCell ⟨Lb,i,none⟩ (.slice (some ⟨g2,0,none⟩) LP.length c2)).ownsRow B1 89 1 (.slice (some ⟨g2,0,none⟩) LP.length c2) LP.length (Bw pp LP)from hS2.pts (HX.o.below hbb) ho);clear hS1 hS2 ho hbb;go_wp2_with fail;go_meet;exact⟨HS1.o,HS2.o,_,_,HCL.o,HOW.o⟩)
  case rest=>
  obtain⟨ha,hf,a,c,hca,hoa⟩:=hcut;obtain⟨g2,c2,hv⟩:=Nq hoa hne;obtain⟨rfl⟩:=tY (Value.slice.inj hv).1;have HA:=Aa ha;have HF:=Aa hf;have HO:=Aa hoa;have cGr:=Ac ha.b;have lGr:=Ab ha.b;have hbr:=hf.below HX.o;have hkr:=(hf.blk k lk (DW HK.o HX.o.b (by decide)) (DW HK.o HX.o.m (by decide)) (DW HK.o HL1.o (by decide)) (fun e=>Bv HX.o.o HK.o (by decide) e)).trans HK.o;have nkr:wc.cell? ⟨k,1,none⟩=some (.int .i64 i):=Ac hkr 1;have lkr:=Ab hkr;have lLr:=tR wc _ hca;clear ha hf hoa hbr hkr hv cG lG nk lk cL' lL fL;go_wp2_with fail;go_quiet (fail);go_wp2_with fail;go_ret;have hbb:=below_drewN (tM wc.heap.size wc) nq;exact⟨_,_,rfl,AT HO.o hbb,HA.o.below hbb,HF.o.trans (AF.of_below hbb)⟩
 ·obtain⟨ga,rfl⟩:∃ga,a=⟨ga,0,none⟩:=by
   rcases ho.2 with⟨e1,_⟩|⟨g',_,_,e1,_⟩
   ·cases e1
   ·exact⟨g',tY (Value.slice.inj e1).1⟩
  have cL':w.cell? ⟨Lb,i,none⟩=some (.slice (some ⟨ga,0,none⟩) (Bf parts i).length c):=cL.trans e;have HO:=Aa ho;generalize Bf parts i=LP at*;clear hP hn hpi hb0 hpa wH hkb h h1 h3 cL e ho hPi;go_enter func123,ntmps123;go_wp2_with fail;go_quiet (fail);obtain⟨n1,hn1⟩:∃n1,n1=nq:=⟨_,rfl⟩;rw[<-hn1];clear hn1 nq;go_wp2_with fail;go_quiet (fail);go_wp2_with fail;go_ret;have hbb:=below_drewN (below_drewN (tM w.heap.size w) n1) nq;exact⟨_,_,rfl,AT HO.o hbb,HX.o.below hbb,AF.of_below hbb⟩
end
end Go.Proofs.YtadneapobijejaaGreatDoor
