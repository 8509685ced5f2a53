import Derived.Test.YtadneapobijejaaGreatDoorC31
import Derived.Test.YtadneapobijejaaGreatDoorC32
namespace Go.Proofs.YtadneapobijejaaGreatDoor
set_option maxHeartbeats 20000000
set_option maxRecDepth 100000
open Go.RowKit Tryz
theorem WL(pp:List Nat):∀l:List Nat,l.flatMap (fun j=>[AM pp (some j)])=Bw pp l
 |[]=>rfl
 |a::l=>by rw[List.flatMap_cons,WL pp l];rfl
theorem RM{w:World}{B e g c:Nat}{pp l:List Nat}(h:w.ownsRow B e 1 (.slice (some ⟨g,0,none⟩) l.length c) l.length (Bw pp l)){j x k:Nat}(hj:l[j]?=some x)(hk:pp[x]?=some k):w.cell? ⟨g,j,none⟩=some (.pointer (some ⟨k,0,none⟩)):=by
 rw[<-WL]at h;obtain⟨g',cap,hv,hc⟩:=Cn h (fun _=>rfl) j x hj;have e:=Addr.mk.inj (tY (Value.slice.inj hv).1);have:=hc 0 _ rfl;rw[<-e.1]at this;simpa [AM,hk]using this
section
variable {w w0:World} {B0 B1 G Mb Lb:Nat} {pp:List Nat} {parts:List Ai} {g:AY} {vo:Value}
theorem UF(hP:Bh w0 B0 pp 0 parts)(hn:pp.length=parts.length)(hpi:BM parts)(hn2:pp.length<=2000)(hB1:w0.heap.size<=B1)(hb0:vE w0 w)(hBw:B1<=w.heap.size)(h:AG w B1 G Mb Lb pp parts g vo){c:Nat}(hg:BB parts.length c g)(hc:c<=5000000){i j ki kj:Nat}(hi:pp[i]?=some ki)(hj:pp[j]?=some kj):
 Calls prog 79 #[.pointer (some ⟨G,0,none⟩),.pointer (some ⟨ki,0,none⟩),.pointer (some ⟨kj,0,none⟩)] w fun e w'=>e=.returned (.tuple #[])/\∃vo',AG w' B1 G Mb Lb pp parts (GF parts i j g) vo'/\AF G Mb Lb w vo w' vo':=by
 have hil:i<parts.length:=by have:=Fu hi;omega
 have hjl:j<parts.length:=by have:=Fu hj;omega
 have hlaI:=LJ hpi hil;have hlaJ:=LJ hpi hjl;have HLA:=Aa (fun(W:World) (hW:vE w0 W) (hBW:B1<=W.heap.size) (g':AY) (v':Value) (hA:AG W B1 G Mb Lb pp parts g' v') (a ka:Nat) (ha:pp[a]?=some ka)=>gW hP hn hpi hn2 hW hBW hA ha);have HME:=Aa (fun(W:World) (hW:vE w0 W) (hBW:B1<=W.heap.size) (g':AY) (v':Value) (hA:AG W B1 G Mb Lb pp parts g' v') (hg':BB parts.length c g') (a b ka kb:Nat) (ha:pp[a]?=some ka) (hb:pp[b]?=some kb)=>dT hA hBW (hP.typ' (AA.below hW)) hn hn2 hg' hc ha hb);have HQ:=Aa (show GF parts i j g=Jw pp.length (Bf parts j) (Bf parts i) g from by unfold GF;rw[hn]);generalize GF parts i j g=FF at*;have HI:=Aa hi;have HJ:=Aa hj;have HMI:=Aa (fun x (hx:x∈Bf parts i)=>(show∃kx,pp[x]?=some kx from⟨_,tN (by have:=hlaI.2 x hx;omega)⟩));have HMJ:=Aa (fun x (hx:x∈Bf parts j)=>(show∃kx,pp[x]?=some kx from⟨_,tN (by have:=hlaJ.2 x hx;omega)⟩));have HLI:=Aa hlaI.2;have HLJ:=Aa hlaJ.2;have hli1:(Bf parts i).length<=2000:=by have:=hlaI.1;omega
 have hlj1:(Bf parts j).length<=2000:=by have:=hlaJ.1;omega
 have HN:=Aa hn;have H0:=Aa h;have HG0:=Aa hg;have HB0:=Aa hb0;have hnel:=Rb hpi hil;have hnej:=Rb hpi hjl;have HLI':=Aa (HLA.o w hb0 hBw g vo h i ki hi);have HLJ':=Aa (fun(W:World) hW hBW g' v' hA=>HLA.o W hW hBW g' v' hA j kj hj);generalize Bf parts i=la at*;generalize Bf parts j=lb at*;clear HLA hP hn hpi hb0 h hg hi hj hlaI hlaJ hil hjl;go_enter func79,ntmps79;go_wp2_with fail;refine HLI'.o.mono ?_;rintro _ w1 ⟨aa,ca,rfl,ho1,ha1,hf1⟩;obtain⟨ga,rfl⟩:∃ga,aa=⟨ga,0,none⟩:=by
  obtain⟨g',c',e⟩:=Nq ho1 hnel;exact⟨g',tY (Value.slice.inj e).1⟩
 have HO1:=Aa ho1;have HA1:=Aa ha1;have HF1:=Aa hf1;clear ho1 ha1 hf1;go_wp2_with fail;go_loopg [7,9,14,22] la.length (fun m v7 v9 v14 v22 wr=>∃(t:Nat) (g':AY) (vo':Value),v14=.int .i64 t/\t<=la.length/\la.length-t<=m/\AG wr B1 G Mb Lb pp parts g' vo'/\AF G Mb Lb w vo wr vo'/\BB parts.length c g'/\wr.ownsRow B1 89 1 (.slice (some ⟨ga,0,none⟩) la.length ca) la.length (Bw pp la)/\FF=Jw pp.length lb (la.drop t) g')
 case atStart=>exact⟨0,g,vo,rfl,tU _,tL _,HA1.o,HF1.o,HG0.o,HO1.o,HQ.o⟩
 case round=>
  obtain⟨t,g',vo',rfl,htl,htm,hA,hF,hM,hO,hrel⟩:=hrel;have HM:=Aa hrel;have HA:=Aa hA;have HF:=Aa hF;have HG:=Aa hM;have HO:=Aa hO;have hbr:vE w0 wr:=HB0.o.trans ((hF.below H0.o).mono hB1);have HBR:=Aa hbr;have hBr:B1<=wr.heap.size:=tQ hBw hF.size;by_cases hlt:t<la.length
  ·have hx:=tN hlt
   have hdr:la.drop t=la[t]::la.drop (t+1):=uT hlt;have hmem:la[t]∈la:=List.getElem_mem hlt;generalize la[t]=x at hx hdr hmem;obtain⟨kx,hkx⟩:=HMI.o x hmem;have cx:=RM hO hx hkx;have lx:=tR wr _ cx;rw[hdr]at HM;have HE:=Aa (show FF=Jw pp.length lb (la.drop (t+1)) (IL pp.length x lb g')from by rw[HM.o,Jw]);have HXL:=Aa (HLI.o x hmem);have HKX:=Aa hkx;have HLB:=Aa (HLJ'.o wr hbr hBr g' vo' hA);clear hA hF hM hO hbr hx hdr hmem hkx HM hrel;go_wp2_with fail;refine HLB.o.mono ?_;rintro _ w2 ⟨ab,cb,rfl,ho2,ha2,hf2⟩;obtain⟨gb,rfl⟩:∃gb,ab=⟨gb,0,none⟩:=by
    obtain⟨g',c',e⟩:=Nq ho2 hnej;exact⟨g',tY (Value.slice.inj e).1⟩
   have HO2:=Aa ho2;have HA2:=Aa ha2;have HF2:=Aa hf2;have HOA2:=Aa (hf2.pts HA.o HO.o);obtain⟨wo,hwo⟩:∃wo:World,wo=wr:=⟨_,rfl⟩;rw[<-hwo]at HF2 HF HA HO HBR;clear ho2 ha2 hf2 cx lx;go_wp2_with fail;obtain⟨RES,vH⟩:∃RES,Hi (RES=IL pp.length x lb g'):=⟨_,Aa rfl⟩;rw[<-vH.o]at HE;go_loopg [9,22] lb.length (fun m v9 v22 wr=>∃(t2:Nat) (g2:AY) (vo2:Value),v22=.int .i64 t2/\t2<=lb.length/\lb.length-t2<=m/\AG wr B1 G Mb Lb pp parts g2 vo2/\AF G Mb Lb w vo wr vo2/\BB parts.length c g2/\wr.ownsRow B1 89 1 (.slice (some ⟨gb,0,none⟩) lb.length cb) lb.length (Bw pp lb)/\wr.ownsRow B1 89 1 (.slice (some ⟨ga,0,none⟩) la.length ca) la.length (Bw pp la)/\RES=IL pp.length x (lb.drop t2) g2)
   case atStart=>exact⟨0,g',vo',rfl,tU _,tL _,HA2.o,HF.o.trans HF2.o,HG.o,HO2.o,HOA2.o,vH.o⟩
   case round=>
    obtain⟨t2,g2,vo2,rfl,ht2l,ht2m,hA3,hF3,hM3,hO3,hOA3,wQ⟩:=hrel;have HM3:=Aa wQ;have HA3:=Aa hA3;have HF3:=Aa hF3;have HG3:=Aa hM3;have HO3:=Aa hO3;have HOA3:=Aa hOA3;have xE:vE w0 wr:=HB0.o.trans ((hF3.below H0.o).mono hB1);have hBr3:B1<=wr.heap.size:=tQ hBw hF3.size;by_cases hlt2:t2<lb.length
    ·have hy:=tN hlt2
     have yL:lb.drop t2=lb[t2]::lb.drop (t2+1):=uT hlt2;have wN:lb[t2]∈lb:=List.getElem_mem hlt2;generalize lb[t2]=y at hy yL wN;obtain⟨ky,hky⟩:=HMJ.o y wN;have cy:=RM hO3 hy hky;have ly:=tR wr _ cy;rw[yL]at HM3;have HE3:=Aa (show RES=IL pp.length x (lb.drop (t2+1)) (Hr pp.length x y g2)from by rw[HM3.o,IL]);have HMC:=Aa (HME.o wr xE hBr3 g2 vo2 hA3 hM3 x y kx ky HKX.o hky);have HG4:=Aa (show BB parts.length c (Hr pp.length x y g2)from by rw[HN.o];exact Ro hM3 HXL.o (HLJ.o y wN));generalize Hr pp.length x y g2=g4 at*;clear hA3 hF3 hM3 hO3 hOA3 xE hy yL wN hky HM3 wQ;go_wp2_with fail;refine HMC.o.mono ?_;rintro _ w5 ⟨rfl,vo5,ha5,hf5⟩;have HA5:=Aa ha5;have HF5:=Aa (HF3.o.trans hf5);have HO5:=Aa (hf5.pts HA3.o HO3.o);have HOA5:=Aa (hf5.pts HA3.o HOA3.o);clear ha5 hf5 cy ly;go_wp2_with fail;go_roundg (lb.length-(t2+1))
     case measure=>omega
     case rel=>exact⟨t2+1,g4,vo5,by go_num,by omega,tL _,HA5.o,HF5.o,HG4.o,HO5.o,HOA5.o,HE3.o⟩
    ·have ht2:t2=lb.length:=by omega
     subst ht2;have HE3:=Aa (show RES=g2 from by rw[HM3.o,List.drop_length];rfl);rw[HE3.o]at HE;clear hA3 hF3 hM3 hO3 hOA3 xE wQ HM3;go_wp2_with fail;go_roundg (la.length-(t+1))
     case measure=>omega
     case rel=>exact⟨t+1,g2,vo2,by go_num,by omega,tL _,HA3.o,HF3.o,HG3.o,HOA3.o,HE.o⟩
  ·have ht:t=la.length:=by omega
   subst ht;have HE:=Aa (show FF=g' from by rw[HM.o,List.drop_length];rfl);clear hA hF hM hO hrel HM hbr;go_wp2_with fail;go_end0;rw[HE.o];exact⟨rfl,_,HA.o,HF.o⟩
end
end Go.Proofs.YtadneapobijejaaGreatDoor
