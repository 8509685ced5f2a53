import Derived.Test.YtadneapobijejaaGreatDoorC23
namespace Go.Proofs.YtadneapobijejaaGreatDoor
set_option maxHeartbeats 20000000
set_option maxRecDepth 100000
open Go.RowKit Tryz

structure Mx(w:World)(S:Nat)(c:Be):Prop where
 ex:∃vR vO vI vU vN LR LO LI LU,SV w S vR vO vI vU vN LR LO LI LU c.names/\LR.map Prod.fst=c.roles/\LO.map Prod.fst=c.objs/\LI.map Prod.fst=c.ifs/\LU.map Prod.fst=c.uns
theorem Mx.below{w w':World}{S:Nat}{c:Be}(h:Mx w S c)(hb:vE w w'):Mx w' S c:=by
 obtain⟨vR,vO,vI,vU,vN,LR,LO,LI,LU,h1,h2⟩:=h.ex;exact⟨vR,vO,vI,vU,vN,LR,LO,LI,LU,h1.below hb,h2⟩
theorem ES.v{w:World}{S:Nat}{c:Be}(h:ES w S c)(hl:JZ c 804):Mx w S c:=by
 obtain⟨vR,vO,vI,vU,vN,LR,LO,LI,LU,hS,hR,hO,hI,hU,hN,mR,mO,mI,mU⟩:=h.ex;obtain⟨l1,l2,l3,l4,l5⟩:=hl;rw[<-mR]at l1;rw[<-mO]at l2;rw[<-mI]at l3;rw[<-mU]at l4;exact⟨vR,vO,vI,vU,vN,LR,LO,LI,LU,⟨hS,hR,hO,hI,hU,hN,by simpa using l1,by simpa using l2,by simpa using l3,by simpa using l4,l5⟩,mR,mO,mI,mU⟩
theorem pW(x:vD)(w:World)(hs:x.size<=maxLen):
 Calls prog 15 #[.string x] w fun e w'=>∃q,e=.returned (.tuple #[.pointer q,.int .i64 (EV x)])/\vE w w'/\(EV x=0->∃S,q=some ⟨S,0,none⟩/\Mx w' S (Aw (Af x)).1):=by
 have hc:=nI x w hs;have hz:GU (Aw (Af x)).1:=NC _ (Mo x);have HQ:=Aa (show EV x=if Eb (Aw (Af x)).2=true then(if GQ (Aw (Af x)).1=true then 0 else 2)else 1 from rfl);generalize EV x=FF at*;generalize Aw (Af x)=cs at*;have HZ:=Aa hz;clear hz;cases hd:Eb cs.2
 ·rw[hd]at hc HQ
  go_enter func15,ntmps15;go_wp2_with fail;refine hc.mono ?_;clear hc;rintro e w1 ⟨S,rfl,hS,hl,hB1⟩;go_wp2_with fail;go_ret2;exact⟨_,by rw[HQ.o];rfl,hB1,fun h=>by rw[HQ.o]at h;cases h⟩
 ·rw[hd]at hc HQ
  cases hr:GQ cs.1
  ·rw[hr]at HQ
   go_enter func15,ntmps15;go_wp2_with fail;refine hc.mono ?_;clear hc;rintro e w1 ⟨S,rfl,hS,hl,hB1⟩;have hc2:=Xm w1 S cs.1 hS hl HZ.o;rw[hr]at hc2;clear hS hl hr;go_wp2_with fail;refine hc2.mono ?_;clear hc2;rintro e w2 ⟨rfl,hb2⟩;go_wp2_with fail;go_ret2;exact⟨_,by rw[HQ.o];rfl,hB1.trans (hb2.mono hB1.size),fun h=>by rw[HQ.o]at h;cases h⟩
  ·rw[hr]at HQ
   go_enter func15,ntmps15;go_wp2_with fail;refine hc.mono ?_;clear hc;rintro e w1 ⟨S,rfl,hS,hl,hB1⟩;have hc2:=Xm w1 S cs.1 hS hl HZ.o;rw[hr]at hc2;have HV:=Aa (hS.v hl);clear hS hl hr;go_wp2_with fail;refine hc2.mono ?_;clear hc2;rintro e w2 ⟨rfl,hb2⟩;go_wp2_with fail;go_ret2;exact⟨_,by rw[HQ.o];rfl,hB1.trans (hb2.mono hB1.size),fun _=>⟨S,rfl,HV.o.below hb2⟩⟩
structure IG(w:World)(v:Nat)(id:vD)(roles:List vD):Prop where
 b:∃a c B,w.heap[v]?=some (.cells #[.string id,.slice a roles.length c] 110 (0,0))/\w.ownsRow B 9 1 (.slice a roles.length c) roles.length (Bi roles)
 l:roles.length<=1000000
theorem IG.at{w:World}{v:Nat}{id:vD}{roles:List vD}(h:IG w v id roles):DM w v id roles:=by
 obtain⟨⟨a,c,B,h1,h2⟩,h3⟩:=h;exact⟨⟨a,c,h1,DK.of_own h2⟩,h3⟩
section
variable {w:World} {S:Nat} {vR vO vI vU vN:Value} {LR:List (At×Value)} {LO:List AV} {LI:List (As×Value)} {LU:List (Au×Value)} {names:List vD}
theorem sQ(h:SV w S vR vO vI vU vN LR LO LI LU names)(hnd:(LR.map rN).Nodup)(xC:∀x∈LR,∀y∈x.1.inc,y∈LR.map rN/\y.size<=4000)(hsz:∀y∈LR.map rN,y.size<=4000)(vG vid:vD)(hr:vG.size<=2000000):
 Calls prog 20 #[.pointer (some ⟨S,0,none⟩),.agg #[.string vG,.string vid]] w fun e w'=>∃q,e=.returned (.tuple #[.pointer q,.int .i64 (if Fq (LR.map Prod.fst) vG=[]then 4 else 0)])/\vE w w'/\(Fq (LR.map Prod.fst) vG≠[]->∃V,q=some ⟨V,0,none⟩/\IG w' V vid (Fq (LR.map Prod.fst) vG)):=by
 have HH:=Aa (fun X (hX:vE w X)=>dW (h.below hX) hnd xC hsz vG hr);generalize Fq (LR.map Prod.fst) vG=rs at*;clear h hnd xC hsz;by_cases hne:rs=[]
 ·subst hne
  rw[uC rfl];go_enter func20,ntmps20;go_wp2_with fail;refine(HH.o _ (bA (tM _ _) _)).mono ?_;rintro _ w1 ⟨v,rfl,⟨B,hv⟩, -,b1⟩;obtain⟨a,cap,rfl⟩:=An hv;go_wp2_with fail;go_ret2;exact⟨_,rfl,bT (bA (tM _ _) _) b1,fun h=>absurd rfl h⟩
 ·rw[uB hne]
  have hpos:¬(rs.length:Int)=0:=fun e=>hne (tZ (by omega));have HNE:=Aa hne;clear hne;go_enter func20,ntmps20;go_wp2_with fail;refine(HH.o _ (bA (tM _ _) _)).mono ?_;rintro _ w1 ⟨v,rfl,⟨B,hv⟩,hvl,b1⟩;have HV:=Aa hv;have hN:=KC b1 (tS w (.cells #[.string vG,.string vid] 24));have HB1:=Aa (bT (bA (tM _ _) _) b1);have cN:=Ac hN;have hlN:=Ab hN;obtain⟨a,cap,rfl⟩:=An hv;clear hv;clear hN b1;go_wp2_with fail;go_ret2;exact⟨_,rfl,bA HB1.o _,fun _=>⟨w1.heap.size,rfl,⟨⟨a,cap,B,tS w1 _,AT HV.o (bA (tM _ _) _)⟩,by omega⟩⟩⟩
end
end Go.Proofs.YtadneapobijejaaGreatDoor
