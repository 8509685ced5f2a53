import Derived.Test.YtadneapobijejaaGreatDoorC47
namespace Go.Proofs.YtadneapobijejaaGreatDoor
set_option maxHeartbeats 20000000
set_option maxRecDepth 100000
open Go.RowKit Tryz
open Go.Lib (strCells)
def GL(c:UInt8):Bool:=decide ((32:Int)<=(c.toNat:Int))&&(decide ((c.toNat:Int)<=126)&&(((c.toNat:Int)!=34)&&((c.toNat:Int)!=92)))
def UL(l:List UInt8):List UInt8:=34::((l.take 100).filter GL++[34])
def LH(t:vD):vD:=⟨(UL t.data.toList).toArray⟩
theorem gK(l:List UInt8)(k:Nat)(c:UInt8)(h:l[k]?=some c):(l.take (k+1)).filter GL=(l.take k).filter GL++(if GL c=true then [c]else []):=by
 rw[uG,h,List.filter_append];congr 1;by_cases e:GL c=true
 ·rw[uC e];simp[e]
 ·rw[uB e];simp[e]
theorem gM(w:World)(t:vD):Calls prog 14 #[.string t] w fun e w'=>e=.returned (.string (LH t))/\vE w w':=by
 obtain⟨i0,hi,hz⟩:=uY.1 infoU8;simp only[Prod.mk.injEq]at hz;obtain⟨hz0,hz1,hz2⟩:=hz;have h0:=uA w w.heap.size 5 1;have hO:=h0.alloc (.cells #[.int .u8 34] 5);obtain⟨n,hn⟩:∃n,n=min t.size 100:=⟨_,rfl⟩;have HQ:=Aa (show LH t=⟨(34::(t.data.toList.take n).filter GL++[34]).toArray⟩from by
  unfold LH UL;rw[hn];have e:t.data.toList.take 100=t.data.toList.take (min t.size 100):=by
   rcases Nat.le_total t.size 100 with q|q
   ·rw[Nat.min_eq_left q,tW (by simpa using q),tW (by simp)]
   ·rw[Nat.min_eq_right q]
  rw[e];rfl)
 generalize LH t=RES at*;clear h0;go_enter func14,ntmps14;go_upto_region 3 with(at_builtin;refine wpList_append_own _ rfl _ _ 84 rfl w.heap.size 5 i0 (.int .u8 0) 1 1 underlying84 hi hz0 hz1 hz2 rfl (by decide) _ _ _ rfl hO ⟨w.heap.size,0,none⟩ 1 1 [.int .u8 34] rfl rfl (cell_one_new _ _ _) (fun u hu=>by simp at hu;subst hu;rfl) (by unfold maxLen;omega) (by omega) (by simp) ?_;intro v' w1 hown1 hgrow1 _);have HO1:=Aa hown1;have HB1:=Aa (show vE w w1 from(bA (tM _ _) (.cells #[.int .u8 34] 5)).grown hgrow1 (by simp) (fun k hk=>(hO.lt k hk).1));obtain⟨a1,c1,rfl⟩:=An hown1;clear hown1 hgrow1 hO;go_wp2_with fail;go_loopg [3,4] n (fun m v3 v4 wr=>∃(k:Nat) (l:List UInt8),v4=.int .i64 k/\k<=n/\n-k<=m/\vE w wr/\wr.ownsRow w.heap.size 5 1 v3 l.length (CJ l)/\l=34::(t.data.toList.take k).filter GL/\l.length<=k+1)
 case atStart=>exact⟨0,[34],rfl,tU _,tL _,HB1.o,HO1.o,rfl,tL _⟩
 case round=>
  obtain⟨k,l,rfl,hkl,hkm,hb,ho,hl,hll⟩:=hrel;have HB:=Aa hb;have HO:=Aa ho;have HL:=Aa hl;have hbz:=hb.size;obtain⟨au,cu,rfl⟩:=An ho;have hk100:k<=100:=by omega
  clear hb hl;by_cases hlt:k<n
  ·have hkt:k<t.size:=by omega
   have hx0:0<=(t[k].toNat:Int):=by omega
   have hx1:(t[k].toNat:Int)<=255:=by have:=t[k].toNat_lt;omega
   have hget:t.data.toList[k]?=some t[k]:=by
    rw[tN (by simpa using hkt)];rfl
   have hc1:decide ((k:Int)<(t.size:Int))=true:=by simp;omega
   have hc2:decide ((k:Int)<100)=true:=by simp;omega
   have HX:=Aa (show 34::(t.data.toList.take (k+1)).filter GL=l++(if GL t[k]=true then [t[k]]else [])from by rw[gK _ _ _ hget,HL.o];rfl);have HCC:=Aa (show GL t[k]=(decide ((32:Int)<=(t[k].toNat:Int))&&(decide ((t[k].toNat:Int)<=126)&&(((t[k].toNat:Int)!=34)&&((t[k].toNat:Int)!=92))))from rfl);have hO1:=ho.alloc (.cells #[.int .u8 (t[k].toNat:Int)] 5);generalize GL t[k]=oc at*;clear hget;have HSK:=Aa (show oc=false->l=34::(t.data.toList.take (k+1)).filter GL from fun e=>by rw[HX.o,e];simp);cases g1:decide ((32:Int)<=(t[k].toNat:Int))
   ·have HE:=Aa (HSK.o (by rw[HCC.o,g1];rfl))
    go_wp2_with fail;go_roundg (n-(k+1))
    case measure=>omega
    case rel=>exact⟨k+1,l,by go_num,by omega,tL _,HB.o,HO.o,HE.o,by omega⟩
   cases g2:decide ((t[k].toNat:Int)<=126)
   ·have HE:=Aa (HSK.o (by rw[HCC.o,g1,g2];rfl))
    go_wp2_with fail;go_roundg (n-(k+1))
    case measure=>omega
    case rel=>exact⟨k+1,l,by go_num,by omega,tL _,HB.o,HO.o,HE.o,by omega⟩
   cases g3:((t[k].toNat:Int)!=34)
   ·have HE:=Aa (HSK.o (by rw[HCC.o,g1,g2,g3];rfl))
    go_wp2_with fail;go_roundg (n-(k+1))
    case measure=>omega
    case rel=>exact⟨k+1,l,by go_num,by omega,tL _,HB.o,HO.o,HE.o,by omega⟩
   cases g4:((t[k].toNat:Int)!=92)
   ·have HE:=Aa (HSK.o (by rw[HCC.o,g1,g2,g3,g4];rfl))
    go_wp2_with fail;go_roundg (n-(k+1))
    case measure=>omega
    case rel=>exact⟨k+1,l,by go_num,by omega,tL _,HB.o,HO.o,HE.o,by omega⟩
   have HE:=Aa (show l++[t[k]]=34::(t.data.toList.take (k+1)).filter GL from by rw[HX.o,HCC.o,g1,g2,g3,g4];rfl);go_wp2_with (at_builtin;refine wpList_append_own _ rfl _ _ 84 rfl w.heap.size 5 i0 (.int .u8 0) 1 1 underlying84 hi hz0 hz1 hz2 rfl (by decide) _ _ _ rfl hO1 ⟨wr.heap.size,0,none⟩ 1 1 [.int .u8 (t[k].toNat:Int)] rfl rfl (cell_one_new _ _ _) (fun u hu=>by simp at hu;subst hu;rfl) (by unfold maxLen;omega) (by omega) (by simp;omega) ?_;intro v' w1 hown1 hgrow1 _);have HO2:=Aa (show w1.ownsRow w.heap.size 5 1 v' (l++[t[k]]).length (CJ (l++[t[k]]))from by rw[Ek,uE];exact hown1);have HB2:=Aa (show vE w w1 from(bA HB.o (.cells #[.int .u8 (t[k].toNat:Int)] 5)).grown hgrow1 (by simp;omega) (fun k hk=>(hO1.lt k hk).1));obtain⟨a2,c2,rfl⟩:=An hown1;clear hown1 hgrow1 hO1;go_roundg (n-(k+1))
   case measure=>omega
   case rel=>exact⟨k+1,l++[t[k]],by go_num,by omega,tL _,HB2.o,HO2.o,HE.o,by simp;omega⟩
  ·have hkn:k=n:=by omega
   subst hkn;have HE:=Aa (show RES=⟨(l++[34]).toArray⟩from by rw[HQ.o,HL.o]);have hO1:=ho.alloc (.cells #[.int .u8 34] 5);clear ho;rcases Nat.lt_or_ge k t.size with q|q
   ·have hc1:decide ((k:Int)<(t.size:Int))=true:=by simp;omega
    have hc2:decide ((k:Int)<100)=false:=by simp;omega
    clear hn;go_upto_region 9 with(at_builtin;refine wpList_append_own _ rfl _ _ 84 rfl w.heap.size 5 i0 (.int .u8 0) 1 1 underlying84 hi hz0 hz1 hz2 rfl (by decide) _ _ _ rfl hO1 ⟨wr.heap.size,0,none⟩ 1 1 [.int .u8 34] rfl rfl (cell_one_new _ _ _) (fun u hu=>by simp at hu;subst hu;rfl) (by unfold maxLen;omega) (by omega) (by simp;omega) ?_;intro v' w1 hown1 hgrow1 _);have hcv:=MM w1 w.heap.size v' (l++[34]) (by rw[Ek,uE];exact hown1);have HB2:=Aa (show vE w w1 from(bA HB.o (.cells #[.int .u8 34] 5)).grown hgrow1 (by simp;omega) (fun k hk=>(hO1.lt k hk).1));clear hown1 hgrow1;go_wp2_with fail;go_ret;rw[HE.o];exact⟨rfl,HB2.o⟩
   ·have hc1:decide ((k:Int)<(t.size:Int))=false:=by simp;omega
    clear hn;go_upto_region 9 with(at_builtin;refine wpList_append_own _ rfl _ _ 84 rfl w.heap.size 5 i0 (.int .u8 0) 1 1 underlying84 hi hz0 hz1 hz2 rfl (by decide) _ _ _ rfl hO1 ⟨wr.heap.size,0,none⟩ 1 1 [.int .u8 34] rfl rfl (cell_one_new _ _ _) (fun u hu=>by simp at hu;subst hu;rfl) (by unfold maxLen;omega) (by omega) (by simp;omega) ?_;intro v' w1 hown1 hgrow1 _);have hcv:=MM w1 w.heap.size v' (l++[34]) (by rw[Ek,uE];exact hown1);have HB2:=Aa (show vE w w1 from(bA HB.o (.cells #[.int .u8 34] 5)).grown hgrow1 (by simp;omega) (fun k hk=>(hO1.lt k hk).1));clear hown1 hgrow1;go_wp2_with fail;go_ret;rw[HE.o];exact⟨rfl,HB2.o⟩
def Pc(name:vD):List Bc:=[(⟨#[81,117,101,114,121]⟩,⟨#[]⟩,[(⟨#[116,101,97,109]⟩,⟨#[91,64,34,97,34,32,64,34,98,34,32,64,34,122,34,93]⟩)]),(⟨#[80,101,114,115,111,110]⟩,⟨#[97]⟩,[(⟨#[110,97,109,101]⟩,⟨#[34,65,110,110,34]⟩),(⟨#[111,112,101,110]⟩,⟨#[116,114,117,101]⟩),(⟨#[112,97,121]⟩,⟨#[55]⟩),(⟨#[102,114,105,101,110,100]⟩,⟨#[64,34,98,34]⟩)]),(⟨#[80,101,114,115,111,110]⟩,⟨#[98]⟩,[(⟨#[110,97,109,101]⟩,LH name),(⟨#[111,112,101,110]⟩,⟨#[102,97,108,115,101]⟩)])]
theorem bY:Pc ⟨#[66,111]⟩=Gm:=by kernel_rfl
theorem sO(w:World)(q:vD):Calls prog 9 #[.string q] w fun e w'=>e=.returned (.agg #[.string ⟨#[117,115,101,114]⟩,.string ⟨#[]⟩,.string q,.string ⟨#[]⟩,.int .i64 5000])/\vE w w':=by
 go_enter func9,ntmps9;go_wp2_with fail;refine bodyPost_ret (v:=.agg #[.string ⟨#[117,115,101,114]⟩,.string ⟨#[]⟩,.string q,.string ⟨#[]⟩,.int .i64 5000]) (by simp[results,results9,go_sem]) rfl ⟨rfl,?_⟩;repeat' with_reducible first|exact tM _ _|refine bA ?_ _|refine bS ?_ _ (tL _) _
theorem Zy(w:World)(q:vD):Calls prog 10 #[.string q] w fun e w'=>e=.returned (.agg #[.string ⟨#[98,111,115,115]⟩,.string ⟨#[]⟩,.string q,.string ⟨#[]⟩,.int .i64 5000])/\vE w w':=by
 go_enter func10,ntmps10;go_wp2_with fail;refine bodyPost_ret (v:=.agg #[.string ⟨#[98,111,115,115]⟩,.string ⟨#[]⟩,.string q,.string ⟨#[]⟩,.int .i64 5000]) (by simp[results,results10,go_sem]) rfl ⟨rfl,?_⟩;repeat' with_reducible first|exact tM _ _|refine bA ?_ _|refine bS ?_ _ (tL _) _
theorem nQ(w:World)(name:vD):Calls prog 8 #[.string name] w fun e w'=>∃a c,e=.returned (.slice a 3 c)/\Fh w' (.slice a 3 c) (Pc name)/\vE w w':=by
 have HQ:=Aa (fun W=>gM W name);have HP:=Aa (Pc.eq_1 name);generalize Pc name=PR at*;generalize LH name=kq at*;go_enter func8,ntmps8;go_wp2_with fail;refine(HQ.o _).mono ?_;rintro _ w1 ⟨rfl,b1⟩;have hW0:=NS w (.cells #[.string ⟨#[116,101,97,109]⟩,.string ⟨#[91,64,34,97,34,32,64,34,98,34,32,64,34,122,34,93]⟩] 53) (.cells #[.string ⟨#[110,97,109,101]⟩,.string ⟨#[34,65,110,110,34]⟩,.string ⟨#[111,112,101,110]⟩,.string ⟨#[116,114,117,101]⟩,.string ⟨#[112,97,121]⟩,.string ⟨#[55]⟩,.string ⟨#[102,114,105,101,110,100]⟩,.string ⟨#[64,34,98,34]⟩] 53);have HB1:=Aa (show vE w w1 from bT (bA (bA (tM _ _) _) _) b1);have k1:=(b1.block _ (Ab hW0.1)).trans hW0.1;have k2:=(b1.block _ (Ab hW0.2)).trans hW0.2;have hW2:=NS w1 (.cells #[.string ⟨#[110,97,109,101]⟩,.string kq,.string ⟨#[111,112,101,110]⟩,.string ⟨#[102,97,108,115,101]⟩] 53) (.cells #[.string ⟨#[81,117,101,114,121]⟩,.string ⟨#[]⟩,.slice (some ⟨w.heap.size,0,none⟩) 1 1,.string ⟨#[80,101,114,115,111,110]⟩,.string ⟨#[97]⟩,.slice (some ⟨w.heap.size+1,0,none⟩) 4 4,.string ⟨#[80,101,114,115,111,110]⟩,.string ⟨#[98]⟩,.slice (some ⟨w1.heap.size,0,none⟩) 2 2] 56);have hb2:=bA (bA (tM w1.heap.size w1) (.cells #[.string ⟨#[110,97,109,101]⟩,.string kq,.string ⟨#[111,112,101,110]⟩,.string ⟨#[102,97,108,115,101]⟩] 53)) (.cells #[.string ⟨#[81,117,101,114,121]⟩,.string ⟨#[]⟩,.slice (some ⟨w.heap.size,0,none⟩) 1 1,.string ⟨#[80,101,114,115,111,110]⟩,.string ⟨#[97]⟩,.slice (some ⟨w.heap.size+1,0,none⟩) 4 4,.string ⟨#[80,101,114,115,111,110]⟩,.string ⟨#[98]⟩,.slice (some ⟨w1.heap.size,0,none⟩) 2 2] 56);have k3:=(hb2.block _ (Ab k1)).trans k1;have k4:=(hb2.block _ (Ab k2)).trans k2;have HK:=Aa (uV hW2 (uV hb2 (uV k3 k4)));clear b1 hW0 k1 k2 hW2 hb2 k3 k4;go_wp2_with fail;go_ret;obtain⟨⟨e3,e4⟩,hb2,e1,e2⟩:=HK.o;rw[HP.o];refine⟨some ⟨w1.heap.size+1,0,none⟩,3,rfl,⟨_,_,rfl,tL _,.inr ⟨_,0,rfl,fun j r hj=>?_⟩⟩,bT HB1.o hb2⟩;have d1:=Ac e1;have d2:=Ac e2;have d3:=Ac e3;have d4:=Ac e4
 match j,hj with
 |0,hj=>
  simp only[List.getElem?_cons_zero,Option.some.injEq]at hj;subst hj;refine⟨d4 0,d4 1,_,d4 2,⟨_,_,rfl,tL _,.inr ⟨_,0,rfl,fun i c hi=>?_⟩⟩⟩
  match i,hi with
  |0,hi=>simp only[List.getElem?_cons_zero,Option.some.injEq]at hi;subst hi;exact⟨d1 0,d1 1⟩
  |n+1,hi=>simp at hi
 |1,hj=>
  simp only[List.getElem?_cons_succ,List.getElem?_cons_zero,Option.some.injEq]at hj;subst hj;refine⟨d4 3,d4 4,_,d4 5,⟨_,_,rfl,tL _,.inr ⟨_,0,rfl,fun i c hi=>?_⟩⟩⟩
  match i,hi with
  |0,hi=>simp only[List.getElem?_cons_zero,Option.some.injEq]at hi;subst hi;exact⟨d2 0,d2 1⟩
  |1,hi=>simp only[List.getElem?_cons_succ,List.getElem?_cons_zero,Option.some.injEq]at hi;subst hi;exact⟨d2 2,d2 3⟩
  |2,hi=>simp only[List.getElem?_cons_succ,List.getElem?_cons_zero,Option.some.injEq]at hi;subst hi;exact⟨d2 4,d2 5⟩
  |3,hi=>simp only[List.getElem?_cons_succ,List.getElem?_cons_zero,Option.some.injEq]at hi;subst hi;exact⟨d2 6,d2 7⟩
  |n+4,hi=>simp at hi
 |2,hj=>
  simp only[List.getElem?_cons_succ,List.getElem?_cons_zero,Option.some.injEq]at hj;subst hj;refine⟨d4 6,d4 7,_,d4 8,⟨_,_,rfl,tL _,.inr ⟨_,0,rfl,fun i c hi=>?_⟩⟩⟩
  match i,hi with
  |0,hi=>simp only[List.getElem?_cons_zero,Option.some.injEq]at hi;subst hi;exact⟨d3 0,d3 1⟩
  |1,hi=>simp only[List.getElem?_cons_succ,List.getElem?_cons_zero,Option.some.injEq]at hi;subst hi;exact⟨d3 2,d3 3⟩
  |n+2,hi=>simp at hi
 |n+3,hj=>simp at hj
structure PW(ys:List Bc):Prop where
 l:ys.length<=1000000
 c:∀y∈ys,y.2.1.size<=2000000/\y.2.2.length<=900000/\∀c∈y.2.2,c.2.size<=2000000
def JO(x:vD)(ys:List Bc)(vG vid qt vt:vD)(b:Int):vD×Bool:=if EN x ys=0 then(FU x ys vG vid qt vt b,true)else(⟨#[]⟩,false)
theorem Tg(x:vD)(w:World)(hs:x.size<=2000000)(aY:Option Addr)(cY:Nat)(ys:List Bc)(hY:Fh w (.slice aY ys.length cY) ys)(hsm:PW ys)(hit:Gz w)(vG vid qt vt:vD)(b:Int)(h1:vG.size<=2000000)(h2:qt.size<=2000000)(h3:vt.size<=2000000):
 Calls prog 7 #[.string x,.slice aY ys.length cY,.agg #[.string vG,.string vid,.string qt,.string vt,.int .i64 b]] w fun e w'=>e=.returned (.tuple #[.string (JO x ys vG vid qt vt b).1,.bool (JO x ys vG vid qt vt b).2])/\vE w w':=by
 have HN:=Aa (fun(X:World) (hX:vE w X)=>VU x X (by unfold maxLen;omega) aY cY ys (hY.below hX) hsm.l hsm.c);have HS:=Aa (fun(X:World) (hX:vE w X) V T (hs:JL X V T) (hk:Ji X T (Aw (Af x)).1 ys) (hz:EN x ys=0)=>XI hs hk hz (fun y hy=>by have:=(hsm.c y hy).2.1;omega) (hit.below hX) vG vid qt vt b h1 h2 h3);have HQ:=Aa (JO.eq_1 x ys vG vid qt vt b);generalize JO x ys vG vid qt vt b=RES at*;generalize FU x ys vG vid qt vt b=sp at*;have hbA:=bA (tM w.heap.size w) (.cells #[.string vG,.string vid,.string qt,.string vt,.int .i64 b] 26);have HNA:=Aa (tS w (.cells #[.string vG,.string vid,.string qt,.string vt,.int .i64 b] 26));have HBA:=Aa hbA;clear hY hsm hit hbA;generalize EN x ys=k at*;by_cases hk:k=0
 ·subst hk
  have HE:=Aa (show RES=(sp,true)from HQ.o);clear HQ;go_enter func7,ntmps7;go_upto_region 1 with fail;generalize w.alloc (.cells #[.string vG,.string vid,.string qt,.string vt,.int .i64 b] 26)=W1 at*;go_wp2_with fail;refine(HN.o W1 HBA.o).mono ?_;rintro _ w2 ⟨q,rfl,b2, -,hT⟩;obtain⟨V,T,rfl,hS,hK⟩:=hT trivial;have HB2:=Aa (bT HBA.o b2);have hn2:=(b2.block _ (Ab HNA.o)).trans HNA.o;have c2:=Ac hn2;have l2:=Ab hn2;have HS2:=Aa (HS.o w2 HB2.o V T hS hK trivial);clear b2 hT hS hK hn2;go_wp2_with fail;refine HS2.o.mono ?_;rintro _ w3 ⟨rfl,b3⟩;have HB3:=Aa (bT HB2.o b3);clear b3;go_wp2_with fail;go_ret2;rw[HE.o];exact⟨rfl,HB3.o⟩
 ·have HE:=Aa (show RES=(⟨#[]⟩,false)from by rw[HQ.o,uB hk])
  have hk2:((k:Int)!=0)=true:=by simp;omega
  have HK:=Aa hk;clear HQ hk;go_enter func7,ntmps7;go_upto_region 1 with fail;generalize w.alloc (.cells #[.string vG,.string vid,.string qt,.string vt,.int .i64 b] 26)=W1 at*;go_wp2_with fail;refine(HN.o W1 HBA.o).mono ?_;rintro _ w2 ⟨q,rfl,b2,hq, -⟩;have e:=hq HK.o;subst e;have HB2:=Aa (bT HBA.o b2);clear b2 hq;go_wp2_with fail;go_ret2;rw[HE.o];exact⟨rfl,HB2.o⟩
theorem TY:PW Gm:=⟨by decide,by decide⟩
theorem bW:JO KG Gm ⟨#[117,115,101,114]⟩ ⟨#[]⟩ ⟨#[123,116,101,97,109,123,110,97,109,101,125,125]⟩ ⟨#[]⟩ 5000=(TW,true):=by unfold JO;rw[uC TZ,bU]
theorem bX:JO KG Gm ⟨#[98,111,115,115]⟩ ⟨#[]⟩ ⟨#[123,109,101,40,105,100,58,34,98,34,41,123,110,97,109,101,125,125]⟩ ⟨#[]⟩ 5000=(TX,true):=by unfold JO;rw[uC TZ,bV]
theorem rT(w:World)(hit:Gz w):Calls prog 4 #[] w fun e w'=>e=.returned (.bool true)/\vE w w':=by
 have HP:=Aa (fun W=>nQ W ⟨#[66,111]⟩);rw[bY]at HP;have HA1:=Aa (fun(X:World) (hX:vE w X) a c (h:Fh X (.slice a 3 c) Gm)=>Tg KG X (by decide) a c Gm h TY (hit.below hX) ⟨#[117,115,101,114]⟩ ⟨#[]⟩ ⟨#[123,116,101,97,109,123,110,97,109,101,125,125]⟩ ⟨#[]⟩ 5000 (by decide) (by decide) (by decide));rw[bW,show Gm.length=3 from rfl]at HA1;have HA2:=Aa (fun(X:World) (hX:vE w X) a c (h:Fh X (.slice a 3 c) Gm)=>Tg KG X (by decide) a c Gm h TY (hit.below hX) ⟨#[98,111,115,115]⟩ ⟨#[]⟩ ⟨#[123,109,101,40,105,100,58,34,98,34,41,123,110,97,109,101,125,125]⟩ ⟨#[]⟩ 5000 (by decide) (by decide) (by decide));rw[bX,show Gm.length=3 from rfl]at HA2;generalize Gm=XR at*;clear hit;go_enter func4,ntmps4;go_wp2_with fail;refine(HP.o w).mono ?_;rintro _ w1 ⟨a1,c1,rfl,hr1,b1⟩;have HR1:=Aa hr1;have HB1:=Aa b1;clear hr1 b1;go_wp2_with fail;refine(sO w1 _).mono ?_;rintro _ w2 ⟨rfl,b2⟩;have HR2:=Aa (HR1.o.below b2);have HB2:=Aa (bT HB1.o b2);clear b2 HR1 HB1;go_wp2_with fail;refine(HA1.o w2 HB2.o a1 c1 HR2.o).mono ?_;rintro _ w3 ⟨rfl,b3⟩;have HB3:=Aa (bT HB2.o b3);clear b3 HR2 HB2;go_wp2_with fail;refine(HP.o w3).mono ?_;rintro _ w4 ⟨a4,c4,rfl,hr4,b4⟩;have HR4:=Aa hr4;have HB4:=Aa (bT HB3.o b4);clear hr4 b4 HB3;go_wp2_with fail;refine(Zy w4 _).mono ?_;rintro _ w5 ⟨rfl,b5⟩;have HR5:=Aa (HR4.o.below b5);have HB5:=Aa (bT HB4.o b5);clear b5 HR4 HB4;go_wp2_with fail;refine(HA2.o w5 HB5.o a4 c4 HR5.o).mono ?_;rintro _ w6 ⟨rfl,b6⟩;have HB6:=Aa (bT HB5.o b6);clear b6 HR5 HB5;go_wp2_with fail
 ·go_ret
  exact⟨Ak (by rw[Lib.toList_data];kernel_rfl),HB6.o⟩
 ·rename_i hne
  exact absurd (by rw[Lib.toList_data];kernel_rfl) hne
theorem YW(E:AJ)(root:MR)(whole:Nat)(s:Aj):(Fj E root whole s).left=(AR E 5001 root [whole] s).2.left:=by unfold Fj;rw[LB.settle]
theorem YY{E:AJ}{root:MR}{whole:Nat}{b d:Int}(hd:0<=d)(hb:b<5001)(h0:0<=(Fj E root whole ⟨b,[],[],[]⟩).left):Sh d (Fj E root whole ⟨b,[],[],[]⟩) (Fj E root whole ⟨b+d,[],[],[]⟩):=by
 rw[YW]at h0;obtain⟨e,h⟩:=Wc E hd 5001 5001 (tL _) root [whole] ⟨b,[],[],[]⟩ ⟨b+d,[],[],[]⟩ ⟨rfl,rfl,rfl,rfl⟩ hb h0;unfold Fj;rw[e];exact(h.settle 0 _ false).2
theorem jW{E:AJ}{root:MR}{whole:Nat}{b b2:Int}(hb:b<5001)(hd:b<=b2)(h:Jx E root whole b≠Ci GV):Jx E root whole b2=Jx E root whole b:=by
 have h0:¬(Fj E root whole ⟨b,[],[],[]⟩).left<0:=fun e=>h (by unfold Jx;rw[uC e]);have hs:=YY (d:=b2-b) (by omega) hb (by omega:0<=(Fj E root whole ⟨b,[],[],[]⟩).left);rw[show b+(b2-b)=b2 by omega]at hs;unfold Jx;rw[uB h0,uB (by have:=hs.1;omega)];unfold Lp;rw[hs.2.1,hs.2.2.1]
def IW:List vD:=[Mf,Pr,Pq,Pp,NH,NG]
theorem rF(x:vD)(ys:List Bc)(vG vid qt vt:vD):(∃t∈IW,∀b,FU x ys vG vid qt vt b=Ci t)\/(FU x ys vG vid qt vt (-1)=Ci GV/\∀b b2,0<=b->b<=b2->b2<=5000->FU x ys vG vid qt vt b≠Ci GV->FU x ys vG vid qt vt b2=FU x ys vG vid qt vt b):=by
 unfold FU My;generalize (Aw (Af x)).1=c;generalize BY c.objs ys=rows;by_cases h1:Eb (BD (Af qt)).2=false\/(FZ (Af vt)).2=false
 ·simp only[uC h1];exact .inl ⟨_,by simp[IW],fun _=>rfl⟩
 simp only[uB h1];by_cases h2:Fq c.roles vG=[]
 ·simp only[uC h2];exact .inl ⟨_,by simp[IW],fun _=>rfl⟩
 simp only[uB h2];by_cases h3:(BD (Af qt)).1.ops.length≠1
 ·simp only[uC h3];exact .inl ⟨_,by simp[IW],fun _=>rfl⟩
 simp only[uB h3];by_cases h4:Kb (BD (Af qt)).1=false
 ·simp only[uC h4];exact .inl ⟨_,by simp[IW],fun _=>rfl⟩
 simp only[uB h4];cases Fl (FZ (Af vt)).1 (Hu (Cm (BD (Af qt)).1)) []with
 |none=>exact .inl ⟨NH,by simp[IW],fun _=>rfl⟩
 |some l=>
  unfold Tf;simp only[];by_cases h5:In ⟨c.objs,c.ifs,c.uns,Fq c.roles vG⟩ (Ds l (Cm (BD (Af qt)).1)).parts (CE (BD (Af qt)).1)=false
  ·simp only[uC h5];exact .inl ⟨_,by simp[IW],fun _=>rfl⟩
  simp only[uB h5];refine .inr ⟨by rw[uC (.inl (by omega))],fun b b2 g0 g1 g2 hne=>?_⟩;rw[uB (by omega)]at hne;rw[uB (by omega),uB (by omega)];exact jW (by omega) g1 hne
def IV:vD:=⟨#[123,34,101,114,114,111,114,115,34,58,91,123,34,109,101,115,115,97,103,101,34,58,34,98,117,100,103,101,116,34,125,93,125]⟩
theorem pZ:Ci GV=IV:=by kernel_rfl
theorem WH(t:vD)(h:t∈IW):((Ci t).extract 0 10).data.toList=(IV.extract 0 10).data.toList/\10<(Ci t).size:=by
 unfold IW at h;simp only[vB,List.not_mem_nil,or_false]at h;rcases h with rfl|rfl|rfl|rfl|rfl|rfl
 ·exact⟨by kernel_rfl,by decide⟩
 ·exact⟨by kernel_rfl,by decide⟩
 ·exact⟨by kernel_rfl,by decide⟩
 ·exact⟨by kernel_rfl,by decide⟩
 ·exact⟨by kernel_rfl,by decide⟩
 ·exact⟨by kernel_rfl,by decide⟩
theorem ZA(x:vD)(w:World)(hs:x.size<=2000000)(aY:Option Addr)(cY:Nat)(ys:List Bc)(hY:Fh w (.slice aY ys.length cY) ys)(hsm:PW ys)(hit:Gz w)(vG vid qt vt:vD)(b more:Int)(h1:vG.size<=2000000)(h2:qt.size<=2000000)(h3:vt.size<=2000000)(hm:Bx more):
 Calls prog 3 #[.string x,.slice aY ys.length cY,.agg #[.string vG,.string vid,.string qt,.string vt,.int .i64 b],.int .i64 more] w fun e w'=>e=.returned (.bool true)/\vE w w':=by
 have HN:=Aa (fun(X:World) (hX:vE w X)=>VU x X (by unfold maxLen;omega) aY cY ys (hY.below hX) hsm.l hsm.c);have HS:=Aa (fun(X:World) (hX:vE w X) V T (hs:JL X V T) (hk:Ji X T (Aw (Af x)).1 ys) (hz:EN x ys=0) (b:Int)=>XI hs hk hz (fun y hy=>by have:=(hsm.c y hy).2.1;omega) (hit.below hX) vG vid qt vt b h1 h2 h3);have HU:=Aa (fun(X:World) (hX:vE w X)=>rT X (hit.below hX));have HC:=Aa (rF x ys vG vid qt vt);rw[pZ]at HC;generalize FU x ys vG vid qt vt=F at*;have hbA:=bA (tM w.heap.size w) (.cells #[.string vG,.string vid,.string qt,.string vt,.int .i64 b] 26);have HNA:=Aa (tS w (.cells #[.string vG,.string vid,.string qt,.string vt,.int .i64 b] 26));have HBA:=Aa hbA;clear hY hsm hit hbA;generalize EN x ys=k at*;go_enter func3,ntmps3;go_upto_region 1 with fail;generalize w.alloc (.cells #[.string vG,.string vid,.string qt,.string vt,.int .i64 b] 26)=W1 at*;go_wp2_with fail;refine(HU.o W1 HBA.o).mono ?_;rintro _ w2 ⟨rfl,b2⟩;have HB2:=Aa (bT HBA.o b2);have HN2:=Aa ((b2.block _ (Ab HNA.o)).trans HNA.o);clear b2 HU;go_wp2_with fail;refine(HN.o w2 HB2.o).mono ?_;rintro _ w3 ⟨q,rfl,b3,hq,hT⟩;have HB3:=Aa (bT HB2.o b3);have HN3:=Aa ((b3.block _ (Ab HN2.o)).trans HN2.o);have c3:=Ac HN3.o;have l3:=Ab HN3.o;clear b3 HN2 HN;by_cases hk:k=0
 rotate_left
 ·have e:=hq hk
  subst e;have hk2:((k:Int)!=0)=true:=by simp;omega
  clear hq hT hk;go_wp2_with fail;go_ret;exact⟨rfl,HB3.o⟩
 subst hk;obtain⟨V,T,rfl,hS,hK⟩:=hT rfl;have HSV:=Aa hS;have HKP:=Aa hK;clear hq hT hS hK;by_cases hb0:b<0
 ·have hbd:decide (b<0)=true:=uH hb0
  go_wp2_with fail;go_ret;exact⟨rfl,HB3.o⟩
 by_cases hb1:5000<b
 ·have hbd:decide (b<0)=false:=tT hb0
  have hbd1:decide ((5000:Int)<b)=true:=uH hb1;go_wp2_with fail;go_ret;exact⟨rfl,HB3.o⟩
 have hbd:decide (b<0)=false:=tT hb0;have hbd1:decide ((5000:Int)<b)=false:=tT hb1;go_wp2_with fail;refine(HS.o w3 HB3.o V T HSV.o HKP.o trivial b).mono ?_;rintro _ w4 ⟨rfl,b4⟩;have HB4:=Aa (bT HB3.o b4);have HN4:=Aa ((b4.block _ (Ab HN3.o)).trans HN3.o);have HS4:=Aa ((b4.block _ (Ab HSV.o)).trans HSV.o);have HK4:=Aa (HKP.o.below b4);have c4:=Ac HN4.o;have l4:=Ab HN4.o;clear b4 HN3 HSV HKP c3 l3;obtain⟨mm,hmm⟩:∃mm:Int,mm=if more<0 then -(more+1)else more:=⟨_,rfl⟩;have hm0:0<=mm/\mm<=9223372036854775807:=by
  unfold Bx at hm;rw[hmm];split<;>omega
 go_upto_if 51 with fail
 go_cut [3] (fun v3 wc=>v3=.int .i64 mm/\wc=w4)
 case first=>
  by_cases hneg:more<0
  ·have hd:decide (more<0)=true:=uH hneg
   have hmv:mm= -(more+1):=by rw[hmm,uC hneg]
   clear hmm;unfold Bx at hm;go_wp2_with fail;go_meet;exact⟨by rw[hmv],rfl⟩
  ·have hd:decide (more<0)=false:=tT hneg
   have hmv:mm=more:=by rw[hmm,uB hneg]
   clear hmm;go_wp2_with fail;go_meet;exact⟨by rw[hmv],rfl⟩
 case rest=>
  obtain⟨rfl,hw4⟩:=hcut;subst hw4;clear hmm;go_upto_region 11 with fail;have hbX:=bA (tM wc.heap.size wc) (.cells #[.string vG,.string vid,.string qt,.string vt,.int .i64 b] 26);have HX5:=Aa (tS wc (.cells #[.string vG,.string vid,.string qt,.string vt,.int .i64 b] 26));have HN5:=Aa ((hbX.block _ (Ab HN4.o)).trans HN4.o);have HBX:=Aa hbX;have hne5:¬w.heap.size=wc.heap.size:=by have:=Ab HN4.o;omega
  clear hbX c4 l4;generalize wc.alloc (.cells #[.string vG,.string vid,.string qt,.string vt,.int .i64 b] 26)=W5 at*;have c5:=Ac HN5.o;have l5:=Ab HN5.o;have d5:=Ac HX5.o;have e5:=Am HX5.o;have m5:=Ab HX5.o;have hw1:IntKind.i64.wrap (5000-b)=5000-b:=wrap_small _ (by omega) (by omega);have hw2:IntKind.i64.wrap (5000-b+1)=5000-b+1:=wrap_small _ (by omega) (by omega);go_region;all_goals(
   have hmod0:0<=mm%(5000-b+1):=Int.emod_nonneg _ (by omega);have hmod1:mm%(5000-b+1)<5000-b+1:=Int.emod_lt_of_pos _ (by omega);have hb2:b<=wrap64 (b+mm%(5000-b+1))/\wrap64 (b+mm%(5000-b+1))<=5000:=by
    rw[show wrap64 (b+mm%(5000-b+1))=b+mm%(5000-b+1)from by unfold wrap64;omega];omega
   generalize wrap64 (b+mm%(5000-b+1))=b2 at*;have hk6:(W5.setCell ⟨wc.heap.size,4,none⟩ (.int .i64 b2)).drew.heap[wc.heap.size]?=some (.cells #[.string vG,.string vid,.string qt,.string vt,.int .i64 b2] 26 (0,0)):=AI HX5.o 4 (.int .i64 b2);have hb6:vE wc (W5.setCell ⟨wc.heap.size,4,none⟩ (.int .i64 b2)).drew:=(bS HBX.o _ (tL _) _).drew;clear hw1 hw2 hmod0 hmod1 c5 l5 d5 e5 m5 HX5 HN5 HBX;generalize (W5.setCell ⟨wc.heap.size,4,none⟩ (.int .i64 b2)).drew=W6 at*;have HB6:=Aa (bT HB4.o hb6);have HN6:=Aa ((hb6.block _ (Ab HN4.o)).trans HN4.o);have HS6:=Aa (show JL W6 V T from(hb6.block _ (Ab HS4.o)).trans HS4.o);have HK6:=Aa (HK4.o.below hb6);have c6:=Ac hk6;have l6:=Ab hk6;clear hb6 hk6 HN4 HS4 HK4;go_wp2_with fail;refine(HS.o W6 HB6.o V T HS6.o HK6.o trivial b2).mono ?_;rintro _ w7 ⟨rfl,b7⟩;have HB7:=Aa (bT HB6.o b7);have HN7:=Aa ((b7.block _ (Ab HN6.o)).trans HN6.o);have HS7:=Aa (show JL w7 V T from(b7.block _ (Ab HS6.o)).trans HS6.o);have HK7:=Aa (HK6.o.below b7);have c7:=Ac HN7.o;have l7:=Ab HN7.o;clear b7 HN6 HS6 HK6 c6 l6;go_upto_region 15 with fail;have hb8:=bA (tM w7.heap.size w7) (.cells #[.string vG,.string vid,.string qt,.string vt,.int .i64 (-1)] 26);have hk8:=tS w7 (.cells #[.string vG,.string vid,.string qt,.string vt,.int .i64 (-1)] 26);generalize w7.alloc (.cells #[.string vG,.string vid,.string qt,.string vt,.int .i64 (-1)] 26)=W8 at*;have HB8:=Aa (bT HB7.o hb8);have HS8:=Aa (show JL W8 V T from(hb8.block _ (Ab HS7.o)).trans HS7.o);have HK8:=Aa (HK7.o.below hb8);have c8:=Ac hk8;have l8:=Ab hk8;clear hb8 hk8 HN7 HS7 HK7 c7 l7;go_wp2_with fail;refine(HS.o W8 HB8.o V T HS8.o HK8.o trivial (-1)).mono ?_;rintro _ w9 ⟨rfl,b9⟩;have HB9:=Aa (bT HB8.o b9);clear b9 HS8 HK8 c8 l8 HS;have HF:=Aa (show F b≠IV->F b2=F b/\(F (-1)=IV\/∃t∈IW,F b=Ci t/\F (-1)=Ci t)from fun hne=>by
    rcases HC.o with⟨t,ht,h⟩|⟨h1,h2⟩
    ·exact⟨by rw[h b,h b2],.inr ⟨t,ht,h b,h (-1)⟩⟩
    ·exact⟨h2 b b2 (by omega) hb2.1 hb2.2 hne,.inl h1⟩)
   have HF2:=Aa (show F b=IV->F (-1)=IV from fun he=>by
    rcases HC.o with⟨t,ht,h⟩|⟨h1,h2⟩
    ·rw[h (-1),<-h b];exact he
    ·exact h1)
   clear HC;generalize F b=one at*;generalize F b2=two at*;generalize F (-1)=three at*;have hR:∀y:vD,(y.toList==[123,34,101,114,114,111,114,115,34,58,91,123,34,109,101,115,115,97,103,101,34,58,34,98,117,100,103,101,116,34,125,93,125])=decide (y=IV):=fun y=>BN y _;by_cases h1:one=IV
   ·have e3:=HF2.o h1
    have g1:(one.toList==[123,34,101,114,114,111,114,115,34,58,91,123,34,109,101,115,115,97,103,101,34,58,34,98,117,100,103,101,116,34,125,93,125])=true:=by rw[hR,h1];rfl
    have g3:(three.toList==[123,34,101,114,114,111,114,115,34,58,91,123,34,109,101,115,115,97,103,101,34,58,34,98,117,100,103,101,116,34,125,93,125])=true:=by rw[hR,e3];rfl
    clear h1 e3 hR HF HF2;go_wp2_with fail;go_ret;exact⟨rfl,HB9.o⟩
   ·obtain⟨e2,h3⟩:=HF.o h1
    have g1:(one.toList==[123,34,101,114,114,111,114,115,34,58,91,123,34,109,101,115,115,97,103,101,34,58,34,98,117,100,103,101,116,34,125,93,125])=false:=by rw[hR];exact tT h1
    have g2:(one.toList==two.toList)=true:=by rw[e2];simp
    rcases h3 with e3|⟨t,ht,e4,e5⟩
    ·have g3:(three.toList==[123,34,101,114,114,111,114,115,34,58,91,123,34,109,101,115,115,97,103,101,34,58,34,98,117,100,103,101,116,34,125,93,125])=true:=by rw[hR,e3];rfl
     clear h1 e2 HF HF2 hR e3;by_cases hl:10<one.size
     ·have hl1:decide ((10:Int)<(one.size:Int))=true:=by simp;omega
      go_wp2_with fail;go_quiet (fail);go_wp2_with fail;go_ret;exact⟨rfl,below_drewN HB9.o _⟩
     ·have hl1:decide ((10:Int)<(one.size:Int))=false:=by simp;omega
      go_wp2_with fail;go_quiet (fail);go_wp2_with fail;go_ret;exact⟨rfl,below_drewN HB9.o _⟩
    ·have g3:(three.toList==[123,34,101,114,114,111,114,115,34,58,91,123,34,109,101,115,115,97,103,101,34,58,34,98,117,100,103,101,116,34,125,93,125])=false:=by rw[hR,e5,<-e4];exact tT h1
     have g4:(three.toList==one.toList)=true:=by rw[e5,<-e4];simp
     have hl:10<one.size:=by rw[e4];exact(WH t ht).2
     have hl1:decide ((10:Int)<(one.size:Int))=true:=by simp;omega
     have gp:((one.extract 0 10).toList==(IV.extract 0 10).toList)=true:=by
      rw[e4,Lib.toList_data,Lib.toList_data,(WH t ht).1];simp
     unfold IV at gp;clear h1 e2 HF HF2 hR e4 e5 ht;go_wp2_with fail;go_quiet (fail);go_wp2_with fail;go_ret;exact⟨rfl,below_drewN HB9.o _⟩)
end Go.Proofs.YtadneapobijejaaGreatDoor
