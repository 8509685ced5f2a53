import Derived.Test.YtogdodlibkckkaaGreatDoorZ47
namespace Go.Proofs.YtogdodlibkckkaaGreatDoor
set_option maxHeartbeats 20000000
set_option maxRecDepth 100000
open Go.RowKit Tryz
open Go.Lib (strCells)
def GY(c:UInt8):Bool:=decide ((32:Int)<=(c.toNat:Int))&&(decide ((c.toNat:Int)<=126)&&(((c.toNat:Int)!=34)&&((c.toNat:Int)!=92)))
def VN(l:List UInt8):List UInt8:=34::((l.take 100).filter GY++[34])
def Mh(t:yF):yF:=⟨(VN t.data.toList).toArray⟩
theorem kJ(l:List UInt8)(k:Nat)(c:UInt8)(a:l[k]?=some c):(l.take (k+1)).filter GY=(l.take k).filter GY++(if GY c=true then [c]else []):=by
 rw[xL,a,List.filter_append];congr 1;by_cases e:GY c=true
 ·rw[xH e];simp[e]
 ·rw[xG e];simp[e]
theorem kK(w:World)(t:yF):Calls prog 12 #[.string t] w fun e w'=>e=.returned (.string (Mh t))/\yG w w':=by
 obtain⟨C,y,N⟩:=yC.1 infoU8;simp only[Prod.mk.injEq]at N;obtain⟨z,A,B⟩:=N;have J:=xF w w.heap.size 5 1;have E:=J.alloc (.cells #[.int .u8 34] 5);obtain⟨n,F⟩:∃n,n=min t.size 100:=⟨_,rfl⟩;have R:=Aa (show Mh t=⟨(34::(t.data.toList.take n).filter GY++[34]).toArray⟩from by
  unfold Mh VN;rw[F];have e:t.data.toList.take 100=t.data.toList.take (min t.size 100):=by
   rcases Nat.le_total t.size 100 with q|q
   ·rw[Nat.min_eq_left q,xB (by simpa using q),xB (by simp)]
   ·rw[Nat.min_eq_right q]
  rw[e];rfl)
 generalize Mh t=S at*;clear J;go_enter func12,ntmps12;go_upto_region 3 with(at_builtin;refine wpList_append_own _ rfl _ _ 69 rfl w.heap.size 5 C (.int .u8 0) 1 1 underlying69 y z A B rfl (by decide) _ _ _ rfl E ⟨w.heap.size,0,none⟩ 1 1 [.int .u8 34] rfl rfl (cell_one_new _ _ _) (fun u d=>by simp at d;subst d;rfl) (by unfold maxLen;omega) (by omega) (by simp) ?_;intro v' w1 a c _);have P:=Aa a;have O:=Aa (show yG w w1 from(bA (wR _ _) (.cells #[.int .u8 34] 5)).grown c (by simp) (fun k h=>(E.lt k h).1));obtain⟨Y,c1,rfl⟩:=An a;clear a c E;go_wp2;go_loopg [3,4] n (fun m v3 v4 wr=>∃(k:Nat) (l:List UInt8),v4=.int .i64 k/\k<=n/\n-k<=m/\yG w wr/\wr.ownsRow w.heap.size 5 1 v3 l.length (CR l)/\l=34::(t.data.toList.take k).filter GY/\l.length<=k+1)
 case atStart=>exact⟨0,[34],rfl,wZ _,wQ _,O.o,P.o,rfl,wQ _⟩
 case round=>
  obtain⟨k,l,rfl,af,ag,hb,r,M,ah⟩:=hrel;have g:=Aa hb;have s:=Aa r;have G:=Aa M;have ad:=hb.size;obtain⟨aa,ab,rfl⟩:=An r;have ae:k<=100:=by omega
  clear hb M;by_cases ai:k<n
  ·have W:k<t.size:=by omega
   have aj:0<=(t[k].toNat:Int):=by omega
   have ak:(t[k].toNat:Int)<=255:=by have:=t[k].toNat_lt;omega
   have L:t.data.toList[k]?=some t[k]:=by
    rw[wS (by simpa using W)];rfl
   have K:decide ((k:Int)<(t.size:Int))=true:=by simp;omega
   have T:decide ((k:Int)<100)=true:=by simp;omega
   have H:=Aa (show 34::(t.data.toList.take (k+1)).filter GY=l++(if GY t[k]=true then [t[k]]else [])from by rw[kJ _ _ _ L,G.o];rfl);have j:=Aa (show GY t[k]=(decide ((32:Int)<=(t[k].toNat:Int))&&(decide ((t[k].toNat:Int)<=126)&&(((t[k].toNat:Int)!=34)&&((t[k].toNat:Int)!=92))))from rfl);have f:=r.alloc (.cells #[.int .u8 (t[k].toNat:Int)] 5);generalize GY t[k]=X at*;clear L;have v:=Aa (show X=false->l=34::(t.data.toList.take (k+1)).filter GY from fun e=>by rw[H.o,e];simp);cases p:decide ((32:Int)<=(t[k].toNat:Int))
   ·have b:=Aa (v.o (by rw[j.o,p];rfl))
    go_wp2;go_roundg (n-(k+1))
    case measure=>omega
    case rel=>exact⟨k+1,l,by go_num,by omega,wQ _,g.o,s.o,b.o,by omega⟩
   cases x:decide ((t[k].toNat:Int)<=126)
   ·have b:=Aa (v.o (by rw[j.o,p,x];rfl))
    go_wp2;go_roundg (n-(k+1))
    case measure=>omega
    case rel=>exact⟨k+1,l,by go_num,by omega,wQ _,g.o,s.o,b.o,by omega⟩
   cases D:((t[k].toNat:Int)!=34)
   ·have b:=Aa (v.o (by rw[j.o,p,x,D];rfl))
    go_wp2;go_roundg (n-(k+1))
    case measure=>omega
    case rel=>exact⟨k+1,l,by go_num,by omega,wQ _,g.o,s.o,b.o,by omega⟩
   cases I:((t[k].toNat:Int)!=92)
   ·have b:=Aa (v.o (by rw[j.o,p,x,D,I];rfl))
    go_wp2;go_roundg (n-(k+1))
    case measure=>omega
    case rel=>exact⟨k+1,l,by go_num,by omega,wQ _,g.o,s.o,b.o,by omega⟩
   have b:=Aa (show l++[t[k]]=34::(t.data.toList.take (k+1)).filter GY from by rw[H.o,j.o,p,x,D,I];rfl);go_wp2_with (at_builtin;refine wpList_append_own _ rfl _ _ 69 rfl w.heap.size 5 C (.int .u8 0) 1 1 underlying69 y z A B rfl (by decide) _ _ _ rfl f ⟨wr.heap.size,0,none⟩ 1 1 [.int .u8 (t[k].toNat:Int)] rfl rfl (cell_one_new _ _ _) (fun u d=>by simp at d;subst d;rfl) (by unfold maxLen;omega) (by omega) (by simp;omega) ?_;intro v' w1 a c _);have Q:=Aa (show w1.ownsRow w.heap.size 5 1 v' (l++[t[k]]).length (CR (l++[t[k]]))from by rw[Ev,xJ];exact a);have i:=Aa (show yG w w1 from(bA g.o (.cells #[.int .u8 (t[k].toNat:Int)] 5)).grown c (by simp;omega) (fun k h=>(f.lt k h).1));obtain⟨Z,c2,rfl⟩:=An a;clear a c f;go_roundg (n-(k+1))
   case measure=>omega
   case rel=>exact⟨k+1,l++[t[k]],by go_num,by omega,wQ _,i.o,Q.o,b.o,by simp;omega⟩
  ·have V:k=n:=by omega
   subst V;have b:=Aa (show S=⟨(l++[34]).toArray⟩from by rw[R.o,G.o]);have f:=r.alloc (.cells #[.int .u8 34] 5);clear r;rcases Nat.lt_or_ge k t.size with q|q
   ·have K:decide ((k:Int)<(t.size:Int))=true:=by simp;omega
    have T:decide ((k:Int)<100)=false:=by simp;omega
    clear F;go_upto_region 9 with(at_builtin;refine wpList_append_own _ rfl _ _ 69 rfl w.heap.size 5 C (.int .u8 0) 1 1 underlying69 y z A B rfl (by decide) _ _ _ rfl f ⟨wr.heap.size,0,none⟩ 1 1 [.int .u8 34] rfl rfl (cell_one_new _ _ _) (fun u d=>by simp at d;subst d;rfl) (by unfold maxLen;omega) (by omega) (by simp;omega) ?_;intro v' w1 a c _);have U:=Nk w1 w.heap.size v' (l++[34]) (by rw[Ev,xJ];exact a);have i:=Aa (show yG w w1 from(bA g.o (.cells #[.int .u8 34] 5)).grown c (by simp;omega) (fun k h=>(f.lt k h).1));clear a c;go_wp2;go_ret;rw[b.o];exact⟨rfl,i.o⟩
   ·have K:decide ((k:Int)<(t.size:Int))=false:=by simp;omega
    clear F;go_upto_region 9 with(at_builtin;refine wpList_append_own _ rfl _ _ 69 rfl w.heap.size 5 C (.int .u8 0) 1 1 underlying69 y z A B rfl (by decide) _ _ _ rfl f ⟨wr.heap.size,0,none⟩ 1 1 [.int .u8 34] rfl rfl (cell_one_new _ _ _) (fun u d=>by simp at d;subst d;rfl) (by unfold maxLen;omega) (by omega) (by simp;omega) ?_;intro v' w1 a c _);have U:=Nk w1 w.heap.size v' (l++[34]) (by rw[Ev,xJ];exact a);have i:=Aa (show yG w w1 from(bA g.o (.cells #[.int .u8 34] 5)).grown c (by simp;omega) (fun k h=>(f.lt k h).1));clear a c;go_wp2;go_ret;rw[b.o];exact⟨rfl,i.o⟩
def PX(name:yF):List AY:=[(⟨#[81,117,101,114,121]⟩,⟨#[]⟩,[(⟨#[116,101,97,109]⟩,⟨#[91,64,34,97,34,32,64,34,98,34,32,64,34,122,34,93]⟩)]),(⟨#[80,101,114,115,111,110]⟩,⟨#[97]⟩,[(⟨#[110,97,109,101]⟩,⟨#[34,65,110,110,34]⟩),(⟨#[111,112,101,110]⟩,⟨#[116,114,117,101]⟩),(⟨#[112,97,121]⟩,⟨#[55]⟩),(⟨#[102,114,105,101,110,100]⟩,⟨#[64,34,98,34]⟩)]),(⟨#[80,101,114,115,111,110]⟩,⟨#[98]⟩,[(⟨#[110,97,109,101]⟩,Mh name),(⟨#[111,112,101,110]⟩,⟨#[102,97,108,115,101]⟩)])]
theorem fE:PX ⟨#[66,111]⟩=GA:=by kernel_rfl
theorem vJ(w:World)(q:yF):Calls prog 13 #[.string q] w fun e w'=>e=.returned (.agg #[.string ⟨#[117,115,101,114]⟩,.string ⟨#[]⟩,.string q,.string ⟨#[]⟩,.int .i64 5000])/\yG w w':=by
 go_enter func13,ntmps13;go_wp2;refine bodyPost_ret (v:=.agg #[.string ⟨#[117,115,101,114]⟩,.string ⟨#[]⟩,.string q,.string ⟨#[]⟩,.int .i64 5000]) (by simp[results,results13,go_sem]) rfl ⟨rfl,?_⟩;repeat' with_reducible first|exact wR _ _|refine bA ?_ _|refine bS ?_ _ (wQ _) _
theorem bU(w:World)(q:yF):Calls prog 14 #[.string q] w fun e w'=>e=.returned (.agg #[.string ⟨#[98,111,115,115]⟩,.string ⟨#[]⟩,.string q,.string ⟨#[]⟩,.int .i64 5000])/\yG w w':=by
 go_enter func14,ntmps14;go_wp2;refine bodyPost_ret (v:=.agg #[.string ⟨#[98,111,115,115]⟩,.string ⟨#[]⟩,.string q,.string ⟨#[]⟩,.int .i64 5000]) (by simp[results,results14,go_sem]) rfl ⟨rfl,?_⟩;repeat' with_reducible first|exact wR _ _|refine bA ?_ _|refine bS ?_ _ (wQ _) _
theorem qO(w:World)(name:yF):Calls prog 11 #[.string name] w fun e w'=>∃a c,e=.returned (.slice a 3 c)/\Fv w' (.slice a 3 c) (PX name)/\yG w w':=by
 have A:=Aa (fun W=>kK W name);have z:=Aa (PX.eq_1 name);generalize PX name=F at*;generalize Mh name=v at*;go_enter func11,ntmps11;go_wp2_with fail;refine(A.o _).mono ?_;rintro _ w1 ⟨rfl,l⟩;have k:=Ox w (.cells #[.string ⟨#[116,101,97,109]⟩,.string ⟨#[91,64,34,97,34,32,64,34,98,34,32,64,34,122,34,93]⟩] 41) (.cells #[.string ⟨#[110,97,109,101]⟩,.string ⟨#[34,65,110,110,34]⟩,.string ⟨#[111,112,101,110]⟩,.string ⟨#[116,114,117,101]⟩,.string ⟨#[112,97,121]⟩,.string ⟨#[55]⟩,.string ⟨#[102,114,105,101,110,100]⟩,.string ⟨#[64,34,98,34]⟩] 41);have x:=Aa (show yG w w1 from bT (bA (bA (wR _ _) _) _) l);have p:=(l.block _ (Ab k.1)).trans k.1;have k2:=(l.block _ (Ab k.2)).trans k.2;have s:=Ox w1 (.cells #[.string ⟨#[110,97,109,101]⟩,.string v,.string ⟨#[111,112,101,110]⟩,.string ⟨#[102,97,108,115,101]⟩] 41) (.cells #[.string ⟨#[81,117,101,114,121]⟩,.string ⟨#[]⟩,.slice (some ⟨w.heap.size,0,none⟩) 1 1,.string ⟨#[80,101,114,115,111,110]⟩,.string ⟨#[97]⟩,.slice (some ⟨w.heap.size+1,0,none⟩) 4 4,.string ⟨#[80,101,114,115,111,110]⟩,.string ⟨#[98]⟩,.slice (some ⟨w1.heap.size,0,none⟩) 2 2] 38);have h:=bA (bA (wR w1.heap.size w1) (.cells #[.string ⟨#[110,97,109,101]⟩,.string v,.string ⟨#[111,112,101,110]⟩,.string ⟨#[102,97,108,115,101]⟩] 41)) (.cells #[.string ⟨#[81,117,101,114,121]⟩,.string ⟨#[]⟩,.slice (some ⟨w.heap.size,0,none⟩) 1 1,.string ⟨#[80,101,114,115,111,110]⟩,.string ⟨#[97]⟩,.slice (some ⟨w.heap.size+1,0,none⟩) 4 4,.string ⟨#[80,101,114,115,111,110]⟩,.string ⟨#[98]⟩,.slice (some ⟨w1.heap.size,0,none⟩) 2 2] 38);have t:=(h.block _ (Ab p)).trans p;have u:=(h.block _ (Ab k2)).trans k2;have y:=Aa (xZ s (xZ h (xZ t u)));clear l k p k2 s h t u;go_wp2;go_ret;obtain⟨⟨D,E⟩,h,B,C⟩:=y.o;rw[z.o];refine⟨some ⟨w1.heap.size+1,0,none⟩,3,rfl,⟨_,_,rfl,wQ _,.inr ⟨_,0,rfl,fun j r d=>?_⟩⟩,bT x.o h⟩;have q:=Ac B;have g:=Ac C;have m:=Ac D;have f:=Ac E
 match j,d with
 |0,d=>
  simp only[List.getElem?_cons_zero,Option.some.injEq]at d;subst d;refine⟨f 0,f 1,_,f 2,⟨_,_,rfl,wQ _,.inr ⟨_,0,rfl,fun i c b=>?_⟩⟩⟩
  match i,b with
  |0,b=>simp only[List.getElem?_cons_zero,Option.some.injEq]at b;subst b;exact⟨q 0,q 1⟩
  |n+1,b=>simp at b
 |1,d=>
  simp only[List.getElem?_cons_succ,List.getElem?_cons_zero,Option.some.injEq]at d;subst d;refine⟨f 3,f 4,_,f 5,⟨_,_,rfl,wQ _,.inr ⟨_,0,rfl,fun i c b=>?_⟩⟩⟩
  match i,b with
  |0,b=>simp only[List.getElem?_cons_zero,Option.some.injEq]at b;subst b;exact⟨g 0,g 1⟩
  |1,b=>simp only[List.getElem?_cons_succ,List.getElem?_cons_zero,Option.some.injEq]at b;subst b;exact⟨g 2,g 3⟩
  |2,b=>simp only[List.getElem?_cons_succ,List.getElem?_cons_zero,Option.some.injEq]at b;subst b;exact⟨g 4,g 5⟩
  |3,b=>simp only[List.getElem?_cons_succ,List.getElem?_cons_zero,Option.some.injEq]at b;subst b;exact⟨g 6,g 7⟩
  |n+4,b=>simp at b
 |2,d=>
  simp only[List.getElem?_cons_succ,List.getElem?_cons_zero,Option.some.injEq]at d;subst d;refine⟨f 6,f 7,_,f 8,⟨_,_,rfl,wQ _,.inr ⟨_,0,rfl,fun i c b=>?_⟩⟩⟩
  match i,b with
  |0,b=>simp only[List.getElem?_cons_zero,Option.some.injEq]at b;subst b;exact⟨m 0,m 1⟩
  |1,b=>simp only[List.getElem?_cons_succ,List.getElem?_cons_zero,Option.some.injEq]at b;subst b;exact⟨m 2,m 3⟩
  |n+2,b=>simp at b
 |n+3,d=>simp at d
structure QI(ys:List AY):Prop where
 l:ys.length<=1000000
 c:∀y∈ys,y.2.1.size<=2000000/\y.2.2.length<=900000/\∀c∈y.2.2,c.2.size<=2000000
def Kc(x:yF)(ys:List AY)(role vid qt vt:yF)(b:Int):yF×Bool:=if Eo x ys=0 then(Ft x ys role vid qt vt b,true)else(⟨#[]⟩,false)
theorem Ue(x:yF)(w:World)(hs:x.size<=2000000)(p:Option Addr)(r:Nat)(ys:List AY)(E:Fv w (.slice p ys.length r) ys)(j:QI ys)(hit:GM w)(role vid qt vt:yF)(b:Int)(L:role.size<=2000000)(M:qt.size<=2000000)(N:vt.size<=2000000):
 Calls prog 10 #[.string x,.slice p ys.length r,.agg #[.string role,.string vid,.string qt,.string vt,.int .i64 b]] w fun e w'=>e=.returned (.tuple #[.string (Kc x ys role vid qt vt b).1,.bool (Kc x ys role vid qt vt b).2])/\yG w w':=by
 have u:=Aa (fun(a:World) (s:yG w a)=>Xb x a (by unfold maxLen;omega) p r ys (E.below s) j.l j.c);have J:=Aa (fun(a:World) (s:yG w a) V T (hs:MS a V T) (f:GN a T (Ao (Ad x)).1 ys) (P:Eo x ys=0)=>YP hs f P (fun y O=>by have:=(j.c y O).2.1;omega) (hit.below s) role vid qt vt b L M N);have i:=Aa (Kc.eq_1 x ys role vid qt vt b);generalize Kc x ys role vid qt vt b=z at*;generalize Ft x ys role vid qt vt b=Q at*;have F:=bA (wR w.heap.size w) (.cells #[.string role,.string vid,.string qt,.string vt,.int .i64 b] 26);have v:=Aa (wX w (.cells #[.string role,.string vid,.string qt,.string vt,.int .i64 b] 26));have h:=Aa F;clear E j hit F;generalize Eo x ys=k at*;by_cases f:k=0
 ·subst f
  have m:=Aa (show z=(Q,true)from i.o);clear i;go_enter func10,ntmps10;go_upto_region 1 with fail;generalize w.alloc (.cells #[.string role,.string vid,.string qt,.string vt,.int .i64 b] 26)=n at*;go_wp2_with fail;refine(u.o n h.o).mono ?_;rintro _ w2 ⟨q,rfl,d, -,D⟩;obtain⟨V,T,rfl,C,B⟩:=D trivial;have g:=Aa (bT h.o d);have t:=(d.block _ (Ab v.o)).trans v.o;have c2:=Ac t;have S:=Ab t;have K:=Aa (J.o w2 g.o V T C B trivial);clear d D C B t;go_wp2_with fail;refine K.o.mono ?_;rintro _ w3 ⟨rfl,A⟩;have H:=Aa (bT g.o A);clear A;go_wp2;go_ret2;rw[m.o];exact⟨rfl,H.o⟩
 ·have m:=Aa (show z=(⟨#[]⟩,false)from by rw[i.o,xG f])
  have R:((k:Int)!=0)=true:=by simp;omega
  have I:=Aa f;clear i f;go_enter func10,ntmps10;go_upto_region 1 with fail;generalize w.alloc (.cells #[.string role,.string vid,.string qt,.string vt,.int .i64 b] 26)=n at*;go_wp2_with fail;refine(u.o n h.o).mono ?_;rintro _ w2 ⟨q,rfl,d,G, -⟩;have e:=G I.o;subst e;have g:=Aa (bT h.o d);clear d G;go_wp2;go_ret2;rw[m.o];exact⟨rfl,g.o⟩
theorem UV:QI GA:=⟨by decide,by decide⟩
theorem fC:Kc La GA ⟨#[117,115,101,114]⟩ ⟨#[]⟩ ⟨#[123,116,101,97,109,123,110,97,109,101,125,125]⟩ ⟨#[]⟩ 5000=(UT,true):=by unfold Kc;rw[xH UW,eZ]
theorem fD:Kc La GA ⟨#[98,111,115,115]⟩ ⟨#[]⟩ ⟨#[123,109,101,40,105,100,58,34,98,34,41,123,110,97,109,101,125,125]⟩ ⟨#[]⟩ 5000=(UU,true):=by unfold Kc;rw[xH UW,fB]
theorem uL(w:World)(hit:GM w):Calls prog 7 #[] w fun e w'=>e=.returned (.bool true)/\yG w w':=by
 have g:=Aa (fun W=>qO W ⟨#[66,111]⟩);rw[fE]at g;have l:=Aa (fun(b:World) (k:yG w b) a c (j:Fv b (.slice a 3 c) GA)=>Ue La b (by decide) a c GA j UV (hit.below k) ⟨#[117,115,101,114]⟩ ⟨#[]⟩ ⟨#[123,116,101,97,109,123,110,97,109,101,125,125]⟩ ⟨#[]⟩ 5000 (by decide) (by decide) (by decide));rw[fC,show GA.length=3 from rfl]at l;have m:=Aa (fun(b:World) (k:yG w b) a c (j:Fv b (.slice a 3 c) GA)=>Ue La b (by decide) a c GA j UV (hit.below k) ⟨#[98,111,115,115]⟩ ⟨#[]⟩ ⟨#[123,109,101,40,105,100,58,34,98,34,41,123,110,97,109,101,125,125]⟩ ⟨#[]⟩ 5000 (by decide) (by decide) (by decide));rw[fD,show GA.length=3 from rfl]at m;generalize GA=G at*;clear hit;go_enter func7,ntmps7;go_wp2_with fail;refine(g.o w).mono ?_;rintro _ w1 ⟨D,c1,rfl,A,v⟩;have r:=Aa A;have n:=Aa v;clear A v;go_wp2_with fail;refine(vJ w1 _).mono ?_;rintro _ w2 ⟨rfl,h⟩;have s:=Aa (r.o.below h);have d:=Aa (bT n.o h);clear h r n;go_wp2_with fail;refine(l.o w2 d.o D c1 s.o).mono ?_;rintro _ w3 ⟨rfl,x⟩;have p:=Aa (bT d.o x);clear x s d;go_wp2_with fail;refine(g.o w3).mono ?_;rintro _ w4 ⟨E,c4,rfl,B,y⟩;have t:=Aa B;have q:=Aa (bT p.o y);clear B y p;go_wp2_with fail;refine(bU w4 _).mono ?_;rintro _ w5 ⟨rfl,i⟩;have u:=Aa (t.o.below i);have f:=Aa (bT q.o i);clear i t q;go_wp2_with fail;refine(m.o w5 f.o E c4 u.o).mono ?_;rintro _ w6 ⟨rfl,z⟩;have C:=Aa (bT f.o z);clear z u f;go_wp2_with fail
 ·go_ret
  exact⟨Al (by rw[Lib.toList_data];kernel_rfl),C.o⟩
 ·rename_i F
  exact absurd (by rw[Lib.toList_data];kernel_rfl) F
end Go.Proofs.YtogdodlibkckkaaGreatDoor
