import Derived.Test.YtogdodlibkckkaaGreatDoorZ48
namespace Go.Proofs.YtogdodlibkckkaaGreatDoor
set_option maxHeartbeats 20000000
set_option maxRecDepth 100000
open Go.RowKit Tryz
theorem AEU{c:UInt8}(a:GY c=true):¬c=34/\¬(c<32\/126<c)/\¬c=92:=by
 unfold GY at a;simp only[xQ,xK,bne_iff_ne,ne_eq]at a;obtain⟨f,g,b,d⟩:=a;refine⟨fun e=>b (by rw[e];rfl),fun e=>?_,fun e=>d (by rw[e];rfl)⟩;rcases e with e|e
 ·have:c.toNat<32:=e
  omega
 ·have:126<c.toNat:=e
  omega
theorem ADb(r:List UInt8):∀(f a:List UInt8) (m:Nat),(∀c∈f,GY c=true)->Cm (f++34::r) a m=some (a++f,m+f.length+1)
 |[],a,m,_=>by
  show Cm (34::r) a m=_;rw[Ky,xH rfl];simp
 |c::f,a,m,b=>by
  obtain⟨d,e,g⟩:=AEU (b c (.head _));show Cm (c::(f++34::r)) a m=_;rw[Ky,xG d,xG e,xG g,ADb r f (a++[c]) (m+1) (fun x h=>b x (.tail _ h))];simp;omega
def kqF(t:yF):List UInt8:=(t.data.toList.take 100).filter GY
theorem ADx(t:yF):∀c∈kqF t,GY c=true:=fun _ a=>(List.mem_filter.1 a).2
theorem ACr(t:yF):(kqF t).length<=100:=wV (List.length_filter_le _ _) (by rw[List.length_take];omega)
theorem ADN(t:yF)(r:List UInt8):Bf (34::(kqF t++34::r))=(Bf r).map (⟨3,Az (kqF t),0⟩:: ·):=by
 have a:Bm (34::(kqF t++34::r))=some (⟨3,Az (kqF t),0⟩,(kqF t).length+2):=by
  show(Cm (kqF t++34::r) [] 1).map _=_;rw[ADb r (kqF t) [] 1 (ADx t)];simp;omega
 rw[mA 34 _ _ (by decide) (by decide) a];simp
theorem ADE(t:yF):Ad (Mh t)=some [⟨3,Az (kqF t),0⟩]:=by
 have e:(Mh t).data.toList=34::(kqF t++[34]):=by unfold Mh VN kqF;simp
 have hs:(Mh t).size=(kqF t).length+2:=by
  have:(Mh t).size=(Mh t).data.toList.length:=by simp
  rw[this,e];simp
 unfold Ad;have:=ACr t;rw[xG (by omega),e,ADN t []];rfl
def ABe(y z:yF):List AY:=[(⟨#[81,117,101,114,121]⟩,⟨#[]⟩,[(⟨#[116,101,97,109]⟩,⟨#[91,64,34,97,34,32,64,34,98,34,32,64,34,122,34,93]⟩)]),(⟨#[80,101,114,115,111,110]⟩,⟨#[97]⟩,[(⟨#[110,97,109,101]⟩,⟨#[34,65,110,110,34]⟩),(⟨#[111,112,101,110]⟩,⟨#[116,114,117,101]⟩),(⟨#[112,97,121]⟩,⟨#[55]⟩),(⟨#[102,114,105,101,110,100]⟩,⟨#[64,34,98,34]⟩),(⟨#[110,111,116,101]⟩,z)]),(⟨#[80,101,114,115,111,110]⟩,⟨#[98]⟩,[(⟨#[110,97,109,101]⟩,y),(⟨#[111,112,101,110]⟩,⟨#[102,97,108,115,101]⟩)])]
def ABj(z:yF):List AY:=[(⟨#[81,117,101,114,121]⟩,⟨#[]⟩,[(⟨#[116,101,97,109]⟩,⟨#[91,64,34,97,34,32,64,34,98,34,32,64,34,122,34,93]⟩)]),(⟨#[80,101,114,115,111,110]⟩,⟨#[97]⟩,[(⟨#[110,97,109,101]⟩,⟨#[34,65,110,110,34]⟩),(⟨#[111,112,101,110]⟩,⟨#[116,114,117,101]⟩),(⟨#[112,97,121]⟩,⟨#[55]⟩),(⟨#[102,114,105,101,110,100]⟩,⟨#[64,34,98,34]⟩),(⟨#[110,111,116,101]⟩,z)])]
def ABn(y:yF):List AY:=[(⟨#[81,117,101,114,121]⟩,⟨#[]⟩,[(⟨#[116,101,97,109]⟩,⟨#[91,64,34,97,34,32,64,34,98,34,32,64,34,122,34,93]⟩)]),(⟨#[80,101,114,115,111,110]⟩,⟨#[97]⟩,[(⟨#[110,97,109,101]⟩,⟨#[34,65,110,110,34]⟩),(⟨#[111,112,101,110]⟩,⟨#[116,114,117,101]⟩),(⟨#[112,97,121]⟩,⟨#[55]⟩),(⟨#[102,114,105,101,110,100]⟩,⟨#[64,34,98,34]⟩)]),(⟨#[80,101,114,115,111,110]⟩,⟨#[98]⟩,[(⟨#[110,97,109,101]⟩,y),(⟨#[111,112,101,110]⟩,⟨#[102,97,108,115,101]⟩)])]
def AFN:yF:=⟨#[117,115,101,114]⟩
def mq1:yF:=⟨#[123,109,101,40,105,100,58,34,98,34,41,123,110,97,109,101,125,125]⟩
def ml1:yF:=⟨#[123,34,100,97,116,97,34,58,123,34,109,101,34,58,110,117,108,108,125,44,34,101,114,114,111,114,115,34,58,91,123,34,109,101,115,115,97,103,101,34,58,34,110,111,116,32,97,118,97,105,108,97,98,108,101,34,44,34,112,97,116,104,34,58,91,34,109,101,34,93,125,93,125]⟩
theorem m1A(y z:yF):Ft La (ABe y z) AFN bE mq1 bE 5000=ml1:=by kernel_rfl
theorem m1B(y:yF):Ft La (ABn y) AFN bE mq1 bE 5000=ml1:=by kernel_rfl
theorem m1C(z:yF):Ft La (ABj z) AFN bE mq1 bE 5000=ml1:=by kernel_rfl
def mq2:yF:=⟨#[123,116,101,97,109,123,110,97,109,101,32,102,114,105,101,110,100,123,110,97,109,101,125,125,125]⟩
def ml2:yF:=⟨#[123,34,100,97,116,97,34,58,123,34,116,101,97,109,34,58,91,123,34,110,97,109,101,34,58,34,65,110,110,34,44,34,102,114,105,101,110,100,34,58,110,117,108,108,125,44,110,117,108,108,44,110,117,108,108,93,125,44,34,101,114,114,111,114,115,34,58,91,123,34,109,101,115,115,97,103,101,34,58,34,110,111,116,32,97,118,97,105,108,97,98,108,101,34,44,34,112,97,116,104,34,58,91,34,116,101,97,109,34,44,48,44,34,102,114,105,101,110,100,34,93,125,44,123,34,109,101,115,115,97,103,101,34,58,34,110,111,116,32,97,118,97,105,108,97,98,108,101,34,44,34,112,97,116,104,34,58,91,34,116,101,97,109,34,44,49,93,125,44,123,34,109,101,115,115,97,103,101,34,58,34,110,111,116,32,97,118,97,105,108,97,98,108,101,34,44,34,112,97,116,104,34,58,91,34,116,101,97,109,34,44,50,93,125,93,125]⟩
theorem m2A(y z:yF):Ft La (ABe y z) AFN bE mq2 bE 5000=ml2:=by kernel_rfl
theorem m2B(y:yF):Ft La (ABn y) AFN bE mq2 bE 5000=ml2:=by kernel_rfl
theorem m2C(z:yF):Ft La (ABj z) AFN bE mq2 bE 5000=ml2:=by kernel_rfl
def mq3:yF:=⟨#[123,109,101,40,105,100,58,34,97,34,41,123,102,114,105,101,110,100,123,95,95,116,121,112,101,110,97,109,101,125,125,125]⟩
def ml3:yF:=⟨#[123,34,100,97,116,97,34,58,123,34,109,101,34,58,123,34,102,114,105,101,110,100,34,58,110,117,108,108,125,125,44,34,101,114,114,111,114,115,34,58,91,123,34,109,101,115,115,97,103,101,34,58,34,110,111,116,32,97,118,97,105,108,97,98,108,101,34,44,34,112,97,116,104,34,58,91,34,109,101,34,44,34,102,114,105,101,110,100,34,93,125,93,125]⟩
theorem m3A(y z:yF):Ft La (ABe y z) AFN bE mq3 bE 5000=ml3:=by kernel_rfl
theorem m3B(y:yF):Ft La (ABn y) AFN bE mq3 bE 5000=ml3:=by kernel_rfl
theorem m3C(z:yF):Ft La (ABj z) AFN bE mq3 bE 5000=ml3:=by kernel_rfl
def mq4:yF:=⟨#[123,109,101,40,105,100,58,34,97,34,41,123,110,97,109,101,32,110,111,116,101,125,125]⟩
def ml4:yF:=⟨#[123,34,101,114,114,111,114,115,34,58,91,123,34,109,101,115,115,97,103,101,34,58,34,115,101,108,101,99,116,105,111,110,34,125,93,125]⟩
theorem m4A(y z:yF):Ft La (ABe y z) AFN bE mq4 bE 5000=ml4:=by kernel_rfl
theorem m4B(y:yF):Ft La (ABn y) AFN bE mq4 bE 5000=ml4:=by kernel_rfl
theorem m4C(z:yF):Ft La (ABj z) AFN bE mq4 bE 5000=ml4:=by kernel_rfl
def mq5:yF:=⟨#[123,109,101,40,105,100,58,34,97,34,41,123,110,111,116,101,125,125]⟩
theorem m5A(y z:yF):Ft La (ABe y z) AFN bE mq5 bE 5000=ml4:=by kernel_rfl
def mq6:yF:=⟨#[123,109,101,40,105,100,58,34,97,34,41,123,110,111,116,104,105,110,103,125,125]⟩
theorem m6A(y z:yF):Ft La (ABe y z) AFN bE mq6 bE 5000=ml4:=by kernel_rfl
theorem AEN(n:yF):PX n=ABn (Mh n):=rfl
structure ACC(y:yF):Prop where
 v:∃s,CZ y=.mk 2 0 s []
 o:JL y=true
theorem ABr(t:yF):ACC (Mh t):=by
 refine⟨⟨Az (kqF t),?_⟩,?_⟩
 ·unfold CZ;rw[ADE];rfl
 ·unfold JL;rw[ADE];rfl
theorem ACl:ACC ⟨#[34,34]⟩:=ABr ⟨#[]⟩
theorem ACa{y c:yF}(f:ACC y)(g:ACC c)(R:yF->yF->Bool)(a:List Am)(b:List yF)(n:yF):Kh R a b n y=Kh R a b n c:=by
 obtain⟨⟨s,e⟩,o⟩:=f;obtain⟨⟨i,d⟩,h⟩:=g;unfold Kh;rw[o,h,e,d];have:∀t:Bv,Dh R t (.mk 2 0 s [])=Dh R t (.mk 2 0 i []):=fun t=>by cases t<;>rfl
 simp only[this]
theorem ACO{y z:yF}(b:ACC y)(d:ACC z):Eo La (ABe y z)=0:=by
 have a:Eo La (ABe ⟨#[34,34]⟩ ⟨#[34,34]⟩)=0:=by kernel_rfl
 have e:Ij (Ao (Ad La)).1 (ABe y z)=Ij (Ao (Ad La)).1 (ABe ⟨#[34,34]⟩ ⟨#[34,34]⟩):=by
  generalize (Ao (Ad La)).1=c;unfold Ij Lt ABe;simp only[List.all_cons,List.all_nil,Hf,Ks,List.map_cons,List.map_nil,ACa b ACl,ACa d ACl];rfl
 unfold Eo at*;rw[e];exact a
theorem AEg{y:yF}(b:ACC y):Eo La (ABn y)=0:=by
 have a:Eo La (ABn ⟨#[34,34]⟩)=0:=by kernel_rfl
 have e:Ij (Ao (Ad La)).1 (ABn y)=Ij (Ao (Ad La)).1 (ABn ⟨#[34,34]⟩):=by
  generalize (Ao (Ad La)).1=c;unfold Ij Lt ABn;simp only[List.all_cons,List.all_nil,Hf,Ks,List.map_cons,List.map_nil,ACa b ACl];rfl
 unfold Eo at*;rw[e];exact a
theorem AEh{z:yF}(b:ACC z):Eo La (ABj z)=0:=by
 have a:Eo La (ABj ⟨#[34,34]⟩)=0:=by kernel_rfl
 have e:Ij (Ao (Ad La)).1 (ABj z)=Ij (Ao (Ad La)).1 (ABj ⟨#[34,34]⟩):=by
  generalize (Ao (Ad La)).1=c;unfold Ij Lt ABj;simp only[List.all_cons,List.all_nil,Hf,Ks,List.map_cons,List.map_nil,ACa b ACl];rfl
 unfold Eo at*;rw[e];exact a
end Go.Proofs.YtogdodlibkckkaaGreatDoor
