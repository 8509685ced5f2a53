import Derived.Test.YtogdodlibkckkaaGreatDoorZM1
namespace Go.Proofs.YtogdodlibkckkaaGreatDoor
set_option maxHeartbeats 20000000
set_option maxRecDepth 100000
open Go.RowKit Tryz
def tkB(k:Nat)(s:yF):Tk:=⟨k,s,0⟩
def wMe:yF:=⟨#[109,101]⟩
def wNm:yF:=⟨#[110,97,109,101]⟩
def tkZ(z:yF):St:=some [tkB 14 bE,tkB 1 wMe,tkB 7 bE,tkB 1 De,tkB 9 bE,tkB 3 z,tkB 8 bE,tkB 14 bE,tkB 1 wNm,tkB 15 bE,tkB 15 bE]
def idQ(q:yF):yF:=⟨#[123,109,101,40,105,100,58]⟩++q++⟨#[41,123,110,97,109,101,125,125]⟩
theorem ADw(t:yF):(idQ (Mh t)).data.toList=123::109::101::40::105::100::58::34::(kqF t++34::[41,123,110,97,109,101,125,125]):=by
 unfold idQ Mh VN kqF;simp[ByteArray.data_append]
theorem ADl(t:yF):Ad (idQ (Mh t))=tkZ (Az (kqF t)):=by
 have e:=ADw t;have hs:(idQ (Mh t)).size=(kqF t).length+17:=by
  have:(idQ (Mh t)).size=(idQ (Mh t)).data.toList.length:=by simp
  rw[this,e];simp
 have:=ACr t;unfold Ad;rw[xG (by omega),e];generalize b:kqF t++34::[41,123,110,97,109,101,125,125]=a;rw[mA 123 _ (tkB 14 bE,1) (by decide) (by decide) (by kernel_rfl)];rw[show(123::109::101::40::105::100::58::34::a).drop (tkB 14 bE,1).2=109::101::40::105::100::58::34::a from rfl];rw[mA 109 _ (tkB 1 wMe,2) (by decide) (by decide) (by kernel_rfl)];rw[show(109::101::40::105::100::58::34::a).drop (tkB 1 wMe,2).2=40::105::100::58::34::a from rfl];rw[mA 40 _ (tkB 7 bE,1) (by decide) (by decide) (by kernel_rfl)];rw[show(40::105::100::58::34::a).drop (tkB 7 bE,1).2=105::100::58::34::a from rfl];rw[mA 105 _ (tkB 1 De,2) (by decide) (by decide) (by kernel_rfl)];rw[show(105::100::58::34::a).drop (tkB 1 De,2).2=58::34::a from rfl];rw[mA 58 _ (tkB 9 bE,1) (by decide) (by decide) (by kernel_rfl)];rw[show(58::34::a).drop (tkB 9 bE,1).2=34::a from rfl];rw[<-b,ADN];rw[show Bf [41,123,110,97,109,101,125,125]=some [tkB 8 bE,tkB 14 bE,tkB 1 wNm,tkB 15 bE,tkB 15 bE]from by kernel_rfl];rfl
theorem z1(z:yF):Ec (Bk (tkZ z)).2=true:=by kernel_rfl
theorem z2(z:yF):(Bk (tkZ z)).1.ops.length=1:=by kernel_rfl
theorem z3(z:yF):Kq (Bk (tkZ z)).1=true:=by kernel_rfl
theorem z4(z:yF):Fi (FP (Ad bE)).1 (GZ (BY (Bk (tkZ z)).1)) []=some []:=by kernel_rfl
def exC:Be:=(Ao (Ad La)).1
def ACE(z:yF):As:=⟨0,wMe,wMe,[(De,2,0,z)],[],some 1⟩
def ABu(z:yF):List Ai:=[⟨⟨#[]⟩,[ACE z]⟩,⟨⟨#[]⟩,[⟨0,wNm,wNm,[],[],none⟩]⟩]
theorem AEc(z:yF):(CS [] (BY (Bk (tkZ z)).1)).parts=ABu z:=by kernel_rfl
theorem AEX(z:yF):Ck (Bk (tkZ z)).1=0:=by kernel_rfl
theorem ADh(x:As):FY x x=true:=by unfold FY;simp
theorem ACy{parts:List Ai}{f:Nat}{a:List Bool}{l:List (Nat×Nat)}{p:Nat×Nat}{g:Bc}(b:GV parts p (a,l)=(true,g)):IW parts (f+1) (a,l++[p])=IW parts f g:=by
 rw[IW];simp[b]
theorem ADf(z:yF):KP (ABu z) 0=true:=by
 have b:GT (ABu z) 0 0 (List.replicate ((ABu z).length*(ABu z).length) false,[])=([true,false,false,false],[]++[(0,0)]):=by kernel_rfl
 have c:GV (ABu z) (0,0) ([true,false,false,false],[])=(true,([true,false,false,true],[]++[(1,1)])):=by
  have a:DM (ABu z) (ACE z) [ACE z] ([true,false,false,false],[])=(true,([true,false,false,true],[]++[(1,1)])):=by
   rw[DM,xH ⟨rfl,rfl,rfl⟩,xH (ADh _)]
   kernel_rfl
  show GU (ABu z) [ACE z] [ACE z] _=_;rw[GU,a];rfl
 have d:GV (ABu z) (1,1) ([true,false,false,true],[])=(true,([true,false,false,true],[])):=by kernel_rfl
 unfold KP;rw[b,show(ABu z).length*(ABu z).length+1=4+1 from rfl,ACy c,show(4:Nat)=3+1 from rfl,ACy d];rfl
theorem ADs(z:yF):Hz ⟨exC.objs,exC.ifs,exC.uns,Ef exC.roles AFN⟩ (ABu z) 0=true:=by
 unfold Hz;rw[ADf,Bool.and_true]
 kernel_rfl
def ABq(z:yF)(row:yF->Option MR):AM:=⟨exC.objs,exC.ifs,exC.uns,exC.names,Ef exC.roles AFN,ABu z,row⟩
theorem ADk(z:yF)(row:yF->Option MR):DG (ABq z row).parts (AW ((ABq z row).obj 0) (ABq z row).uns) [0]=[(ACE z,[1])]:=by kernel_rfl
def ACv:yF:=⟨#[80,101,114,115,111,110]⟩
theorem ADF(z:yF)(row:yF->Option MR)(a:Cd)(cs:List (yF×RV))(s:Aj)(b:row z=none):DI (ABq z row) a (0,cs) (ACE z,[1]) s=Cg s.data.length 2 false s.fail:=by
 have e:DI (ABq z row) a (0,cs) (ACE z,[1]) s=Cg s.data.length (GH a (Kb (ABq z row) z ACv) [1] s).1 false (GH a (Kb (ABq z row) z ACv) [1] s).2:=by kernel_rfl
 have c:Kb (ABq z row) z ACv=none:=by
  unfold Kb;rw[show(ABq z row).row z=none from b];rfl
 rw[e,c];rfl
theorem AEL(z:yF)(row:yF->Option MR)(cs:List (yF×RV))(b:row z=none):NL (ABq z row) (0,cs) 0 5000=ml1:=by
 have d:AV (ABq z row) 5001 (0,cs) [0] ⟨5000,[],[],[]⟩=AV (ABq z (fun _=>none)) 5001 (0,cs) [0] ⟨5000,[],[],[]⟩:=by
  rw[AV,AV];simp only[ADk];rw[Cv,Cv];simp only[ADF z row _ cs _ b,ADF z (fun _=>none) _ cs _ rfl,Cv]
 have c:FW (ABq z row) (0,cs) 0 ⟨5000,[],[],[]⟩=FW (ABq z (fun _=>none)) (0,cs) 0 ⟨5000,[],[],[]⟩:=by
  unfold FW;rw[d]
 have a:NL (ABq z (fun _=>none)) (0,cs) 0 5000=ml1:=by kernel_rfl
 unfold NL at a⊢;rw[c];exact a
theorem ACu(ys:List AY)(t:yF)(cs:List (yF×RV))(c:Cc exC.objs (BC exC.objs ys)=(0,cs))(a:Fl (BC exC.objs ys) (Az (kqF t))=none):Ft La ys AFN bE (idQ (Mh t)) bE 5000=ml1:=by
 have d:(FP (Ad bE)).2=true:=by kernel_rfl
 have b:Ef exC.roles AFN≠[]:=by
  intro e;have:(Ef exC.roles AFN).length=0:=by rw[e];rfl
  rw[show(Ef exC.roles AFN).length=1 from by kernel_rfl]at this;cases this
 show MT exC (BC exC.objs ys) AFN bE (idQ (Mh t)) bE 5000=ml1;unfold MT;rw[ADl];generalize Az (kqF t)=z at*;rw[xG (by rw[z1,d];simp),xG b,xG (by rw[z2];simp),xG (by rw[z3];simp),z4];unfold Ud;simp only[];rw[AEc,AEX,ADs,xG (by simp),xG (by omega),c];refine AEL z _ cs ?_;show Ej exC.objs (Ef exC.roles AFN) bE (BC exC.objs ys) z=none;unfold Ej;rw[a];rfl
def q0:yF:=⟨#[34,34]⟩
def AFL:yF:=⟨#[34,97,34]⟩
def AFM:yF:=⟨#[34,98,34]⟩
def ACz:yF:=⟨#[110,111,110,101]⟩
def ACk:yF:=⟨#[34,110,111,110,101,34]⟩
theorem ADR:Mh ACz=ACk:=by kernel_rfl
theorem ADM(t:yF):Mh t=⟨(34::((kqF t)++[34])).toArray⟩:=rfl
theorem ACs{t:yF}(l:List UInt8)(a:Mh t≠⟨(34::(l++[34])).toArray⟩):Az (kqF t)≠⟨l.toArray⟩:=by
 intro e;have:kqF t=l:=by
  have:=congrArg (fun b:yF=>b.data.toList) e;simpa [Az]using this
 exact a (by rw[ADM,this])
def idT(id:yF):yF:=if Mh id=q0\/Mh id=AFL\/Mh id=AFM then ACz else id
theorem ACq(id:yF):Az (kqF (idT id))≠bE/\Az (kqF (idT id))≠⟨#[97]⟩/\Az (kqF (idT id))≠⟨#[98]⟩:=by
 have a:Mh (idT id)≠q0/\Mh (idT id)≠AFL/\Mh (idT id)≠AFM:=by
  unfold idT;split
  ·rw[ADR];decide
  ·rename_i a
   simpa [not_or]using a
 exact⟨ACs [] a.1,ACs [97] a.2.1,ACs [98] a.2.2⟩
theorem ACo{rows:List (yF×MR)}{z:yF}(a:z∉rows.map Prod.fst):Fl rows z=none:=by
 unfold Fl Af;rw[Kk _ z 0 (fun y b e=>a (e▸b)),xH (by decide)]
theorem idA(y z id:yF):Ft La (ABe y z) AFN bE (idQ (Mh (idT id))) bE 5000=ml1:=by
 obtain⟨a,b,c⟩:=ACq id;refine ACu _ _ (Cc exC.objs (BC exC.objs (ABe y z))).2 (Prod.ext (by kernel_rfl) rfl) (ACo ?_);show _∉[bE,⟨#[97]⟩,⟨#[98]⟩];simp[a,b,c]
theorem idB(y id:yF):Ft La (ABn y) AFN bE (idQ (Mh (idT id))) bE 5000=ml1:=by
 obtain⟨a,b,c⟩:=ACq id;refine ACu _ _ (Cc exC.objs (BC exC.objs (ABn y))).2 (Prod.ext (by kernel_rfl) rfl) (ACo ?_);show _∉[bE,⟨#[97]⟩,⟨#[98]⟩];simp[a,b,c]
theorem idC(z id:yF):Ft La (ABj z) AFN bE (idQ (Mh (idT id))) bE 5000=ml1:=by
 obtain⟨a,b,c⟩:=ACq id;refine ACu _ _ (Cc exC.objs (BC exC.objs (ABj z))).2 (Prod.ext (by kernel_rfl) rfl) (ACo ?_);show _∉[bE,⟨#[97]⟩];simp[a,b]
def AFK:yF:=⟨#[98,111,115,115]⟩
theorem ADg(s:Aj):FX s≠ml4:=by
 intro e;have a:(FX s).data.toList[2]?=some 100:=by
  unfold FX;split<;>simp[ByteArray.data_append]
 rw[e]at a;revert a;decide
theorem ADj(y z:yF):Ft La (ABe y z) AFK bE mq5 bE 5000≠ml4:=by
 have e:∃E root w,Ft La (ABe y z) AFK bE mq5 bE 5000=NL E root w 5000:=by
  refine⟨DH exC (BC exC.objs (ABe y z)) (Ef exC.roles AFK) bE (CS [] (BY (Bk (Ad mq5)).1)).parts,Cc exC.objs (BC exC.objs (ABe y z)),Ck (Bk (Ad mq5)).1,?_⟩;show MT exC (BC exC.objs (ABe y z)) AFK bE mq5 bE 5000=_;have a:Ef exC.roles AFK≠[]:=by
   intro e;have:(Ef exC.roles AFK).length=0:=by rw[e];rfl
   rw[show(Ef exC.roles AFK).length=2 from by kernel_rfl]at this;cases this
  unfold MT;rw[xG (by rw[show Ec (Bk (Ad mq5)).2=true from by kernel_rfl,show(FP (Ad bE)).2=true from by kernel_rfl];simp),xG a,xG (by rw[show(Bk (Ad mq5)).1.ops.length=1 from by kernel_rfl];simp),xG (by rw[show Kq (Bk (Ad mq5)).1=true from by kernel_rfl];simp),show Fi (FP (Ad bE)).1 (GZ (BY (Bk (Ad mq5)).1)) []=some []from by kernel_rfl];unfold Ud;simp only[];rw[xG (by rw[show Hz ⟨exC.objs,exC.ifs,exC.uns,Ef exC.roles AFK⟩ (CS [] (BY (Bk (Ad mq5)).1)).parts (Ck (Bk (Ad mq5)).1)=true from by kernel_rfl];simp),xG (by omega)]
 obtain⟨E,root,w,e⟩:=e;rw[e];unfold NL;split
 ·decide
 ·exact ADg _
end Go.Proofs.YtogdodlibkckkaaGreatDoor
