import Derived.Test.YtgbloieahmkcjaaGreatC01
import Derived.Lib.Bytealg
namespace Go.Proofs.YtgbloieahmkcjaaGreat
set_option maxHeartbeats 20000000
set_option maxRecDepth 100000
open Go.RowKit Tryz
theorem CH(s:Ls)(c:UInt8)(w:World):
 Calls prog 194 #[.string s,.int .u8 c.toNat] w fun e w'=>e=.returned (.int .i64 (Lib.indexByte s.data.toList c))/\w'=w:=by
 have hc:((c.toNat:Int).toNat.toUInt8)=c:=by simp
 have HC:=aa hc;clear hc;go_enter func194,ntmps194
 go_wp2
 rw[run_callFunc_extern func211 (by kernel_rfl) (by kernel_rfl) (by kernel_rfl) (e:=Extern.BytealgIndexByte.indexByte) (by kernel_rfl),Lib.run_indexByteString,HC.o];simp only[Result.andThen];rw[Oper.upon_value]
 go_wp2
 go_ret;exact⟨rfl,rfl⟩
theorem yM(s:Ls)(c:UInt8)(w:World):
 Calls prog 164 #[.string s,.int .u8 c.toNat] w fun e w'=>e=.returned (.int .i64 (Lib.indexByte s.data.toList c))/\w'=w:=by
 go_enter func164,ntmps164;go_wp2_with (go_at_call 194;refine(CH _ _ _).mono ?_;rintro e w' ⟨rfl,rfl⟩);go_ret;exact⟨rfl,rfl⟩
theorem Cu(s:Ls)(w:World)(_hs:s.size<=100000):
 Calls prog 209 #[.string s,.string ⟨#[10]⟩] w fun e w'=>e=.returned (.int .i64 (Lib.indexByte s.data.toList 10))/\w'=w:=by
 cases he:(([10]:List UInt8)==s.toList)
 ·go_enter func209,ntmps209
  go_wp2_with fail;refine(CH s 10 _).mono ?_;rintro e w' ⟨rfl,rfl⟩;go_wp2_with fail;go_ret;exact⟨rfl,rfl⟩
 ·go_enter func209,ntmps209
  have HE:=aa (show Lib.indexByte s.data.toList 10=0 by rw[<-Lib.toList_data,<-(beq_iff_eq.1 he)];rfl);go_wp2_with fail;go_ret;exact⟨dx (by rw[HE.o]),rfl⟩
theorem Aj:∀(l:List UInt8),(Lib.indexByte l 10= -1/\l.dropWhile (· !=10)=[])\/∃i:Nat,Lib.indexByte l 10=i/\i<l.length/\(l.dropWhile (· !=10)).drop 1=l.drop (i+1)
 |[]=>Or.inl ⟨rfl,rfl⟩
 |c::l=>by
  by_cases h:c=10
  ·subst h;exact Or.inr ⟨0,rfl,by simp,by simp⟩
  ·have e:Lib.indexByte (c::l) 10=if Lib.indexByte l 10== -1 then -1 else Lib.indexByte l 10+1:=by
    rw[Lib.indexByte,K8 (by simpa using h)]
   rw[List.dropWhile_cons_of_pos (by simpa using h),e];rcases Aj l with⟨h1,h2⟩|⟨i,h1,h2,h3⟩
   ·exact Or.inl ⟨by rw[h1];rfl,h2⟩
   ·refine Or.inr ⟨i+1,?_,by simp;omega,by rw[h3];rfl⟩
    rw[h1,K8 (by simp)];omega
theorem I9(s:Ls)(w:World)(hs:s.size<=100000):
 Calls prog 190 #[.string s,.string ⟨#[10]⟩] w fun e w'=>∃b a f,e=.returned (.tuple #[.string b,.string a,.bool f])/\a.data.toList=(s.data.toList.dropWhile (· !=10)).drop 1/\Lt w w':=by
 rcases Aj s.data.toList with⟨h1,h2⟩|⟨i,h1,h2,h3⟩
 ·have H1:=aa h1
  have H2:=aa h2;clear h1 h2;go_enter func190,ntmps190;go_wp2_with fail;refine(Cu s _ hs).mono ?_;rw[H1.o];rintro e w' ⟨rfl,rfl⟩;go_wp2_with fail;go_ret3;exact⟨_,_,_,rfl,by rw[H2.o];rfl,KL _ _⟩
 ·have H1:=aa h1
  have H3:=aa h3;have hi:i<s.size:=h2;clear h1 h2 h3;go_enter func190,ntmps190;go_wp2_with fail;refine(Cu s _ hs).mono ?_;rw[H1.o];rintro e w' ⟨rfl,rfl⟩;go_wp2_with fail;go_region;all_goals(try go_wp2)
  all_goals go_ret3
  all_goals exact⟨_,_,_,rfl,by rw[H3.o,Lib.extract_data,KW (by simp)],by first|exact KL _ _|exact(KL _ _).drew⟩
theorem G6(s:Ls)(w:World)(hs:s.size<=100000):
 Calls prog 157 #[.string s,.string ⟨#[10]⟩] w fun e w'=>∃b a f,e=.returned (.tuple #[.string b,.string a,.bool f])/\a.data.toList=(s.data.toList.dropWhile (· !=10)).drop 1/\Lt w w':=by
 go_enter func157,ntmps157;go_wp2_with fail;refine(I9 s _ hs).mono ?_;rintro e w' ⟨b,a,f,rfl,ha,hb⟩;have HA:=aa ha;have HB:=aa hb;clear ha hb;go_wp2_with fail;go_ret3;exact⟨_,_,_,rfl,HA.o,HB.o⟩
def vc:Value->Nat
 | .string t=>t.size
 |_=>0
theorem OB(t:Ls):vc (.string t)=t.size:=rfl
def sC(t:Ls):Prop:=t.size=0\/∃h:0<t.size,aw eZ t[0]=false/\¬t[0]=35
theorem kJ(t:Ls)(h:0<t.size):t.data.toList=t[0]::(t.extract 1 t.size).data.toList:=by
 have:=eQ t 0 h;rw[List.drop_zero]at this;rw[this,Lib.extract_data,KW (by simp)]
theorem pJ(c:UInt8):aw eZ c=true↔c=32\/c=9\/c=13\/c=10\/c=44:=by
 simp[aw,eZ]
theorem GI(r:List UInt8):bG (35::r)=bG ((r.dropWhile (· !=10)).drop 1):=by
 rw[BN];cases h:r.dropWhile (· !=10)with
 |nil=>rfl
 |cons a l=>
  have:a=10:=by
   have:=List.head?_dropWhile_not (· !=10) r;rw[h]at this;simpa using this
  subst this;rw[oX _ _ (by decide)];rfl
theorem Br(t:Ls)(h:0<t.size):t.toList.isEmpty=false:=by
 rw[Lib.toList_data,kJ t h];rfl
theorem Ac(t:Ls)(h:¬0<t.size):t.toList.isEmpty=true:=by
 rw[Lib.toList_data,KZ (show t.data.toList.length=0 by show t.size=0;omega)];rfl
theorem yZ(s:Ls)(w:World)(hs:s.size<=100000):
 Calls prog 123 #[.string s] w fun e w'=>∃t,e=.returned (.string t)/\sC t/\t.size<=s.size/\bG s.data.toList=bG t.data.toList/\Lt w w':=by
 go_enter func123,ntmps123;go_wp2_with fail
 go_loopw [0] (fun v wr=>∃t:Ls,v=.string t/\t.size<=s.size/\bG s.data.toList=bG t.data.toList/\Lt w wr) (fun v _=>vc v)
 case atStart=>exact⟨s,rfl,KK _,rfl,KL _ _⟩
 case round=>
  obtain⟨t,rfl,hts,hrr,LN⟩:=hrel;have HR:=aa hrr;clear hrr;by_cases h0:0<t.size
  ·have hne:=Br t h0
   cases g32:((t[0].toNat:Int)==32)
   ·cases g9:((t[0].toNat:Int)==9)
    ·cases g13:((t[0].toNat:Int)==13)
     ·cases g10:((t[0].toNat:Int)==10)
      ·cases g44:((t[0].toNat:Int)==44)
       ·have nb:=aa (show aw eZ t[0]=false from by
         cases hx:aw eZ t[0]
         ·rfl
         ·rcases(pJ _).1 hx with e|e|e|e|e
          ·rw[e]at g32;simp at g32
          ·rw[e]at g9;simp at g9
          ·rw[e]at g13;simp at g13
          ·rw[e]at g10;simp at g10
          ·rw[e]at g44;simp at g44)
        cases g35:((t[0].toNat:Int)==35)
        ·have n35:=aa (show¬t[0]=35 from by intro e;rw[e]at g35;simp at g35)
         go_wp2_with fail;go_ret;exact⟨t,rfl,Or.inr ⟨h0,nb.o,n35.o⟩,hts,HR.o,LN⟩
        ·have e35:=aa (show t[0]=35 from fp (by simpa using g35))
         go_wp2_with fail;refine(G6 t _ (by omega)).mono ?_;rintro e w1 ⟨b,a,f,rfl,ha,hb1⟩;have HA:=aa ha;have hsz:a.size<t.size:=by
          have h1:a.size=a.data.toList.length:=rfl;have h2:=sG (· !=10) t.data.toList;have h3:t.data.toList.length=t.size:=rfl;rw[h1,ha,List.length_drop];omega
         have hb2:=LN.trans (hb1.mono LN.size);clear ha hb1;go_wp2_with fail
         go_roundw
         case rel=>exact⟨a,rfl,by omega,by rw[HR.o,kJ t h0,e35.o,GI,HA.o,kJ t h0,e35.o];rfl,hb2⟩
         case measure=>simp only[OB];omega
       ·have HB:=aa (show bG t.data.toList=bG (t.extract 1 t.size).data.toList from by rw[kJ t h0];exact oX _ _ ((pJ _).2 (by rw[show t[0]=44 from fp (by simpa using g44)];decide)))
        go_wp2_with fail
        go_roundw
        case rel=>exact⟨_,rfl,by simp;omega,by rw[HR.o,HB.o],LN⟩
        case measure=>simp only[OB,ByteArray.size_extract];omega
      ·have HB:=aa (show bG t.data.toList=bG (t.extract 1 t.size).data.toList from by rw[kJ t h0];exact oX _ _ ((pJ _).2 (by rw[show t[0]=10 from fp (by simpa using g10)];decide)))
       go_wp2_with fail
       go_roundw
       case rel=>exact⟨_,rfl,by simp;omega,by rw[HR.o,HB.o],LN⟩
       case measure=>simp only[OB,ByteArray.size_extract];omega
     ·have HB:=aa (show bG t.data.toList=bG (t.extract 1 t.size).data.toList from by rw[kJ t h0];exact oX _ _ ((pJ _).2 (by rw[show t[0]=13 from fp (by simpa using g13)];decide)))
      go_wp2_with fail
      go_roundw
      case rel=>exact⟨_,rfl,by simp;omega,by rw[HR.o,HB.o],LN⟩
      case measure=>simp only[OB,ByteArray.size_extract];omega
    ·have HB:=aa (show bG t.data.toList=bG (t.extract 1 t.size).data.toList from by rw[kJ t h0];exact oX _ _ ((pJ _).2 (by rw[show t[0]=9 from fp (by simpa using g9)];decide)))
     go_wp2_with fail
     go_roundw
     case rel=>exact⟨_,rfl,by simp;omega,by rw[HR.o,HB.o],LN⟩
     case measure=>simp only[OB,ByteArray.size_extract];omega
   ·have HB:=aa (show bG t.data.toList=bG (t.extract 1 t.size).data.toList from by rw[kJ t h0];exact oX _ _ ((pJ _).2 (by rw[show t[0]=32 from fp (by simpa using g32)];decide)))
    go_wp2_with fail
    go_roundw
    case rel=>exact⟨_,rfl,by simp;omega,by rw[HR.o,HB.o],LN⟩
    case measure=>simp only[OB,ByteArray.size_extract];omega
  ·have hne:=Ac t h0
   go_wp2_with fail;go_ret;exact⟨t,rfl,Or.inl (by omega),hts,HR.o,LN⟩
theorem tv:∀(l:List UInt8) (o:Ls) (c:UInt8),l[ay l o]?=some c->aw o c=false
 |[],_,_,h=>by simp at h
 |a::l,o,c,h=>by
  by_cases ha:aw o a=true
  ·have e:ay (a::l) o=ay l o+1:=by simp[ay,ha]
   rw[e]at h;exact tv l o c (by simpa using h)
  ·have e:ay (a::l) o=0:=by simp[ay,ha]
   rw[e]at h;simp at h;rw[<-h];simpa using ha
theorem AX(l:List UInt8)(o:Ls)(i:Nat)(c:UInt8)(hi:i<ay l o)(h:l[i]?=some c):aw o c=true:=by
 refine sJ l o c ?_;have:(l.take (ay l o))[i]?=some c:=by rw[List.getElem?_take_of_lt hi];exact h
 exact KN this
theorem zi:∀(l:List UInt8) (o p:Ls),(∀c,aw o c=true->aw p c=true)->ay l o<=ay l p
 |[],_,_,_=>by simp[ay]
 |a::l,o,p,h=>by
  by_cases ha:aw o a=true
  ·have e1:ay (a::l) o=ay l o+1:=by simp[ay,ha]
   have e2:ay (a::l) p=ay l p+1:=by simp[ay,h a ha]
   have:=zi l o p h;omega
  ·have e:ay (a::l) o=0:=by simp[ay,ha]
   omega
theorem sS(c:UInt8):aw bm c=(aw bu c||aw dm c):=by
 have h:∀i:Fin 256,aw bm (UInt8.ofFin i)=(aw bu (UInt8.ofFin i)||aw dm (UInt8.ofFin i)):=by decide+kernel
 exact h c.toFin
theorem C2(d:List UInt8):ay d bu<=ay d bm/\(ay d bu<ay d bm->0<ay (d.drop (ay d bu)) dm)/\(ay d bu=ay d bm->ay (d.drop (ay d bu)) dm=0):=by
 have h1:=zi d bu bm (fun c hc=>by rw[sS,hc];rfl);have hl:=lK d bm;refine⟨h1,?_,?_⟩
 ·intro h
  obtain⟨c,hc⟩:∃c,d[ay d bu]?=some c:=⟨_,KM (by omega)⟩;have a1:=tv d bu c hc;have a2:=AX d bm _ c h hc;rw[sS,a1,Bool.false_or]at a2;have e:d.drop (ay d bu)=c::d.drop (ay d bu+1):=by
   rw[Lq (by omega)];congr 1;have:=KM (l:=d) (i:=ay d bu) (by omega);rw[this]at hc;exact KY hc
  rw[e];simp[ay,a2]
 ·intro h
  cases hx:d.drop (ay d bu)with
  |nil=>rfl
  |cons c r=>
   have hc:d[ay d bm]?=some c:=by
    rw[<-h];have:=congrArg List.head? hx;rw[List.head?_drop]at this;exact this
   have a2:=tv d bm c hc;rw[sS]at a2;have:aw dm c=false:=by revert a2;cases aw dm c<;>simp
   simp[ay,this]
theorem Ai(l:List UInt8)(sg:Nat)(hsg:sg=if l.head?=some 45 then 1 else 0):
 ch l=if ay (l.drop sg) bu<1\/9<ay (l.drop sg) bu\/0<ay ((l.drop sg).drop (ay (l.drop sg) bu)) dm\/(1<ay (l.drop sg) bu/\(l.drop sg).head?=some 48)then none
  else some (if sg=1 then-bv ((l.drop sg).take (ay (l.drop sg) bu)) 0 else bv ((l.drop sg).take (ay (l.drop sg) bu)) 0,sg+ay (l.drop sg) bu):=by
 subst hsg;unfold ch;simp only[List.drop_drop]
theorem mL(l:List UInt8)(sg:Nat)(hsg:sg=if l.head?=some 45 then 1 else 0)(h:ay (l.drop sg) bm=0\/9<ay (l.drop sg) bm\/(1<ay (l.drop sg) bm/\(l.drop sg).head?=some 48)\/∃j c,j<ay (l.drop sg) bm/\(l.drop sg)[j]?=some c/\aw bu c=false):ch l=none:=by
 rw[Ai l sg hsg];obtain⟨r1,r2,r3⟩:=C2 (l.drop sg);rw[K9];rcases h with h|h|h|⟨j,c,h1,h2,h3⟩
 ·omega
 ·by_cases e:ay (l.drop sg) bu=ay (l.drop sg) bm
  ·omega
  ·have:=r2 (by omega);omega
 ·by_cases e:ay (l.drop sg) bu=ay (l.drop sg) bm
  ·exact Or.inr (Or.inr (Or.inr ⟨by omega,h.2⟩))
  ·have:=r2 (by omega);omega
 ·have e:ay (l.drop sg) bu<ay (l.drop sg) bm:=by
   by_cases e:ay (l.drop sg) bu=ay (l.drop sg) bm
   ·have:=AX (l.drop sg) bu j c (by omega) h2
    rw[h3]at this;cases this
   ·omega
  have:=r2 e;omega
theorem tW(l:List UInt8)(sg:Nat)(hsg:sg=if l.head?=some 45 then 1 else 0)(h1:0<ay (l.drop sg) bm)(h2:ay (l.drop sg) bm<=9)(h3:¬(1<ay (l.drop sg) bm/\(l.drop sg).head?=some 48))(h4:∀c∈(l.drop sg).take (ay (l.drop sg) bm),aw bu c=true):
 ch l=some (if sg=1 then-bv ((l.drop sg).take (ay (l.drop sg) bm)) 0 else bv ((l.drop sg).take (ay (l.drop sg) bm)) 0,sg+ay (l.drop sg) bm):=by
 rw[Ai l sg hsg];obtain⟨r1,r2,r3⟩:=C2 (l.drop sg);have hl:=lK (l.drop sg) bm;have e:ay (l.drop sg) bu=ay (l.drop sg) bm:=by
  rcases Nat.lt_or_ge (ay (l.drop sg) bu) (ay (l.drop sg) bm)with h|h
  ·exfalso
   obtain⟨c,hc⟩:∃c,(l.drop sg)[ay (l.drop sg) bu]?=some c:=⟨_,KM (by omega)⟩;have a1:=tv _ bu c hc;have:c∈(l.drop sg).take (ay (l.drop sg) bm):=by
    have:((l.drop sg).take (ay (l.drop sg) bm))[ay (l.drop sg) bu]?=some c:=by rw[List.getElem?_take_of_lt h];exact hc
    exact KN this
   rw[h4 c this]at a1;cases a1
  ·omega
 have m0:=r3 e;have hn:¬(ay (l.drop sg) bu<1\/9<ay (l.drop sg) bu\/0<ay ((l.drop sg).drop (ay (l.drop sg) bu)) dm\/(1<ay (l.drop sg) bu/\(l.drop sg).head?=some 48)):=by
  rw[m0,e];rintro(x|x|x|x)
  ·omega
  ·omega
  ·omega
  ·exact h3 x
 rw[K8 hn,e]
theorem qX(d:Ls)(k:Nat):(d.extract 0 k).data.toList=d.data.toList.take k:=by
 rw[Lib.extract_data];simp
def kj(s:Ls):Ls:=if s.data.toList.head?=some 45 then s.extract 1 s.size else s
theorem Ae(s:Ls):((s.extract 0 1).toList==[45])=decide (s.data.toList.head?=some 45):=by
 rw[Lib.toList_data,qX];cases s.data.toList with
 |nil=>rfl
 |cons a l=>rw[Bool.eq_iff_iff];simp
theorem AB(s:Ls)(w:World)(h:0<s.size)(hs:s.size<=100000):
 Calls prog 191 #[.string s,.string ⟨#[45]⟩] w fun e w'=>e=.returned (.string (kj s))/\w'=w:=by
 have h1:1<=(s.size:Int):=by omega
 cases hm:((s.extract 0 1).toList==[45])
 ·have HE:=aa (show kj s=s from by unfold kj;rw[K8 (by simpa [Ae]using hm)])
  go_enter func191,ntmps191
  go_wp2
  go_ret;exact⟨by rw[HE.o];rfl,rfl⟩
 ·have HE:=aa (show kj s=s.extract 1 s.size from by unfold kj;rw[K9 (by simpa [Ae]using hm)])
  go_enter func191,ntmps191
  go_wp2
  go_ret;exact⟨by rw[HE.o];rfl,rfl⟩
theorem yU(s:Ls)(sg:Nat)(hsg:sg=if s.data.toList.head?=some 45 then 1 else 0):(kj s).data.toList=s.data.toList.drop sg:=by
 subst hsg;unfold kj;split
 ·rw[Lib.extract_data,KW (by simp)]
 ·simp
theorem zF(g:Ls)(h:0<g.size):((g[0].toNat:Int)==48)=decide (g.data.toList.head?=some 48):=by
 rw[kJ g h,sl];simp
theorem tS(g:Ls)(j:Nat)(h:j<g.size):g.data.toList.take (j+1)=g.data.toList.take j++[g[j]]:=AL g j h
theorem ti(g:Ls)(j:Nat)(h:j<g.size):g.data.toList[j]?=some g[j]:=by
 rw[KM (by simpa using h)];rfl
theorem Gz(s:Ls)(w:World)(h:0<s.size)(hs:s.size<=100000):
 Calls prog 159 #[.string s] w fun e w'=>e=.returned (bF (ch s.data.toList))/\Lt w w':=by
 generalize hq:bF (ch s.data.toList)=q;have HQ:=aa hq;clear hq;have hsg0:s.data.toList.head?=some s[0]:=by rw[kJ s h];rfl
 cases hsg:((s[0].toNat:Int)==45)
 ·have HG:=aa (show 0=if s.data.toList.head?=some 45 then 1 else 0 from by simpa [pS,hsg0]using hsg)
  have hdd:=yU s 0 HG.o;have hdz:(kj s).size<=s.size:=by
   have h1:(kj s).size=(kj s).data.toList.length:=rfl;have h2:s.size=s.data.toList.length:=rfl;rw[h1,h2,hdd];simp
  go_enter func159,ntmps159;go_wp2_with fail;refine(AB s _ h hs).mono ?_;rintro e w' ⟨rfl,rfl⟩;generalize kj s=d at*;have HD:=aa hdd;clear hdd;have hkl:=lK d.data.toList bm;rw[Array.length_toList,show d.data.size=d.size from rfl]at hkl;generalize hk:ay d.data.toList bm=k at*;have HK:=aa hk;go_wp2_with fail;refine(wE d _ (by omega)).mono ?_;rw[hk];rintro e w' ⟨rfl,rfl⟩;clear hk;obtain⟨g,hg⟩:∃g,d.extract 0 k=g:=⟨_,rfl⟩;have hgs:g.size=k:=by rw[<-hg];simp;omega
  have HT:=aa (show g.data.toList=d.data.toList.take k from by rw[<-hg,qX]);by_cases c1:k=0
  ·have c1':((k:Int)==0)=true:=by simp;omega
   have HX:=aa (show ch s.data.toList=none from mL _ 0 HG.o (by rw[<-HD.o,HK.o];exact Or.inl c1));go_wp2_with fail;refine bodyPost_ret (v:=bF none) (by simp[results,results159,go_sem,bF]) rfl ⟨by rw[<-HQ.o,HX.o],(KL _ _).alloc (KK _) _⟩
  have c1':((k:Int)==0)=false:=by simp;omega
  by_cases c2:9<k
  ·have HX:=aa (show ch s.data.toList=none from mL _ 0 HG.o (by rw[<-HD.o,HK.o];exact Or.inr (Or.inl c2)))
   go_wp2_with fail;refine bodyPost_ret (v:=bF none) (by simp[results,results159,go_sem,bF]) rfl ⟨by rw[<-HQ.o,HX.o],(KL _ _).alloc (KK _) _⟩
  have hg0:0<g.size:=by omega
  have hz0:=zF g hg0;have HZ:=aa (show g.data.toList.head?=d.data.toList.head? from by rw[HT.o,List.head?_take,K8 c1]);by_cases c3:1<k
  ·cases hz:((g[0].toNat:Int)==48)
   ·have H0:=aa (show¬(1<k/\d.data.toList.head?=some 48)from by rw[<-HZ.o];rw[hz0]at hz;intro x;simp[x.2]at hz)
    clear hz0;go_wp2_with fail;go_loop [5,34] (fun v i=>∃j:Nat,j<=k/\i=.int .i64 j/\v=.int .i64 (bv (g.data.toList.take j) 0)/\∀c∈g.data.toList.take j,aw bu c=true) (fun _ i=>k-(intOf i).toNat)
    case atStart=>exact⟨0,KU _,rfl,by simp[bv],by simp⟩
    case round=>
     obtain⟨j,hj,rfl,rfl,LZ⟩:=hrel;have hb:=qT (g.data.toList.take j) LZ 9 (by have:=List.length_take_le j g.data.toList;omega);have hb2:bv (g.data.toList.take j) 0<1000000000:=hb.2;have hb1:=hb.1;have HA:=aa LZ;clear LZ hb;by_cases hlt:j<k
     ·have hjg:j<g.size:=by omega
      have HS:=aa (tS g j hjg);cases hdg:aw bu g[j]
      ·have HX:=aa (show ch s.data.toList=none from mL _ 0 HG.o (by rw[<-HD.o,HK.o];exact Or.inr (Or.inr (Or.inr ⟨j,g[j],hlt,by rw[<-ti g j hjg,HT.o,List.getElem?_take_of_lt hlt],hdg⟩))))
       go_wp2_with (go_at_call 158;refine(fC _ _).mono ?_;rintro e w' ⟨rfl,rfl⟩);refine bodyPost_ret (v:=bF none) (by simp[results,results159,go_sem,bF]) rfl ⟨by rw[<-HQ.o,HX.o],(KL _ _).alloc (KK _) _⟩
      ·have hd:=(nZ _).1 hdg
       have hd1:=hd.1;have hd2:=hd.2;clear hd;have HN:=aa (show bv (g.data.toList.take (j+1)) 0=bv (g.data.toList.take j) 0*10+((g[j].toNat:Int)-48)from by rw[HS.o,rj];omega);have HA2:=aa (show∀c∈g.data.toList.take (j+1),aw bu c=true from by
        rw[HS.o];intro c hc;rcases List.mem_append.1 hc with x|x
        ·exact HA.o c x
        ·simp at x;rw[x];exact hdg)
       generalize hv:bv (g.data.toList.take j) 0=v at*;clear hv;go_wp2_with (go_at_call 158;refine(fC _ _).mono ?_;rintro e w' ⟨rfl,rfl⟩)
       go_round
       case rel=>exact⟨j+1,by omega,by go_num,by rw[HN.o],HA2.o⟩
       case measure=>simp[intOf];omega
     ·have e:j=k:=by omega
      subst e;have HE:=aa (show ch s.data.toList=some (bv (g.data.toList.take j) 0,0+j)from by
       rw[tW _ 0 HG.o (by rw[<-HD.o,HK.o];omega) (by rw[<-HD.o,HK.o];omega) (by rw[<-HD.o,HK.o];exact H0.o) (by rw[<-HD.o,HK.o,<-HT.o];intro c hc;exact HA.o c (by rw[KW (by show g.size<=j;omega)];exact hc)),<-HD.o,HK.o];rw[K8 (by decide)];rw[HT.o,List.take_take,Nat.min_self])
      generalize hv:bv (g.data.toList.take j) 0=v at*;clear hv;go_wp2_with fail;refine bodyPost_ret (v:=bF (some (v,0+j))) (by simp[results,results159,go_sem,bF]) rfl ⟨by rw[<-HQ.o,HE.o],(KL _ _).alloc (KK _) _⟩
   ·have H0:=aa (show 1<k/\d.data.toList.head?=some 48 from⟨c3,by rw[<-HZ.o];rw[hz0]at hz;simpa using hz⟩)
    clear hz0;have HX:=aa (show ch s.data.toList=none from mL _ 0 HG.o (by rw[<-HD.o,HK.o];exact Or.inr (Or.inr (Or.inl H0.o))));go_wp2_with fail;refine bodyPost_ret (v:=bF none) (by simp[results,results159,go_sem,bF]) rfl ⟨by rw[<-HQ.o,HX.o],(KL _ _).alloc (KK _) _⟩
  ·have H0:=aa (show¬(1<k/\d.data.toList.head?=some 48)from fun x=>c3 x.1)
   clear hz0;go_wp2_with fail;go_loop [5,34] (fun v i=>∃j:Nat,j<=k/\i=.int .i64 j/\v=.int .i64 (bv (g.data.toList.take j) 0)/\∀c∈g.data.toList.take j,aw bu c=true) (fun _ i=>k-(intOf i).toNat)
   case atStart=>exact⟨0,KU _,rfl,by simp[bv],by simp⟩
   case round=>
    obtain⟨j,hj,rfl,rfl,LZ⟩:=hrel;have hb:=qT (g.data.toList.take j) LZ 9 (by have:=List.length_take_le j g.data.toList;omega);have hb2:bv (g.data.toList.take j) 0<1000000000:=hb.2;have hb1:=hb.1;have HA:=aa LZ;clear LZ hb;by_cases hlt:j<k
    ·have hjg:j<g.size:=by omega
     have HS:=aa (tS g j hjg);cases hdg:aw bu g[j]
     ·have HX:=aa (show ch s.data.toList=none from mL _ 0 HG.o (by rw[<-HD.o,HK.o];exact Or.inr (Or.inr (Or.inr ⟨j,g[j],hlt,by rw[<-ti g j hjg,HT.o,List.getElem?_take_of_lt hlt],hdg⟩))))
      go_wp2_with (go_at_call 158;refine(fC _ _).mono ?_;rintro e w' ⟨rfl,rfl⟩);refine bodyPost_ret (v:=bF none) (by simp[results,results159,go_sem,bF]) rfl ⟨by rw[<-HQ.o,HX.o],(KL _ _).alloc (KK _) _⟩
     ·have hd:=(nZ _).1 hdg
      have hd1:=hd.1;have hd2:=hd.2;clear hd;have HN:=aa (show bv (g.data.toList.take (j+1)) 0=bv (g.data.toList.take j) 0*10+((g[j].toNat:Int)-48)from by rw[HS.o,rj];omega);have HA2:=aa (show∀c∈g.data.toList.take (j+1),aw bu c=true from by
       rw[HS.o];intro c hc;rcases List.mem_append.1 hc with x|x
       ·exact HA.o c x
       ·simp at x;rw[x];exact hdg)
      generalize hv:bv (g.data.toList.take j) 0=v at*;clear hv;go_wp2_with (go_at_call 158;refine(fC _ _).mono ?_;rintro e w' ⟨rfl,rfl⟩)
      go_round
      case rel=>exact⟨j+1,by omega,by go_num,by rw[HN.o],HA2.o⟩
      case measure=>simp[intOf];omega
    ·have e:j=k:=by omega
     subst e;have HE:=aa (show ch s.data.toList=some (bv (g.data.toList.take j) 0,0+j)from by
      rw[tW _ 0 HG.o (by rw[<-HD.o,HK.o];omega) (by rw[<-HD.o,HK.o];omega) (by rw[<-HD.o,HK.o];exact H0.o) (by rw[<-HD.o,HK.o,<-HT.o];intro c hc;exact HA.o c (by rw[KW (by show g.size<=j;omega)];exact hc)),<-HD.o,HK.o];rw[K8 (by decide)];rw[HT.o,List.take_take,Nat.min_self])
     generalize hv:bv (g.data.toList.take j) 0=v at*;clear hv;go_wp2_with fail;refine bodyPost_ret (v:=bF (some (v,0+j))) (by simp[results,results159,go_sem,bF]) rfl ⟨by rw[<-HQ.o,HE.o],(KL _ _).alloc (KK _) _⟩
 ·have HG:=aa (show 1=if s.data.toList.head?=some 45 then 1 else 0 from by simpa [pS,hsg0]using hsg)
  have hdd:=yU s 1 HG.o;have hdz:(kj s).size<=s.size:=by
   have h1:(kj s).size=(kj s).data.toList.length:=rfl;have h2:s.size=s.data.toList.length:=rfl;rw[h1,h2,hdd];simp
  go_enter func159,ntmps159;go_wp2_with fail;refine(AB s _ h hs).mono ?_;rintro e w' ⟨rfl,rfl⟩;generalize kj s=d at*;have HD:=aa hdd;clear hdd;have hkl:=lK d.data.toList bm;rw[Array.length_toList,show d.data.size=d.size from rfl]at hkl;generalize hk:ay d.data.toList bm=k at*;have HK:=aa hk;go_wp2_with fail;refine(wE d _ (by omega)).mono ?_;rw[hk];rintro e w' ⟨rfl,rfl⟩;clear hk;obtain⟨g,hg⟩:∃g,d.extract 0 k=g:=⟨_,rfl⟩;have hgs:g.size=k:=by rw[<-hg];simp;omega
  have HT:=aa (show g.data.toList=d.data.toList.take k from by rw[<-hg,qX]);by_cases c1:k=0
  ·have c1':((k:Int)==0)=true:=by simp;omega
   have HX:=aa (show ch s.data.toList=none from mL _ 1 HG.o (by rw[<-HD.o,HK.o];exact Or.inl c1));go_wp2_with fail;refine bodyPost_ret (v:=bF none) (by simp[results,results159,go_sem,bF]) rfl ⟨by rw[<-HQ.o,HX.o],(KL _ _).alloc (KK _) _⟩
  have c1':((k:Int)==0)=false:=by simp;omega
  by_cases c2:9<k
  ·have HX:=aa (show ch s.data.toList=none from mL _ 1 HG.o (by rw[<-HD.o,HK.o];exact Or.inr (Or.inl c2)))
   go_wp2_with fail;refine bodyPost_ret (v:=bF none) (by simp[results,results159,go_sem,bF]) rfl ⟨by rw[<-HQ.o,HX.o],(KL _ _).alloc (KK _) _⟩
  have hg0:0<g.size:=by omega
  have hz0:=zF g hg0;have HZ:=aa (show g.data.toList.head?=d.data.toList.head? from by rw[HT.o,List.head?_take,K8 c1]);by_cases c3:1<k
  ·cases hz:((g[0].toNat:Int)==48)
   ·have H0:=aa (show¬(1<k/\d.data.toList.head?=some 48)from by rw[<-HZ.o];rw[hz0]at hz;intro x;simp[x.2]at hz)
    clear hz0;go_wp2_with fail;go_loop [5,34] (fun v i=>∃j:Nat,j<=k/\i=.int .i64 j/\v=.int .i64 (bv (g.data.toList.take j) 0)/\∀c∈g.data.toList.take j,aw bu c=true) (fun _ i=>k-(intOf i).toNat)
    case atStart=>exact⟨0,KU _,rfl,by simp[bv],by simp⟩
    case round=>
     obtain⟨j,hj,rfl,rfl,LZ⟩:=hrel;have hb:=qT (g.data.toList.take j) LZ 9 (by have:=List.length_take_le j g.data.toList;omega);have hb2:bv (g.data.toList.take j) 0<1000000000:=hb.2;have hb1:=hb.1;have HA:=aa LZ;clear LZ hb;by_cases hlt:j<k
     ·have hjg:j<g.size:=by omega
      have HS:=aa (tS g j hjg);cases hdg:aw bu g[j]
      ·have HX:=aa (show ch s.data.toList=none from mL _ 1 HG.o (by rw[<-HD.o,HK.o];exact Or.inr (Or.inr (Or.inr ⟨j,g[j],hlt,by rw[<-ti g j hjg,HT.o,List.getElem?_take_of_lt hlt],hdg⟩))))
       go_wp2_with (go_at_call 158;refine(fC _ _).mono ?_;rintro e w' ⟨rfl,rfl⟩);refine bodyPost_ret (v:=bF none) (by simp[results,results159,go_sem,bF]) rfl ⟨by rw[<-HQ.o,HX.o],(KL _ _).alloc (KK _) _⟩
      ·have hd:=(nZ _).1 hdg
       have hd1:=hd.1;have hd2:=hd.2;clear hd;have HN:=aa (show bv (g.data.toList.take (j+1)) 0=bv (g.data.toList.take j) 0*10+((g[j].toNat:Int)-48)from by rw[HS.o,rj];omega);have HA2:=aa (show∀c∈g.data.toList.take (j+1),aw bu c=true from by
        rw[HS.o];intro c hc;rcases List.mem_append.1 hc with x|x
        ·exact HA.o c x
        ·simp at x;rw[x];exact hdg)
       generalize hv:bv (g.data.toList.take j) 0=v at*;clear hv;go_wp2_with (go_at_call 158;refine(fC _ _).mono ?_;rintro e w' ⟨rfl,rfl⟩)
       go_round
       case rel=>exact⟨j+1,by omega,by go_num,by rw[HN.o],HA2.o⟩
       case measure=>simp[intOf];omega
     ·have e:j=k:=by omega
      subst e;have HE:=aa (show ch s.data.toList=some (-bv (g.data.toList.take j) 0,1+j)from by
       rw[tW _ 1 HG.o (by rw[<-HD.o,HK.o];omega) (by rw[<-HD.o,HK.o];omega) (by rw[<-HD.o,HK.o];exact H0.o) (by rw[<-HD.o,HK.o,<-HT.o];intro c hc;exact HA.o c (by rw[KW (by show g.size<=j;omega)];exact hc)),<-HD.o,HK.o];rw[K9 rfl];rw[HT.o,List.take_take,Nat.min_self])
      generalize hv:bv (g.data.toList.take j) 0=v at*;clear hv;go_wp2_with fail;refine bodyPost_ret (v:=bF (some (-v,1+j))) (by simp[results,results159,go_sem,bF];omega) rfl ⟨by rw[<-HQ.o,HE.o],(KL _ _).alloc (KK _) _⟩
   ·have H0:=aa (show 1<k/\d.data.toList.head?=some 48 from⟨c3,by rw[<-HZ.o];rw[hz0]at hz;simpa using hz⟩)
    clear hz0;have HX:=aa (show ch s.data.toList=none from mL _ 1 HG.o (by rw[<-HD.o,HK.o];exact Or.inr (Or.inr (Or.inl H0.o))));go_wp2_with fail;refine bodyPost_ret (v:=bF none) (by simp[results,results159,go_sem,bF]) rfl ⟨by rw[<-HQ.o,HX.o],(KL _ _).alloc (KK _) _⟩
  ·have H0:=aa (show¬(1<k/\d.data.toList.head?=some 48)from fun x=>c3 x.1)
   clear hz0;go_wp2_with fail;go_loop [5,34] (fun v i=>∃j:Nat,j<=k/\i=.int .i64 j/\v=.int .i64 (bv (g.data.toList.take j) 0)/\∀c∈g.data.toList.take j,aw bu c=true) (fun _ i=>k-(intOf i).toNat)
   case atStart=>exact⟨0,KU _,rfl,by simp[bv],by simp⟩
   case round=>
    obtain⟨j,hj,rfl,rfl,LZ⟩:=hrel;have hb:=qT (g.data.toList.take j) LZ 9 (by have:=List.length_take_le j g.data.toList;omega);have hb2:bv (g.data.toList.take j) 0<1000000000:=hb.2;have hb1:=hb.1;have HA:=aa LZ;clear LZ hb;by_cases hlt:j<k
    ·have hjg:j<g.size:=by omega
     have HS:=aa (tS g j hjg);cases hdg:aw bu g[j]
     ·have HX:=aa (show ch s.data.toList=none from mL _ 1 HG.o (by rw[<-HD.o,HK.o];exact Or.inr (Or.inr (Or.inr ⟨j,g[j],hlt,by rw[<-ti g j hjg,HT.o,List.getElem?_take_of_lt hlt],hdg⟩))))
      go_wp2_with (go_at_call 158;refine(fC _ _).mono ?_;rintro e w' ⟨rfl,rfl⟩);refine bodyPost_ret (v:=bF none) (by simp[results,results159,go_sem,bF]) rfl ⟨by rw[<-HQ.o,HX.o],(KL _ _).alloc (KK _) _⟩
     ·have hd:=(nZ _).1 hdg
      have hd1:=hd.1;have hd2:=hd.2;clear hd;have HN:=aa (show bv (g.data.toList.take (j+1)) 0=bv (g.data.toList.take j) 0*10+((g[j].toNat:Int)-48)from by rw[HS.o,rj];omega);have HA2:=aa (show∀c∈g.data.toList.take (j+1),aw bu c=true from by
       rw[HS.o];intro c hc;rcases List.mem_append.1 hc with x|x
       ·exact HA.o c x
       ·simp at x;rw[x];exact hdg)
      generalize hv:bv (g.data.toList.take j) 0=v at*;clear hv;go_wp2_with (go_at_call 158;refine(fC _ _).mono ?_;rintro e w' ⟨rfl,rfl⟩)
      go_round
      case rel=>exact⟨j+1,by omega,by go_num,by rw[HN.o],HA2.o⟩
      case measure=>simp[intOf];omega
    ·have e:j=k:=by omega
     subst e;have HE:=aa (show ch s.data.toList=some (-bv (g.data.toList.take j) 0,1+j)from by
      rw[tW _ 1 HG.o (by rw[<-HD.o,HK.o];omega) (by rw[<-HD.o,HK.o];omega) (by rw[<-HD.o,HK.o];exact H0.o) (by rw[<-HD.o,HK.o,<-HT.o];intro c hc;exact HA.o c (by rw[KW (by show g.size<=j;omega)];exact hc)),<-HD.o,HK.o];rw[K9 rfl];rw[HT.o,List.take_take,Nat.min_self])
     generalize hv:bv (g.data.toList.take j) 0=v at*;clear hv;go_wp2_with fail;refine bodyPost_ret (v:=bF (some (-v,1+j))) (by simp[results,results159,go_sem,bF];omega) rfl ⟨by rw[<-HQ.o,HE.o],(KL _ _).alloc (KK _) _⟩
def cu:Obj:=.cells #[.int .i64 0,.string ⟨#[]⟩,.int .i64 0] 223
theorem Du(s:Ls)(w:World)(h:kF s.data.toList=none):Calls prog 192 #[.string s] w fun e w'=>e=.returned (.int .u8 0)/\w'=w:=by
 have:=Au s w;rw[h]at this;exact this
theorem Ft(s:Ls)(c:UInt8)(w:World)(h:kF s.data.toList=some c):Calls prog 192 #[.string s] w fun e w'=>e=.returned (.int .u8 c.toNat)/\w'=w:=by
 have:=Au s w;rw[h]at this;exact this
theorem uR(s:Ls)(k:Nat):(s.extract k s.size).data.toList=s.data.toList.drop k:=by
 rw[Lib.extract_data,KW (by simp)]
theorem Dy(s:Ls)(k:Nat)(acc:List UInt8)(m:Nat)(h:k<s.size)(hc:s[k]=92)(he:kF (s.data.toList.drop (k+1))=none):cj (s.data.toList.drop k) acc m=none:=by
 by_cases hk:s.size<=k+1
 ·exact Cy s k acc m h hc hk
 ·rw[vJ s k acc m (by omega) hc]
  rw[eQ s (k+1) (by omega)]at he;simp only[kF]at he;rw[he]
theorem Ji(s:Ls)(k:Nat)(acc:List UInt8)(m:Nat)(e:UInt8)(h:k<s.size)(hc:s[k]=92)(he:kF (s.data.toList.drop (k+1))=some e):k+1<s.size/\cj (s.data.toList.drop k) acc m=cj (s.data.toList.drop (k+2)) (acc++[e]) (m+2):=by
 by_cases hk:s.size<=k+1
 ·rw[Lp (by simp;exact hk)]at he;cases he
 ·refine⟨by omega,?_⟩
  rw[vJ s k acc m (by omega) hc];rw[eQ s (k+1) (by omega)]at he;simp only[kF]at he;rw[he]
theorem DK(l:List UInt8)(e:UInt8)(he:kF l=some e):((e.toNat:Int)==0)=false:=by
 match l with
 |[]=>cases he
 |d::r=>
  simp only[kF,iA]at he;split at he
  ·cases he;rfl
  split at he
  ·cases he;rfl
  split at he
  ·cases he;rfl
  split at he
  ·cases he;rfl
  ·cases he
theorem Em(s:Ls)(w:World)(h:0<s.size)(hs:s.size<=100000):
 Calls prog 162 #[.string s] w fun e w'=>e=.returned (eJ (cj (s.data.toList.drop 1) [] 1))/\Lt w w':=by
 generalize hq:eJ (cj (s.data.toList.drop 1) [] 1)=q;have HQ:=aa hq;clear hq;obtain⟨i0,hi,hz0,hz1,hz2⟩:=info_parts info5;go_enter func162,ntmps162;go_wp2_with fail
 go_loopw [4,5] (fun v i wr=>∃(k:Nat) (acc:List UInt8),1<=k/\k<=s.size/\i=.int .i64 k/\wr.ownsRow (w.heap.size+1) 5 1 v acc.length (lC acc)/\acc.length<=k/\Below (w.heap.size+1) (w.alloc cu) wr/\cj (s.data.toList.drop 1) [] 1=cj (s.data.toList.drop k) acc k) (fun _ i _=>s.size-(intOf i).toNat)
 case atStart=>exact⟨1,[],by omega,by omega,by go_num,K7 _ _ _ _,by simp,KL _ _,rfl⟩
 case round=>
  obtain⟨k,acc,hk1,hk2,rfl,LJ,hacc,LN,hrr⟩:=hrel;have HR:=aa hrr;clear hrr;have LQ:∀j,wr.cell? ⟨w.heap.size,j,none⟩=(w.alloc cu).cell? ⟨w.heap.size,j,none⟩:=fun j=>LN.cell (by simp);have hfroz:∀j,wr.frozen? ⟨w.heap.size,j,none⟩=false:=fun j=>by rw[LN.frozen (by simp)];exact jg w _ j
  have hc0:wr.cell? ⟨w.heap.size,0,none⟩=some (.int .i64 0):=by rw[LQ];simp[cu]
  have hc1:wr.cell? ⟨w.heap.size,1,none⟩=some (.string ⟨#[]⟩):=by rw[LQ];simp[cu]
  have hc2:wr.cell? ⟨w.heap.size,2,none⟩=some (.int .i64 0):=by rw[LQ];simp[cu]
  clear LQ;have LP:Lt w wr:=((KL _ _).alloc (KK _) _).trans (LN.mono (by omega));have ME:∀x y z,Lt w (((wr.setCell ⟨w.heap.size,0,none⟩ x).setCell ⟨w.heap.size,1,none⟩ y).setCell ⟨w.heap.size,2,none⟩ z):=fun x y z=>((LP.setCell (KK _) x).setCell (KK _) y).setCell (KK _) z;have MM:w.heap.size+1<=wr.heap.size:=by have:=LN.size;simp at this;omega
  by_cases hlt:k<s.size
  ·have hx0:0<=(s[k].toNat:Int):=by omega
   have hx1:(s[k].toNat:Int)<=255:=by have:=s[k].toNat_lt;omega
   cases h34:((s[k].toNat:Int)==34)
   ·have n34:=aa (show¬s[k]=34 from by intro e;rw[e]at h34;simp at h34)
    cases h92:((s[k].toNat:Int)==92)
    ·have n92:=aa (show¬s[k]=92 from by intro e;rw[e]at h92;simp at h92)
     by_cases hlo:(s[k].toNat:Int)<32
     ·go_wp2_with fail
      refine bodyPost_ret (v:=eJ none) (by simp[results,results162,go_sem,eJ,hc0,hc1,hc2]) rfl ⟨by rw[<-HQ.o,HR.o,tZ s k _ _ hlt (Or.inl ((oo _ _).2 hlo))],ME _ _ _⟩
     by_cases hhi:126<(s[k].toNat:Int)
     ·go_wp2_with fail
      refine bodyPost_ret (v:=eJ none) (by simp[results,results162,go_sem,eJ,hc0,hc1,hc2]) rfl ⟨by rw[<-HQ.o,HR.o,tZ s k _ _ hlt (Or.inr ((oo _ _).2 hhi))],ME _ _ _⟩
     have nbad:=aa (show¬(s[k]<32\/126<s[k])from by
      rintro(x|x)
      ·exact hlo ((oo _ _).1 x)
      ·exact hhi ((oo _ _).1 x))
     have hnz:((s[k].toNat:Int)==0)=false:=by simp;omega
     have HP:=aa (Ba s k acc k hlt n34.o nbad.o n92.o);have HN:=aa (HP.o);go_wp2_with (at_builtin;refine wpList_append_own _ rfl _ _ 81 rfl (w.heap.size+1) 5 i0 (.int .u8 0) 1 1 underlying81 hi hz0 hz1 hz2 rfl (by decide) _ _ _ rfl (LJ.alloc _) ⟨wr.heap.size,0,none⟩ 1 1 [.int .u8 ↑s[k].toNat] rfl rfl (cell_one_new _ _ _) (fun u hu=>by simp at hu;subst hu;rfl) (by unfold maxLen;omega) (by omega) (by simp;omega) ?_;intro v' w1 hown' hgrow _);have L6:Below (w.heap.size+1) (w.alloc cu) w1:=Below.grown (LN.alloc (by omega) _) hgrow (by simp;omega) (fun k hk=>(LJ.lt k hk).1)
     go_roundw
     case rel=>exact⟨k+1,acc++[_],by omega,by omega,by go_num,by simpa [lC]using hown',by simp;omega,L6,by rw[HR.o,HN.o]⟩
     case measure=>simp[intOf];omega
    ·have e92:=aa (show s[k]=92 from fp (by simpa using h92))
     cases hes:kF (s.data.toList.drop (k+1))with
     |none=>
      have HP:=aa (Dy s k acc k hlt e92.o hes);have HS:=aa (show kF (s.extract (k+1) s.size).data.toList=none from by rw[uR];exact hes);clear hes;go_wp2_with fail;refine(Du _ _ HS.o).mono ?_;rintro e w' ⟨rfl,rfl⟩;go_wp2_with fail;refine bodyPost_ret (v:=eJ none) (by simp[results,results162,go_sem,eJ,hc0,hc1,hc2]) rfl ⟨by rw[<-HQ.o,HR.o,HP.o],ME _ _ _⟩
     |some x=>
      obtain⟨hk4,hp⟩:=Ji s k acc k x hlt e92.o hes;have HP:=aa hp;have hnz:=DK _ x hes;have hxb:(x.toNat:Int)<=255:=by have:=x.toNat_lt;omega
      have HS:=aa (show kF (s.extract (k+1) s.size).data.toList=some x from by rw[uR];exact hes);clear hes hp;go_wp2_with fail;refine(Ft _ x _ HS.o).mono ?_;rintro e w' ⟨rfl,rfl⟩;have HN:=aa (HP.o);go_wp2_with (at_builtin;refine wpList_append_own _ rfl _ _ 81 rfl (w.heap.size+1) 5 i0 (.int .u8 0) 1 1 underlying81 hi hz0 hz1 hz2 rfl (by decide) _ _ _ rfl (LJ.alloc _) ⟨w'.heap.size,0,none⟩ 1 1 [.int .u8 ↑x.toNat] rfl rfl (cell_one_new _ _ _) (fun u hu=>by simp at hu;subst hu;rfl) (by unfold maxLen;omega) (by omega) (by simp;omega) ?_;intro v' w1 hown' hgrow _);have L6:Below (w.heap.size+1) (w.alloc cu) w1:=Below.grown (LN.alloc (by omega) _) hgrow (by simp;omega) (fun k hk=>(LJ.lt k hk).1)
      go_roundw
      case rel=>exact⟨k+2,acc++[x],by omega,by omega,by go_num,by simpa [lC]using hown',by simp;omega,L6,by rw[HR.o,HN.o]⟩
      case measure=>simp[intOf];omega
   ·have HE:=aa (Cg s k acc k hlt (fp (by simpa using h34)))
    have hconv:=xE wr _ _ acc LJ;go_wp2_with fail;refine bodyPost_ret (v:=eJ (some (acc,k+1))) (by simp[results,results162,go_sem,eJ,hc0,hc1,hc2]) rfl ⟨by rw[<-HQ.o,HR.o,HE.o],ME _ _ _⟩
  ·go_wp2_with fail
   refine bodyPost_ret (v:=eJ none) (by simp[results,results162,go_sem,eJ,hc0,hc1,hc2]) rfl ⟨by rw[<-HQ.o,HR.o,yE s k _ _ (by omega)],ME _ _ _⟩
end Go.Proofs.YtgbloieahmkcjaaGreat
