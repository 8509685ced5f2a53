import Derived.Test.YtadneapobijejaaGreatDoorC01
import Derived.Lib.Bytealg
namespace Go.Proofs.YtadneapobijejaaGreatDoor
set_option maxHeartbeats 20000000
set_option maxRecDepth 100000
open Go.RowKit Tryz
theorem Uu(s:vD)(c:UInt8)(w:World):
 Calls prog 208 #[.string s,.int .u8 c.toNat] w fun e w'=>e=.returned (.int .i64 (Lib.indexByte s.data.toList c))/\w'=w:=by
 have hc:((c.toNat:Int).toNat.toUInt8)=c:=by simp
 have HC:=Aa hc;clear hc;go_enter func208,ntmps208
 go_wp2
 rw[run_callFunc_extern func231 (by kernel_rfl) (by kernel_rfl) (by kernel_rfl) (e:=Extern.BytealgIndexByte.indexByte) (by kernel_rfl),Lib.run_indexByteString,HC.o];simp only[Result.andThen];rw[Oper.upon_value]
 go_wp2
 go_ret;exact⟨rfl,rfl⟩
theorem XA(s:vD)(c:UInt8)(w:World):
 Calls prog 167 #[.string s,.int .u8 c.toNat] w fun e w'=>e=.returned (.int .i64 (Lib.indexByte s.data.toList c))/\w'=w:=by
 go_enter func167,ntmps167;go_wp2_with (go_at_call 208;refine(Uu _ _ _).mono ?_;rintro e w' ⟨rfl,rfl⟩);go_ret;exact⟨rfl,rfl⟩
theorem Ut(s:vD)(w:World)(_hs:s.size<=100000):
 Calls prog 229 #[.string s,.string ⟨#[10]⟩] w fun e w'=>e=.returned (.int .i64 (Lib.indexByte s.data.toList 10))/\w'=w:=by
 cases he:(([10]:List UInt8)==s.toList)
 ·go_enter func229,ntmps229
  go_wp2_with fail;refine(Uu s 10 _).mono ?_;rintro e w' ⟨rfl,rfl⟩;go_wp2_with fail;go_ret;exact⟨rfl,rfl⟩
 ·go_enter func229,ntmps229
  have HE:=Aa (show Lib.indexByte s.data.toList 10=0 by rw[<-Lib.toList_data,<-(beq_iff_eq.1 he)];rfl);go_wp2_with fail;go_ret;exact⟨CG (by rw[HE.o]),rfl⟩
theorem Uv:∀(l:List UInt8),(Lib.indexByte l 10= -1/\l.dropWhile (· !=10)=[])\/∃i:Nat,Lib.indexByte l 10=i/\i<l.length/\(l.dropWhile (· !=10)).drop 1=l.drop (i+1)
 |[]=>Or.inl ⟨rfl,rfl⟩
 |c::l=>by
  by_cases h:c=10
  ·subst h;exact Or.inr ⟨0,rfl,by simp,by simp⟩
  ·have e:Lib.indexByte (c::l) 10=if Lib.indexByte l 10== -1 then -1 else Lib.indexByte l 10+1:=by
    rw[Lib.indexByte,uB (by simpa using h)]
   rw[List.dropWhile_cons_of_pos (by simpa using h),e];rcases Uv l with⟨h1,h2⟩|⟨i,h1,h2,h3⟩
   ·exact Or.inl ⟨by rw[h1];rfl,h2⟩
   ·refine Or.inr ⟨i+1,?_,by simp;omega,by rw[h3];rfl⟩
    rw[h1,uB (by simp)];omega
theorem gT(s:vD)(w:World)(hs:s.size<=100000):
 Calls prog 204 #[.string s,.string ⟨#[10]⟩] w fun e w'=>∃b a f,e=.returned (.tuple #[.string b,.string a,.bool f])/\a.data.toList=(s.data.toList.dropWhile (· !=10)).drop 1/\vE w w':=by
 rcases Uv s.data.toList with⟨h1,h2⟩|⟨i,h1,h2,h3⟩
 ·have H1:=Aa h1
  have H2:=Aa h2;clear h1 h2;go_enter func204,ntmps204;go_wp2_with fail;refine(Ut s _ hs).mono ?_;rw[H1.o];rintro e w' ⟨rfl,rfl⟩;go_wp2_with fail;go_ret3;exact⟨_,_,_,rfl,by rw[H2.o];rfl,tM _ _⟩
 ·have H1:=Aa h1
  have H3:=Aa h3;have hi:i<s.size:=h2;clear h1 h2 h3;go_enter func204,ntmps204;go_wp2_with fail;refine(Ut s _ hs).mono ?_;rw[H1.o];rintro e w' ⟨rfl,rfl⟩;go_wp2_with fail;go_region;all_goals(try go_wp2)
  all_goals go_ret3
  all_goals exact⟨_,_,_,rfl,by rw[H3.o,Lib.extract_data,tW (by simp)],by first|exact tM _ _|exact(tM _ _).drew⟩
theorem qW(s:vD)(w:World)(hs:s.size<=100000):
 Calls prog 160 #[.string s,.string ⟨#[10]⟩] w fun e w'=>∃b a f,e=.returned (.tuple #[.string b,.string a,.bool f])/\a.data.toList=(s.data.toList.dropWhile (· !=10)).drop 1/\vE w w':=by
 go_enter func160,ntmps160;go_wp2_with fail;refine(gT s _ hs).mono ?_;rintro e w' ⟨b,a,f,rfl,ha,hb⟩;have HA:=Aa ha;have HB:=Aa hb;clear ha hb;go_wp2_with fail;go_ret3;exact⟨_,_,_,rfl,HA.o,HB.o⟩
def Si:Value->Nat
 | .string t=>t.size
 |_=>0
theorem Ld(t:vD):Si (.string t)=t.size:=rfl
def Oc(t:vD):Prop:=t.size=0\/∃h:0<t.size,Ar Hh t[0]=false/\¬t[0]=35
theorem IJ(t:vD)(h:0<t.size):t.data.toList=t[0]::(t.extract 1 t.size).data.toList:=by
 have:=ED t 0 h;rw[List.drop_zero]at this;rw[this,Lib.extract_data,tW (by simp)]
theorem LD(c:UInt8):Ar Hh c=true↔c=32\/c=9\/c=13\/c=10\/c=44:=by
 simp[Ar,Hh]
theorem iT(r:List UInt8):Bb (35::r)=Bb ((r.dropWhile (· !=10)).drop 1):=by
 rw[iQ];cases h:r.dropWhile (· !=10)with
 |nil=>rfl
 |cons a l=>
  have:a=10:=by
   have:=List.head?_dropWhile_not (· !=10) r;rw[h]at this;simpa using this
  subst this;rw[LL _ _ (by decide)];rfl
theorem VV(t:vD)(h:0<t.size):t.toList.isEmpty=false:=by
 rw[Lib.toList_data,IJ t h];rfl
theorem TQ(t:vD)(h:¬0<t.size):t.toList.isEmpty=true:=by
 rw[Lib.toList_data,tZ (show t.data.toList.length=0 by show t.size=0;omega)];rfl
theorem XL(s:vD)(w:World)(hs:s.size<=100000):
 Calls prog 113 #[.string s] w fun e w'=>∃t,e=.returned (.string t)/\Oc t/\t.size<=s.size/\Bb s.data.toList=Bb t.data.toList/\vE w w':=by
 go_enter func113,ntmps113;go_wp2_with fail
 go_loopw [0] (fun v wr=>∃t:vD,v=.string t/\t.size<=s.size/\Bb s.data.toList=Bb t.data.toList/\vE w wr) (fun v _=>Si v)
 case atStart=>exact⟨s,rfl,tL _,rfl,tM _ _⟩
 case round=>
  obtain⟨t,rfl,hts,hrr,hbel⟩:=hrel;have HR:=Aa hrr;clear hrr;by_cases h0:0<t.size
  ·have hne:=VV t h0
   cases g32:((t[0].toNat:Int)==32)
   ·cases g9:((t[0].toNat:Int)==9)
    ·cases g13:((t[0].toNat:Int)==13)
     ·cases g10:((t[0].toNat:Int)==10)
      ·cases g44:((t[0].toNat:Int)==44)
       ·have nb:=Aa (show Ar Hh t[0]=false from by
         cases hx:Ar Hh t[0]
         ·rfl
         ·rcases(LD _).1 hx with e|e|e|e|e
          ·rw[e]at g32;simp at g32
          ·rw[e]at g9;simp at g9
          ·rw[e]at g13;simp at g13
          ·rw[e]at g10;simp at g10
          ·rw[e]at g44;simp at g44)
        cases g35:((t[0].toNat:Int)==35)
        ·have n35:=Aa (show¬t[0]=35 from by intro e;rw[e]at g35;simp at g35)
         go_wp2_with fail;go_ret;exact⟨t,rfl,Or.inr ⟨h0,nb.o,n35.o⟩,hts,HR.o,hbel⟩
        ·have e35:=Aa (show t[0]=35 from Fe (by simpa using g35))
         go_wp2_with fail;refine(qW t _ (by omega)).mono ?_;rintro e w1 ⟨b,a,f,rfl,ha,hb1⟩;have HA:=Aa ha;have hsz:a.size<t.size:=by
          have h1:a.size=a.data.toList.length:=rfl;have h2:=Of (· !=10) t.data.toList;have h3:t.data.toList.length=t.size:=rfl;rw[h1,ha,List.length_drop];omega
         have hb2:=hbel.trans (hb1.mono hbel.size);clear ha hb1;go_wp2_with fail
         go_roundw
         case rel=>exact⟨a,rfl,by omega,by rw[HR.o,IJ t h0,e35.o,iT,HA.o,IJ t h0,e35.o];rfl,hb2⟩
         case measure=>simp only[Ld];omega
       ·have HB:=Aa (show Bb t.data.toList=Bb (t.extract 1 t.size).data.toList from by rw[IJ t h0];exact LL _ _ ((LD _).2 (by rw[show t[0]=44 from Fe (by simpa using g44)];decide)))
        go_wp2_with fail
        go_roundw
        case rel=>exact⟨_,rfl,by simp;omega,by rw[HR.o,HB.o],hbel⟩
        case measure=>simp only[Ld,ByteArray.size_extract];omega
      ·have HB:=Aa (show Bb t.data.toList=Bb (t.extract 1 t.size).data.toList from by rw[IJ t h0];exact LL _ _ ((LD _).2 (by rw[show t[0]=10 from Fe (by simpa using g10)];decide)))
       go_wp2_with fail
       go_roundw
       case rel=>exact⟨_,rfl,by simp;omega,by rw[HR.o,HB.o],hbel⟩
       case measure=>simp only[Ld,ByteArray.size_extract];omega
     ·have HB:=Aa (show Bb t.data.toList=Bb (t.extract 1 t.size).data.toList from by rw[IJ t h0];exact LL _ _ ((LD _).2 (by rw[show t[0]=13 from Fe (by simpa using g13)];decide)))
      go_wp2_with fail
      go_roundw
      case rel=>exact⟨_,rfl,by simp;omega,by rw[HR.o,HB.o],hbel⟩
      case measure=>simp only[Ld,ByteArray.size_extract];omega
    ·have HB:=Aa (show Bb t.data.toList=Bb (t.extract 1 t.size).data.toList from by rw[IJ t h0];exact LL _ _ ((LD _).2 (by rw[show t[0]=9 from Fe (by simpa using g9)];decide)))
     go_wp2_with fail
     go_roundw
     case rel=>exact⟨_,rfl,by simp;omega,by rw[HR.o,HB.o],hbel⟩
     case measure=>simp only[Ld,ByteArray.size_extract];omega
   ·have HB:=Aa (show Bb t.data.toList=Bb (t.extract 1 t.size).data.toList from by rw[IJ t h0];exact LL _ _ ((LD _).2 (by rw[show t[0]=32 from Fe (by simpa using g32)];decide)))
    go_wp2_with fail
    go_roundw
    case rel=>exact⟨_,rfl,by simp;omega,by rw[HR.o,HB.o],hbel⟩
    case measure=>simp only[Ld,ByteArray.size_extract];omega
  ·have hne:=TQ t h0
   go_wp2_with fail;go_ret;exact⟨t,rfl,Or.inl (by omega),hts,HR.o,hbel⟩
theorem Pk:∀(l:List UInt8) (o:vD) (c:UInt8),l[Av l o]?=some c->Ar o c=false
 |[],_,_,h=>by simp at h
 |a::l,o,c,h=>by
  by_cases ha:Ar o a=true
  ·have e:Av (a::l) o=Av l o+1:=by simp[Av,ha]
   rw[e]at h;exact Pk l o c (by simpa using h)
  ·have e:Av (a::l) o=0:=by simp[Av,ha]
   rw[e]at h;simp at h;rw[<-h];simpa using ha
theorem Xu(l:List UInt8)(o:vD)(i:Nat)(c:UInt8)(hi:i<Av l o)(h:l[i]?=some c):Ar o c=true:=by
 refine qT l o c ?_;have:(l.take (Av l o))[i]?=some c:=by rw[List.getElem?_take_of_lt hi];exact h
 exact tO this
theorem Xv:∀(l:List UInt8) (o p:vD),(∀c,Ar o c=true->Ar p c=true)->Av l o<=Av l p
 |[],_,_,_=>by simp[Av]
 |a::l,o,p,h=>by
  by_cases ha:Ar o a=true
  ·have e1:Av (a::l) o=Av l o+1:=by simp[Av,ha]
   have e2:Av (a::l) p=Av l p+1:=by simp[Av,h a ha]
   have:=Xv l o p h;omega
  ·have e:Av (a::l) o=0:=by simp[Av,ha]
   omega
theorem PC(c:UInt8):Ar AN c=(Ar AP c||Ar Dw c):=by
 have h:∀i:Fin 256,Ar AN (UInt8.ofFin i)=(Ar AP (UInt8.ofFin i)||Ar Dw (UInt8.ofFin i)):=by decide+kernel
 exact h c.toFin
theorem Xx(d:List UInt8):Av d AP<=Av d AN/\(Av d AP<Av d AN->0<Av (d.drop (Av d AP)) Dw)/\(Av d AP=Av d AN->Av (d.drop (Av d AP)) Dw=0):=by
 have h1:=Xv d AP AN (fun c hc=>by rw[PC,hc];rfl);have hl:=Kf d AN;refine⟨h1,?_,?_⟩
 ·intro h
  obtain⟨c,hc⟩:∃c,d[Av d AP]?=some c:=⟨_,tN (by omega)⟩;have a1:=Pk d AP c hc;have a2:=Xu d AN _ c h hc;rw[PC,a1,Bool.false_or]at a2;have e:d.drop (Av d AP)=c::d.drop (Av d AP+1):=by
   rw[uT (by omega)];congr 1;have:=tN (l:=d) (i:=Av d AP) (by omega);rw[this]at hc;exact tY hc
  rw[e];simp[Av,a2]
 ·intro h
  cases hx:d.drop (Av d AP)with
  |nil=>rfl
  |cons c r=>
   have hc:d[Av d AN]?=some c:=by
    rw[<-h];have:=congrArg List.head? hx;rw[List.head?_drop]at this;exact this
   have a2:=Pk d AN c hc;rw[PC]at a2;have:Ar Dw c=false:=by revert a2;cases Ar Dw c<;>simp
   simp[Av,this]
theorem VW(l:List UInt8)(sg:Nat)(hsg:sg=if l.head?=some 45 then 1 else 0):
 BK l=if Av (l.drop sg) AP<1\/9<Av (l.drop sg) AP\/0<Av ((l.drop sg).drop (Av (l.drop sg) AP)) Dw\/(1<Av (l.drop sg) AP/\(l.drop sg).head?=some 48)then none
  else some (if sg=1 then-Ba ((l.drop sg).take (Av (l.drop sg) AP)) 0 else Ba ((l.drop sg).take (Av (l.drop sg) AP)) 0,sg+Av (l.drop sg) AP):=by
 subst hsg;unfold BK;simp only[List.drop_drop]
theorem IQ(l:List UInt8)(sg:Nat)(hsg:sg=if l.head?=some 45 then 1 else 0)(h:Av (l.drop sg) AN=0\/9<Av (l.drop sg) AN\/(1<Av (l.drop sg) AN/\(l.drop sg).head?=some 48)\/∃j c,j<Av (l.drop sg) AN/\(l.drop sg)[j]?=some c/\Ar AP c=false):BK l=none:=by
 rw[VW l sg hsg];obtain⟨r1,r2,r3⟩:=Xx (l.drop sg);rw[uC];rcases h with h|h|h|⟨j,c,h1,h2,h3⟩
 ·omega
 ·by_cases e:Av (l.drop sg) AP=Av (l.drop sg) AN
  ·omega
  ·have:=r2 (by omega);omega
 ·by_cases e:Av (l.drop sg) AP=Av (l.drop sg) AN
  ·exact Or.inr (Or.inr (Or.inr ⟨by omega,h.2⟩))
  ·have:=r2 (by omega);omega
 ·have e:Av (l.drop sg) AP<Av (l.drop sg) AN:=by
   by_cases e:Av (l.drop sg) AP=Av (l.drop sg) AN
   ·have:=Xu (l.drop sg) AP j c (by omega) h2
    rw[h3]at this;cases this
   ·omega
  have:=r2 e;omega
theorem OO(l:List UInt8)(sg:Nat)(hsg:sg=if l.head?=some 45 then 1 else 0)(h1:0<Av (l.drop sg) AN)(h2:Av (l.drop sg) AN<=9)(h3:¬(1<Av (l.drop sg) AN/\(l.drop sg).head?=some 48))(h4:∀c∈(l.drop sg).take (Av (l.drop sg) AN),Ar AP c=true):
 BK l=some (if sg=1 then-Ba ((l.drop sg).take (Av (l.drop sg) AN)) 0 else Ba ((l.drop sg).take (Av (l.drop sg) AN)) 0,sg+Av (l.drop sg) AN):=by
 rw[VW l sg hsg];obtain⟨r1,r2,r3⟩:=Xx (l.drop sg);have hl:=Kf (l.drop sg) AN;have e:Av (l.drop sg) AP=Av (l.drop sg) AN:=by
  rcases Nat.lt_or_ge (Av (l.drop sg) AP) (Av (l.drop sg) AN)with h|h
  ·exfalso
   obtain⟨c,hc⟩:∃c,(l.drop sg)[Av (l.drop sg) AP]?=some c:=⟨_,tN (by omega)⟩;have a1:=Pk _ AP c hc;have:c∈(l.drop sg).take (Av (l.drop sg) AN):=by
    have:((l.drop sg).take (Av (l.drop sg) AN))[Av (l.drop sg) AP]?=some c:=by rw[List.getElem?_take_of_lt h];exact hc
    exact tO this
   rw[h4 c this]at a1;cases a1
  ·omega
 have m0:=r3 e;have hn:¬(Av (l.drop sg) AP<1\/9<Av (l.drop sg) AP\/0<Av ((l.drop sg).drop (Av (l.drop sg) AP)) Dw\/(1<Av (l.drop sg) AP/\(l.drop sg).head?=some 48)):=by
  rw[m0,e];rintro(x|x|x|x)
  ·omega
  ·omega
  ·omega
  ·exact h3 x
 rw[uB hn,e]
theorem Qw(d:vD)(k:Nat):(d.extract 0 k).data.toList=d.data.toList.take k:=by
 rw[Lib.extract_data];simp
def FY(s:vD):vD:=if s.data.toList.head?=some 45 then s.extract 1 s.size else s
theorem Uo(s:vD):((s.extract 0 1).toList==[45])=decide (s.data.toList.head?=some 45):=by
 rw[Lib.toList_data,Qw];cases s.data.toList with
 |nil=>rfl
 |cons a l=>rw[Bool.eq_iff_iff];simp
theorem Yc(s:vD)(w:World)(h:0<s.size)(hs:s.size<=100000):
 Calls prog 205 #[.string s,.string ⟨#[45]⟩] w fun e w'=>e=.returned (.string (FY s))/\w'=w:=by
 have h1:1<=(s.size:Int):=by omega
 cases hm:((s.extract 0 1).toList==[45])
 ·have HE:=Aa (show FY s=s from by unfold FY;rw[uB (by simpa [Uo]using hm)])
  go_enter func205,ntmps205
  go_wp2
  go_ret;exact⟨by rw[HE.o];rfl,rfl⟩
 ·have HE:=Aa (show FY s=s.extract 1 s.size from by unfold FY;rw[uC (by simpa [Uo]using hm)])
  go_enter func205,ntmps205
  go_wp2
  go_ret;exact⟨by rw[HE.o];rfl,rfl⟩
theorem Yd(s:vD)(sg:Nat)(hsg:sg=if s.data.toList.head?=some 45 then 1 else 0):(FY s).data.toList=s.data.toList.drop sg:=by
 subst hsg;unfold FY;split
 ·rw[Lib.extract_data,tW (by simp)]
 ·simp
theorem Up(g:vD)(h:0<g.size):((g[0].toNat:Int)==48)=decide (g.data.toList.head?=some 48):=by
 rw[IJ g h,ZI];simp
theorem Ot(g:vD)(j:Nat)(h:j<g.size):g.data.toList.take (j+1)=g.data.toList.take j++[g[j]]:=sD g j h
theorem Oq(g:vD)(j:Nat)(h:j<g.size):g.data.toList[j]?=some g[j]:=by
 rw[tN (by simpa using h)];rfl
theorem lQ(s:vD)(w:World)(h:0<s.size)(hs:s.size<=100000):
 Calls prog 162 #[.string s] w fun e w'=>e=.returned (BV (BK s.data.toList))/\vE w w':=by
 generalize hq:BV (BK s.data.toList)=q;have HQ:=Aa hq;clear hq;have hsg0:s.data.toList.head?=some s[0]:=by rw[IJ s h];rfl
 cases hsg:((s[0].toNat:Int)==45)
 ·have HG:=Aa (show 0=if s.data.toList.head?=some 45 then 1 else 0 from by simpa [Oa,hsg0]using hsg)
  have hdd:=Yd s 0 HG.o;have hdz:(FY s).size<=s.size:=by
   have h1:(FY s).size=(FY s).data.toList.length:=rfl;have h2:s.size=s.data.toList.length:=rfl;rw[h1,h2,hdd];simp
  go_enter func162,ntmps162;go_wp2_with fail;refine(Yc s _ h hs).mono ?_;rintro e w' ⟨rfl,rfl⟩;generalize FY s=d at*;have HD:=Aa hdd;clear hdd;have hkl:=Kf d.data.toList AN;rw[Array.length_toList,show d.data.size=d.size from rfl]at hkl;generalize hk:Av d.data.toList AN=k at*;have HK:=Aa hk;go_wp2_with fail;refine(Sw d _ (by omega)).mono ?_;rw[hk];rintro e w' ⟨rfl,rfl⟩;clear hk;obtain⟨g,hg⟩:∃g,d.extract 0 k=g:=⟨_,rfl⟩;have hgs:g.size=k:=by rw[<-hg];simp;omega
  have HT:=Aa (show g.data.toList=d.data.toList.take k from by rw[<-hg,Qw]);by_cases c1:k=0
  ·have c1':((k:Int)==0)=true:=by simp;omega
   have HX:=Aa (show BK s.data.toList=none from IQ _ 0 HG.o (by rw[<-HD.o,HK.o];exact Or.inl c1));go_wp2_with fail;refine bodyPost_ret (v:=BV none) (by simp[results,results162,go_sem,BV]) rfl ⟨by rw[<-HQ.o,HX.o],(tM _ _).alloc (tL _) _⟩
  have c1':((k:Int)==0)=false:=by simp;omega
  by_cases c2:9<k
  ·have HX:=Aa (show BK s.data.toList=none from IQ _ 0 HG.o (by rw[<-HD.o,HK.o];exact Or.inr (Or.inl c2)))
   go_wp2_with fail;refine bodyPost_ret (v:=BV none) (by simp[results,results162,go_sem,BV]) rfl ⟨by rw[<-HQ.o,HX.o],(tM _ _).alloc (tL _) _⟩
  have hg0:0<g.size:=by omega
  have hz0:=Up g hg0;have HZ:=Aa (show g.data.toList.head?=d.data.toList.head? from by rw[HT.o,List.head?_take,uB c1]);by_cases c3:1<k
  ·cases hz:((g[0].toNat:Int)==48)
   ·have H0:=Aa (show¬(1<k/\d.data.toList.head?=some 48)from by rw[<-HZ.o];rw[hz0]at hz;intro x;simp[x.2]at hz)
    clear hz0;go_wp2_with fail;go_loop [5,34] (fun v i=>∃j:Nat,j<=k/\i=.int .i64 j/\v=.int .i64 (Ba (g.data.toList.take j) 0)/\∀c∈g.data.toList.take j,Ar AP c=true) (fun _ i=>k-(intOf i).toNat)
    case atStart=>exact⟨0,tU _,rfl,by simp[Ba],by simp⟩
    case round=>
     obtain⟨j,hj,rfl,rfl,hall⟩:=hrel;have hb:=OP (g.data.toList.take j) hall 9 (by have:=List.length_take_le j g.data.toList;omega);have hb2:Ba (g.data.toList.take j) 0<1000000000:=hb.2;have hb1:=hb.1;have HA:=Aa hall;clear hall hb;by_cases hlt:j<k
     ·have hjg:j<g.size:=by omega
      have HS:=Aa (Ot g j hjg);cases hdg:Ar AP g[j]
      ·have HX:=Aa (show BK s.data.toList=none from IQ _ 0 HG.o (by rw[<-HD.o,HK.o];exact Or.inr (Or.inr (Or.inr ⟨j,g[j],hlt,by rw[<-Oq g j hjg,HT.o,List.getElem?_take_of_lt hlt],hdg⟩))))
       go_wp2_with (go_at_call 161;refine(Df _ _).mono ?_;rintro e w' ⟨rfl,rfl⟩);refine bodyPost_ret (v:=BV none) (by simp[results,results162,go_sem,BV]) rfl ⟨by rw[<-HQ.o,HX.o],(tM _ _).alloc (tL _) _⟩
      ·have hd:=(KM _).1 hdg
       have hd1:=hd.1;have hd2:=hd.2;clear hd;have HN:=Aa (show Ba (g.data.toList.take (j+1)) 0=Ba (g.data.toList.take j) 0*10+((g[j].toNat:Int)-48)from by rw[HS.o,OQ];omega);have HA2:=Aa (show∀c∈g.data.toList.take (j+1),Ar AP c=true from by
        rw[HS.o];intro c hc;rcases uZ.1 hc with x|x
        ·exact HA.o c x
        ·simp at x;rw[x];exact hdg)
       generalize hv:Ba (g.data.toList.take j) 0=v at*;clear hv;go_wp2_with (go_at_call 161;refine(Df _ _).mono ?_;rintro e w' ⟨rfl,rfl⟩)
       go_round
       case rel=>exact⟨j+1,by omega,by go_num,by rw[HN.o],HA2.o⟩
       case measure=>simp[intOf];omega
     ·have e:j=k:=by omega
      subst e;have HE:=Aa (show BK s.data.toList=some (Ba (g.data.toList.take j) 0,0+j)from by
       rw[OO _ 0 HG.o (by rw[<-HD.o,HK.o];omega) (by rw[<-HD.o,HK.o];omega) (by rw[<-HD.o,HK.o];exact H0.o) (by rw[<-HD.o,HK.o,<-HT.o];intro c hc;exact HA.o c (by rw[tW (by show g.size<=j;omega)];exact hc)),<-HD.o,HK.o];rw[uB (by decide)];rw[HT.o,List.take_take,Nat.min_self])
      generalize hv:Ba (g.data.toList.take j) 0=v at*;clear hv;go_wp2_with fail;refine bodyPost_ret (v:=BV (some (v,0+j))) (by simp[results,results162,go_sem,BV]) rfl ⟨by rw[<-HQ.o,HE.o],(tM _ _).alloc (tL _) _⟩
   ·have H0:=Aa (show 1<k/\d.data.toList.head?=some 48 from⟨c3,by rw[<-HZ.o];rw[hz0]at hz;simpa using hz⟩)
    clear hz0;have HX:=Aa (show BK s.data.toList=none from IQ _ 0 HG.o (by rw[<-HD.o,HK.o];exact Or.inr (Or.inr (Or.inl H0.o))));go_wp2_with fail;refine bodyPost_ret (v:=BV none) (by simp[results,results162,go_sem,BV]) rfl ⟨by rw[<-HQ.o,HX.o],(tM _ _).alloc (tL _) _⟩
  ·have H0:=Aa (show¬(1<k/\d.data.toList.head?=some 48)from fun x=>c3 x.1)
   clear hz0;go_wp2_with fail;go_loop [5,34] (fun v i=>∃j:Nat,j<=k/\i=.int .i64 j/\v=.int .i64 (Ba (g.data.toList.take j) 0)/\∀c∈g.data.toList.take j,Ar AP c=true) (fun _ i=>k-(intOf i).toNat)
   case atStart=>exact⟨0,tU _,rfl,by simp[Ba],by simp⟩
   case round=>
    obtain⟨j,hj,rfl,rfl,hall⟩:=hrel;have hb:=OP (g.data.toList.take j) hall 9 (by have:=List.length_take_le j g.data.toList;omega);have hb2:Ba (g.data.toList.take j) 0<1000000000:=hb.2;have hb1:=hb.1;have HA:=Aa hall;clear hall hb;by_cases hlt:j<k
    ·have hjg:j<g.size:=by omega
     have HS:=Aa (Ot g j hjg);cases hdg:Ar AP g[j]
     ·have HX:=Aa (show BK s.data.toList=none from IQ _ 0 HG.o (by rw[<-HD.o,HK.o];exact Or.inr (Or.inr (Or.inr ⟨j,g[j],hlt,by rw[<-Oq g j hjg,HT.o,List.getElem?_take_of_lt hlt],hdg⟩))))
      go_wp2_with (go_at_call 161;refine(Df _ _).mono ?_;rintro e w' ⟨rfl,rfl⟩);refine bodyPost_ret (v:=BV none) (by simp[results,results162,go_sem,BV]) rfl ⟨by rw[<-HQ.o,HX.o],(tM _ _).alloc (tL _) _⟩
     ·have hd:=(KM _).1 hdg
      have hd1:=hd.1;have hd2:=hd.2;clear hd;have HN:=Aa (show Ba (g.data.toList.take (j+1)) 0=Ba (g.data.toList.take j) 0*10+((g[j].toNat:Int)-48)from by rw[HS.o,OQ];omega);have HA2:=Aa (show∀c∈g.data.toList.take (j+1),Ar AP c=true from by
       rw[HS.o];intro c hc;rcases uZ.1 hc with x|x
       ·exact HA.o c x
       ·simp at x;rw[x];exact hdg)
      generalize hv:Ba (g.data.toList.take j) 0=v at*;clear hv;go_wp2_with (go_at_call 161;refine(Df _ _).mono ?_;rintro e w' ⟨rfl,rfl⟩)
      go_round
      case rel=>exact⟨j+1,by omega,by go_num,by rw[HN.o],HA2.o⟩
      case measure=>simp[intOf];omega
    ·have e:j=k:=by omega
     subst e;have HE:=Aa (show BK s.data.toList=some (Ba (g.data.toList.take j) 0,0+j)from by
      rw[OO _ 0 HG.o (by rw[<-HD.o,HK.o];omega) (by rw[<-HD.o,HK.o];omega) (by rw[<-HD.o,HK.o];exact H0.o) (by rw[<-HD.o,HK.o,<-HT.o];intro c hc;exact HA.o c (by rw[tW (by show g.size<=j;omega)];exact hc)),<-HD.o,HK.o];rw[uB (by decide)];rw[HT.o,List.take_take,Nat.min_self])
     generalize hv:Ba (g.data.toList.take j) 0=v at*;clear hv;go_wp2_with fail;refine bodyPost_ret (v:=BV (some (v,0+j))) (by simp[results,results162,go_sem,BV]) rfl ⟨by rw[<-HQ.o,HE.o],(tM _ _).alloc (tL _) _⟩
 ·have HG:=Aa (show 1=if s.data.toList.head?=some 45 then 1 else 0 from by simpa [Oa,hsg0]using hsg)
  have hdd:=Yd s 1 HG.o;have hdz:(FY s).size<=s.size:=by
   have h1:(FY s).size=(FY s).data.toList.length:=rfl;have h2:s.size=s.data.toList.length:=rfl;rw[h1,h2,hdd];simp
  go_enter func162,ntmps162;go_wp2_with fail;refine(Yc s _ h hs).mono ?_;rintro e w' ⟨rfl,rfl⟩;generalize FY s=d at*;have HD:=Aa hdd;clear hdd;have hkl:=Kf d.data.toList AN;rw[Array.length_toList,show d.data.size=d.size from rfl]at hkl;generalize hk:Av d.data.toList AN=k at*;have HK:=Aa hk;go_wp2_with fail;refine(Sw d _ (by omega)).mono ?_;rw[hk];rintro e w' ⟨rfl,rfl⟩;clear hk;obtain⟨g,hg⟩:∃g,d.extract 0 k=g:=⟨_,rfl⟩;have hgs:g.size=k:=by rw[<-hg];simp;omega
  have HT:=Aa (show g.data.toList=d.data.toList.take k from by rw[<-hg,Qw]);by_cases c1:k=0
  ·have c1':((k:Int)==0)=true:=by simp;omega
   have HX:=Aa (show BK s.data.toList=none from IQ _ 1 HG.o (by rw[<-HD.o,HK.o];exact Or.inl c1));go_wp2_with fail;refine bodyPost_ret (v:=BV none) (by simp[results,results162,go_sem,BV]) rfl ⟨by rw[<-HQ.o,HX.o],(tM _ _).alloc (tL _) _⟩
  have c1':((k:Int)==0)=false:=by simp;omega
  by_cases c2:9<k
  ·have HX:=Aa (show BK s.data.toList=none from IQ _ 1 HG.o (by rw[<-HD.o,HK.o];exact Or.inr (Or.inl c2)))
   go_wp2_with fail;refine bodyPost_ret (v:=BV none) (by simp[results,results162,go_sem,BV]) rfl ⟨by rw[<-HQ.o,HX.o],(tM _ _).alloc (tL _) _⟩
  have hg0:0<g.size:=by omega
  have hz0:=Up g hg0;have HZ:=Aa (show g.data.toList.head?=d.data.toList.head? from by rw[HT.o,List.head?_take,uB c1]);by_cases c3:1<k
  ·cases hz:((g[0].toNat:Int)==48)
   ·have H0:=Aa (show¬(1<k/\d.data.toList.head?=some 48)from by rw[<-HZ.o];rw[hz0]at hz;intro x;simp[x.2]at hz)
    clear hz0;go_wp2_with fail;go_loop [5,34] (fun v i=>∃j:Nat,j<=k/\i=.int .i64 j/\v=.int .i64 (Ba (g.data.toList.take j) 0)/\∀c∈g.data.toList.take j,Ar AP c=true) (fun _ i=>k-(intOf i).toNat)
    case atStart=>exact⟨0,tU _,rfl,by simp[Ba],by simp⟩
    case round=>
     obtain⟨j,hj,rfl,rfl,hall⟩:=hrel;have hb:=OP (g.data.toList.take j) hall 9 (by have:=List.length_take_le j g.data.toList;omega);have hb2:Ba (g.data.toList.take j) 0<1000000000:=hb.2;have hb1:=hb.1;have HA:=Aa hall;clear hall hb;by_cases hlt:j<k
     ·have hjg:j<g.size:=by omega
      have HS:=Aa (Ot g j hjg);cases hdg:Ar AP g[j]
      ·have HX:=Aa (show BK s.data.toList=none from IQ _ 1 HG.o (by rw[<-HD.o,HK.o];exact Or.inr (Or.inr (Or.inr ⟨j,g[j],hlt,by rw[<-Oq g j hjg,HT.o,List.getElem?_take_of_lt hlt],hdg⟩))))
       go_wp2_with (go_at_call 161;refine(Df _ _).mono ?_;rintro e w' ⟨rfl,rfl⟩);refine bodyPost_ret (v:=BV none) (by simp[results,results162,go_sem,BV]) rfl ⟨by rw[<-HQ.o,HX.o],(tM _ _).alloc (tL _) _⟩
      ·have hd:=(KM _).1 hdg
       have hd1:=hd.1;have hd2:=hd.2;clear hd;have HN:=Aa (show Ba (g.data.toList.take (j+1)) 0=Ba (g.data.toList.take j) 0*10+((g[j].toNat:Int)-48)from by rw[HS.o,OQ];omega);have HA2:=Aa (show∀c∈g.data.toList.take (j+1),Ar AP c=true from by
        rw[HS.o];intro c hc;rcases uZ.1 hc with x|x
        ·exact HA.o c x
        ·simp at x;rw[x];exact hdg)
       generalize hv:Ba (g.data.toList.take j) 0=v at*;clear hv;go_wp2_with (go_at_call 161;refine(Df _ _).mono ?_;rintro e w' ⟨rfl,rfl⟩)
       go_round
       case rel=>exact⟨j+1,by omega,by go_num,by rw[HN.o],HA2.o⟩
       case measure=>simp[intOf];omega
     ·have e:j=k:=by omega
      subst e;have HE:=Aa (show BK s.data.toList=some (-Ba (g.data.toList.take j) 0,1+j)from by
       rw[OO _ 1 HG.o (by rw[<-HD.o,HK.o];omega) (by rw[<-HD.o,HK.o];omega) (by rw[<-HD.o,HK.o];exact H0.o) (by rw[<-HD.o,HK.o,<-HT.o];intro c hc;exact HA.o c (by rw[tW (by show g.size<=j;omega)];exact hc)),<-HD.o,HK.o];rw[uC rfl];rw[HT.o,List.take_take,Nat.min_self])
      generalize hv:Ba (g.data.toList.take j) 0=v at*;clear hv;go_wp2_with fail;refine bodyPost_ret (v:=BV (some (-v,1+j))) (by simp[results,results162,go_sem,BV];omega) rfl ⟨by rw[<-HQ.o,HE.o],(tM _ _).alloc (tL _) _⟩
   ·have H0:=Aa (show 1<k/\d.data.toList.head?=some 48 from⟨c3,by rw[<-HZ.o];rw[hz0]at hz;simpa using hz⟩)
    clear hz0;have HX:=Aa (show BK s.data.toList=none from IQ _ 1 HG.o (by rw[<-HD.o,HK.o];exact Or.inr (Or.inr (Or.inl H0.o))));go_wp2_with fail;refine bodyPost_ret (v:=BV none) (by simp[results,results162,go_sem,BV]) rfl ⟨by rw[<-HQ.o,HX.o],(tM _ _).alloc (tL _) _⟩
  ·have H0:=Aa (show¬(1<k/\d.data.toList.head?=some 48)from fun x=>c3 x.1)
   clear hz0;go_wp2_with fail;go_loop [5,34] (fun v i=>∃j:Nat,j<=k/\i=.int .i64 j/\v=.int .i64 (Ba (g.data.toList.take j) 0)/\∀c∈g.data.toList.take j,Ar AP c=true) (fun _ i=>k-(intOf i).toNat)
   case atStart=>exact⟨0,tU _,rfl,by simp[Ba],by simp⟩
   case round=>
    obtain⟨j,hj,rfl,rfl,hall⟩:=hrel;have hb:=OP (g.data.toList.take j) hall 9 (by have:=List.length_take_le j g.data.toList;omega);have hb2:Ba (g.data.toList.take j) 0<1000000000:=hb.2;have hb1:=hb.1;have HA:=Aa hall;clear hall hb;by_cases hlt:j<k
    ·have hjg:j<g.size:=by omega
     have HS:=Aa (Ot g j hjg);cases hdg:Ar AP g[j]
     ·have HX:=Aa (show BK s.data.toList=none from IQ _ 1 HG.o (by rw[<-HD.o,HK.o];exact Or.inr (Or.inr (Or.inr ⟨j,g[j],hlt,by rw[<-Oq g j hjg,HT.o,List.getElem?_take_of_lt hlt],hdg⟩))))
      go_wp2_with (go_at_call 161;refine(Df _ _).mono ?_;rintro e w' ⟨rfl,rfl⟩);refine bodyPost_ret (v:=BV none) (by simp[results,results162,go_sem,BV]) rfl ⟨by rw[<-HQ.o,HX.o],(tM _ _).alloc (tL _) _⟩
     ·have hd:=(KM _).1 hdg
      have hd1:=hd.1;have hd2:=hd.2;clear hd;have HN:=Aa (show Ba (g.data.toList.take (j+1)) 0=Ba (g.data.toList.take j) 0*10+((g[j].toNat:Int)-48)from by rw[HS.o,OQ];omega);have HA2:=Aa (show∀c∈g.data.toList.take (j+1),Ar AP c=true from by
       rw[HS.o];intro c hc;rcases uZ.1 hc with x|x
       ·exact HA.o c x
       ·simp at x;rw[x];exact hdg)
      generalize hv:Ba (g.data.toList.take j) 0=v at*;clear hv;go_wp2_with (go_at_call 161;refine(Df _ _).mono ?_;rintro e w' ⟨rfl,rfl⟩)
      go_round
      case rel=>exact⟨j+1,by omega,by go_num,by rw[HN.o],HA2.o⟩
      case measure=>simp[intOf];omega
    ·have e:j=k:=by omega
     subst e;have HE:=Aa (show BK s.data.toList=some (-Ba (g.data.toList.take j) 0,1+j)from by
      rw[OO _ 1 HG.o (by rw[<-HD.o,HK.o];omega) (by rw[<-HD.o,HK.o];omega) (by rw[<-HD.o,HK.o];exact H0.o) (by rw[<-HD.o,HK.o,<-HT.o];intro c hc;exact HA.o c (by rw[tW (by show g.size<=j;omega)];exact hc)),<-HD.o,HK.o];rw[uC rfl];rw[HT.o,List.take_take,Nat.min_self])
     generalize hv:Ba (g.data.toList.take j) 0=v at*;clear hv;go_wp2_with fail;refine bodyPost_ret (v:=BV (some (-v,1+j))) (by simp[results,results162,go_sem,BV];omega) rfl ⟨by rw[<-HQ.o,HE.o],(tM _ _).alloc (tL _) _⟩
def Bk:Obj:=.cells #[.int .i64 0,.string ⟨#[]⟩,.int .i64 0] 103
theorem bP(s:vD)(w:World)(h:Gk s.data.toList=none):Calls prog 206 #[.string s] w fun e w'=>e=.returned (.int .u8 0)/\w'=w:=by
 have:=TV s w;rw[h]at this;exact this
theorem bR(s:vD)(c:UInt8)(w:World)(h:Gk s.data.toList=some c):Calls prog 206 #[.string s] w fun e w'=>e=.returned (.int .u8 c.toNat)/\w'=w:=by
 have:=TV s w;rw[h]at this;exact this
theorem Qv(s:vD)(k:Nat):(s.extract k s.size).data.toList=s.data.toList.drop k:=by
 rw[Lib.extract_data,tW (by simp)]
theorem rP(s:vD)(k:Nat)(acc:List UInt8)(m:Nat)(h:k<s.size)(hc:s[k]=92)(he:Gk (s.data.toList.drop (k+1))=none):Cp (s.data.toList.drop k) acc m=none:=by
 by_cases hk:s.size<=k+1
 ·exact rO s k acc m h hc hk
 ·rw[XQ s k acc m (by omega) hc]
  rw[ED s (k+1) (by omega)]at he;simp only[Gk]at he;rw[he]
theorem rQ(s:vD)(k:Nat)(acc:List UInt8)(m:Nat)(e:UInt8)(h:k<s.size)(hc:s[k]=92)(he:Gk (s.data.toList.drop (k+1))=some e):k+1<s.size/\Cp (s.data.toList.drop k) acc m=Cp (s.data.toList.drop (k+2)) (acc++[e]) (m+2):=by
 by_cases hk:s.size<=k+1
 ·rw[uS (by simp;exact hk)]at he;cases he
 ·refine⟨by omega,?_⟩
  rw[XQ s k acc m (by omega) hc];rw[ED s (k+1) (by omega)]at he;simp only[Gk]at he;rw[he]
theorem bN(l:List UInt8)(e:UInt8)(he:Gk l=some e):((e.toNat:Int)==0)=false:=by
 match l with
 |[]=>cases he
 |d::r=>
  simp only[Gk,Gl]at he;split at he
  ·cases he;rfl
  split at he
  ·cases he;rfl
  split at he
  ·cases he;rfl
  split at he
  ·cases he;rfl
  ·cases he
theorem pI(s:vD)(w:World)(h:0<s.size)(hs:s.size<=100000):
 Calls prog 165 #[.string s] w fun e w'=>e=.returned (FW (Cp (s.data.toList.drop 1) [] 1))/\vE w w':=by
 generalize hq:FW (Cp (s.data.toList.drop 1) [] 1)=q;have HQ:=Aa hq;clear hq;obtain⟨i0,hi,hz0,hz1,hz2⟩:=info_parts info5;go_enter func165,ntmps165;go_wp2_with fail
 go_loopw [4,5] (fun v i wr=>∃(k:Nat) (acc:List UInt8),1<=k/\k<=s.size/\i=.int .i64 k/\wr.ownsRow (w.heap.size+1) 5 1 v acc.length (CJ acc)/\acc.length<=k/\Below (w.heap.size+1) (w.alloc Bk) wr/\Cp (s.data.toList.drop 1) [] 1=Cp (s.data.toList.drop k) acc k) (fun _ i _=>s.size-(intOf i).toNat)
 case atStart=>exact⟨1,[],by omega,by omega,by go_num,uA _ _ _ _,by simp,tM _ _,rfl⟩
 case round=>
  obtain⟨k,acc,hk1,hk2,rfl,hown,hacc,hbel,hrr⟩:=hrel;have HR:=Aa hrr;clear hrr;have hcell:∀j,wr.cell? ⟨w.heap.size,j,none⟩=(w.alloc Bk).cell? ⟨w.heap.size,j,none⟩:=fun j=>hbel.cell (by simp);have hfroz:∀j,wr.frozen? ⟨w.heap.size,j,none⟩=false:=fun j=>by rw[hbel.frozen (by simp)];exact Im w _ j
  have hc0:wr.cell? ⟨w.heap.size,0,none⟩=some (.int .i64 0):=by rw[hcell];simp[Bk]
  have hc1:wr.cell? ⟨w.heap.size,1,none⟩=some (.string ⟨#[]⟩):=by rw[hcell];simp[Bk]
  have hc2:wr.cell? ⟨w.heap.size,2,none⟩=some (.int .i64 0):=by rw[hcell];simp[Bk]
  clear hcell;have hlow:vE w wr:=((tM _ _).alloc (tL _) _).trans (hbel.mono (by omega));have hfin:∀x y z,vE w (((wr.setCell ⟨w.heap.size,0,none⟩ x).setCell ⟨w.heap.size,1,none⟩ y).setCell ⟨w.heap.size,2,none⟩ z):=fun x y z=>((hlow.setCell (tL _) x).setCell (tL _) y).setCell (tL _) z;have hszr:w.heap.size+1<=wr.heap.size:=by have:=hbel.size;simp at this;omega
  by_cases hlt:k<s.size
  ·have hx0:0<=(s[k].toNat:Int):=by omega
   have hx1:(s[k].toNat:Int)<=255:=by have:=s[k].toNat_lt;omega
   cases h34:((s[k].toNat:Int)==34)
   ·have n34:=Aa (show¬s[k]=34 from by intro e;rw[e]at h34;simp at h34)
    cases h92:((s[k].toNat:Int)==92)
    ·have n92:=Aa (show¬s[k]=92 from by intro e;rw[e]at h92;simp at h92)
     by_cases hlo:(s[k].toNat:Int)<32
     ·go_wp2_with fail
      refine bodyPost_ret (v:=FW none) (by simp[results,results165,go_sem,FW,hc0,hc1,hc2]) rfl ⟨by rw[<-HQ.o,HR.o,XP s k _ _ hlt (Or.inl ((Pt _ _).2 hlo))],hfin _ _ _⟩
     by_cases hhi:126<(s[k].toNat:Int)
     ·go_wp2_with fail
      refine bodyPost_ret (v:=FW none) (by simp[results,results165,go_sem,FW,hc0,hc1,hc2]) rfl ⟨by rw[<-HQ.o,HR.o,XP s k _ _ hlt (Or.inr ((Pt _ _).2 hhi))],hfin _ _ _⟩
     have nbad:=Aa (show¬(s[k]<32\/126<s[k])from by
      rintro(x|x)
      ·exact hlo ((Pt _ _).1 x)
      ·exact hhi ((Pt _ _).1 x))
     have hnz:((s[k].toNat:Int)==0)=false:=by simp;omega
     have HP:=Aa (rR s k acc k hlt n34.o nbad.o n92.o);have HN:=Aa (HP.o);go_wp2_with (at_builtin;refine wpList_append_own _ rfl _ _ 84 rfl (w.heap.size+1) 5 i0 (.int .u8 0) 1 1 underlying84 hi hz0 hz1 hz2 rfl (by decide) _ _ _ rfl (hown.alloc _) ⟨wr.heap.size,0,none⟩ 1 1 [.int .u8 ↑s[k].toNat] rfl rfl (cell_one_new _ _ _) (fun u hu=>by simp at hu;subst hu;rfl) (by unfold maxLen;omega) (by omega) (by simp;omega) ?_;intro v' w1 hown' hgrow _);have wX:Below (w.heap.size+1) (w.alloc Bk) w1:=Below.grown (hbel.alloc (by omega) _) hgrow (by simp;omega) (fun k hk=>(hown.lt k hk).1)
     go_roundw
     case rel=>exact⟨k+1,acc++[_],by omega,by omega,by go_num,by simpa [CJ]using hown',by simp;omega,wX,by rw[HR.o,HN.o]⟩
     case measure=>simp[intOf];omega
    ·have e92:=Aa (show s[k]=92 from Fe (by simpa using h92))
     cases hes:Gk (s.data.toList.drop (k+1))with
     |none=>
      have HP:=Aa (rP s k acc k hlt e92.o hes);have HS:=Aa (show Gk (s.extract (k+1) s.size).data.toList=none from by rw[Qv];exact hes);clear hes;go_wp2_with fail;refine(bP _ _ HS.o).mono ?_;rintro e w' ⟨rfl,rfl⟩;go_wp2_with fail;refine bodyPost_ret (v:=FW none) (by simp[results,results165,go_sem,FW,hc0,hc1,hc2]) rfl ⟨by rw[<-HQ.o,HR.o,HP.o],hfin _ _ _⟩
     |some x=>
      obtain⟨hk4,hp⟩:=rQ s k acc k x hlt e92.o hes;have HP:=Aa hp;have hnz:=bN _ x hes;have hxb:(x.toNat:Int)<=255:=by have:=x.toNat_lt;omega
      have HS:=Aa (show Gk (s.extract (k+1) s.size).data.toList=some x from by rw[Qv];exact hes);clear hes hp;go_wp2_with fail;refine(bR _ x _ HS.o).mono ?_;rintro e w' ⟨rfl,rfl⟩;have HN:=Aa (HP.o);go_wp2_with (at_builtin;refine wpList_append_own _ rfl _ _ 84 rfl (w.heap.size+1) 5 i0 (.int .u8 0) 1 1 underlying84 hi hz0 hz1 hz2 rfl (by decide) _ _ _ rfl (hown.alloc _) ⟨w'.heap.size,0,none⟩ 1 1 [.int .u8 ↑x.toNat] rfl rfl (cell_one_new _ _ _) (fun u hu=>by simp at hu;subst hu;rfl) (by unfold maxLen;omega) (by omega) (by simp;omega) ?_;intro v' w1 hown' hgrow _);have wX:Below (w.heap.size+1) (w.alloc Bk) w1:=Below.grown (hbel.alloc (by omega) _) hgrow (by simp;omega) (fun k hk=>(hown.lt k hk).1)
      go_roundw
      case rel=>exact⟨k+2,acc++[x],by omega,by omega,by go_num,by simpa [CJ]using hown',by simp;omega,wX,by rw[HR.o,HN.o]⟩
      case measure=>simp[intOf];omega
   ·have HE:=Aa (rS s k acc k hlt (Fe (by simpa using h34)))
    have hconv:=MM wr _ _ acc hown;go_wp2_with fail;refine bodyPost_ret (v:=FW (some (acc,k+1))) (by simp[results,results165,go_sem,FW,hc0,hc1,hc2]) rfl ⟨by rw[<-HQ.o,HR.o,HE.o],hfin _ _ _⟩
  ·go_wp2_with fail
   refine bodyPost_ret (v:=FW none) (by simp[results,results165,go_sem,FW,hc0,hc1,hc2]) rfl ⟨by rw[<-HQ.o,HR.o,rM s k _ _ (by omega)],hfin _ _ _⟩
end Go.Proofs.YtadneapobijejaaGreatDoor
