import Derived.Test.YtogdodlibkckkaaGreatDoorZ01
import Derived.Lib.Bytealg
namespace Go.Proofs.YtogdodlibkckkaaGreatDoor
set_option maxHeartbeats 20000000
set_option maxRecDepth 100000
open Go.RowKit Tryz
theorem Vs(s:yF)(c:UInt8)(w:World):
 Calls prog 242 #[.string s,.int .u8 c.toNat] w fun e w'=>e=.returned (.int .i64 (Lib.indexByte s.data.toList c))/\w'=w:=by
 have a:((c.toNat:Int).toNat.toUInt8)=c:=by simp
 have b:=Aa a;clear a;go_enter func242,ntmps242
 go_wp2
 rw[run_callFunc_extern func263 (by kernel_rfl) (by kernel_rfl) (by kernel_rfl) (e:=Extern.BytealgIndexByte.indexByte) (by kernel_rfl),Lib.run_indexByteString,b.o];simp only[Result.andThen];rw[Oper.upon_value]
 go_wp2
 go_ret;exact⟨rfl,rfl⟩
theorem YH(s:yF)(c:UInt8)(w:World):
 Calls prog 204 #[.string s,.int .u8 c.toNat] w fun e w'=>e=.returned (.int .i64 (Lib.indexByte s.data.toList c))/\w'=w:=by
 go_enter func204,ntmps204;go_wp2_with (go_at_call 242;refine(Vs _ _ _).mono ?_;rintro e w' ⟨rfl,rfl⟩);go_ret;exact⟨rfl,rfl⟩
theorem Vr(s:yF)(w:World)(_hs:s.size<=100000):
 Calls prog 261 #[.string s,.string ⟨#[10]⟩] w fun e w'=>e=.returned (.int .i64 (Lib.indexByte s.data.toList 10))/\w'=w:=by
 cases b:(([10]:List UInt8)==s.toList)
 ·go_enter func261,ntmps261
  go_wp2_with fail;refine(Vs s 10 _).mono ?_;rintro e w' ⟨rfl,rfl⟩;go_wp2;go_ret;exact⟨rfl,rfl⟩
 ·go_enter func261,ntmps261
  have a:=Aa (show Lib.indexByte s.data.toList 10=0 by rw[<-Lib.toList_data,<-(beq_iff_eq.1 b)];rfl);go_wp2;go_ret;exact⟨CN (by rw[a.o]),rfl⟩
theorem Vt:∀(l:List UInt8),(Lib.indexByte l 10= -1/\l.dropWhile (· !=10)=[])\/∃i:Nat,Lib.indexByte l 10=i/\i<l.length/\(l.dropWhile (· !=10)).drop 1=l.drop (i+1)
 |[]=>Or.inl ⟨rfl,rfl⟩
 |c::l=>by
  by_cases a:c=10
  ·subst a;exact Or.inr ⟨0,rfl,by simp,by simp⟩
  ·have e:Lib.indexByte (c::l) 10=if Lib.indexByte l 10== -1 then -1 else Lib.indexByte l 10+1:=by
    rw[Lib.indexByte,xG (by simpa using a)]
   rw[List.dropWhile_cons_of_pos (by simpa using a),e];rcases Vt l with⟨b,d⟩|⟨i,b,d,f⟩
   ·exact Or.inl ⟨by rw[b];rfl,d⟩
   ·refine Or.inr ⟨i+1,?_,by simp;omega,by rw[f];rfl⟩
    rw[b,xG (by simp)];omega
theorem kN(s:yF)(w:World)(hs:s.size<=100000):
 Calls prog 238 #[.string s,.string ⟨#[10]⟩] w fun e w'=>∃b a f,e=.returned (.tuple #[.string b,.string a,.bool f])/\a.data.toList=(s.data.toList.dropWhile (· !=10)).drop 1/\yG w w':=by
 rcases Vt s.data.toList with⟨c,d⟩|⟨i,c,d,h⟩
 ·have g:=Aa c
  have j:=Aa d;clear c d;go_enter func238,ntmps238;go_wp2_with fail;refine(Vr s _ hs).mono ?_;rw[g.o];rintro e w' ⟨rfl,rfl⟩;go_wp2;go_ret3;exact⟨_,_,_,rfl,by rw[j.o];rfl,wR _ _⟩
 ·have g:=Aa c
  have k:=Aa h;have l:i<s.size:=d;clear c d h;go_enter func238,ntmps238;go_wp2_with fail;refine(Vr s _ hs).mono ?_;rw[g.o];rintro e w' ⟨rfl,rfl⟩;go_wp2;go_region;all_goals(try go_wp2)
  all_goals go_ret3
  all_goals exact⟨_,_,_,rfl,by rw[k.o,Lib.extract_data,xB (by simp)],by first|exact wR _ _|exact(wR _ _).drew⟩
theorem tM(s:yF)(w:World)(hs:s.size<=100000):
 Calls prog 197 #[.string s,.string ⟨#[10]⟩] w fun e w'=>∃b a f,e=.returned (.tuple #[.string b,.string a,.bool f])/\a.data.toList=(s.data.toList.dropWhile (· !=10)).drop 1/\yG w w':=by
 go_enter func197,ntmps197;go_wp2_with fail;refine(kN s _ hs).mono ?_;rintro e w' ⟨b,a,f,rfl,c,hb⟩;have d:=Aa c;have g:=Aa hb;clear c hb;go_wp2;go_ret3;exact⟨_,_,_,rfl,d.o,g.o⟩
def SW:Value->Nat
 | .string t=>t.size
 |_=>0
theorem Lu(t:yF):SW (.string t)=t.size:=rfl
def OK(t:yF):Prop:=t.size=0\/∃a:0<t.size,Ar Hv t[0]=false/\¬t[0]=35
theorem Ja(t:yF)(a:0<t.size):t.data.toList=t[0]::(t.extract 1 t.size).data.toList:=by
 have:=EO t 0 a;rw[List.drop_zero]at this;rw[this,Lib.extract_data,xB (by simp)]
theorem Md(c:UInt8):Ar Hv c=true↔c=32\/c=9\/c=13\/c=10\/c=44:=by
 simp[Ar,Hv]
theorem lY(r:List UInt8):Bf (35::r)=Bf ((r.dropWhile (· !=10)).drop 1):=by
 rw[lX];cases b:r.dropWhile (· !=10)with
 |nil=>rfl
 |cons a l=>
  have:a=10:=by
   have:=List.head?_dropWhile_not (· !=10) r;rw[b]at this;simpa using this
  subst this;rw[Ml _ _ (by decide)];rfl
theorem Xc(t:yF)(a:0<t.size):t.toList.isEmpty=false:=by
 rw[Lib.toList_data,Ja t a];rfl
theorem UN(t:yF)(a:¬0<t.size):t.toList.isEmpty=true:=by
 rw[Lib.toList_data,xE (show t.data.toList.length=0 by show t.size=0;omega)];rfl
theorem YS(s:yF)(w:World)(hs:s.size<=100000):
 Calls prog 149 #[.string s] w fun e w'=>∃t,e=.returned (.string t)/\OK t/\t.size<=s.size/\Bf s.data.toList=Bf t.data.toList/\yG w w':=by
 go_enter func149,ntmps149;go_wp2
 go_loopw [0] (fun v wr=>∃t:yF,v=.string t/\t.size<=s.size/\Bf s.data.toList=Bf t.data.toList/\yG w wr) (fun v _=>SW v)
 case atStart=>exact⟨s,rfl,wQ _,rfl,wR _ _⟩
 case round=>
  obtain⟨t,rfl,x,u,g⟩:=hrel;have h:=Aa u;clear u;by_cases c:0<t.size
  ·have B:=Xc t c
   cases k:((t[0].toNat:Int)==32)
   ·cases n:((t[0].toNat:Int)==9)
    ·cases j:((t[0].toNat:Int)==13)
     ·cases i:((t[0].toNat:Int)==10)
      ·cases m:((t[0].toNat:Int)==44)
       ·have D:=Aa (show Ar Hv t[0]=false from by
         cases C:Ar Hv t[0]
         ·rfl
         ·rcases(Md _).1 C with e|e|e|e|e
          ·rw[e]at k;simp at k
          ·rw[e]at n;simp at n
          ·rw[e]at j;simp at j
          ·rw[e]at i;simp at i
          ·rw[e]at m;simp at m)
        cases l:((t[0].toNat:Int)==35)
        ·have n35:=Aa (show¬t[0]=35 from by intro e;rw[e]at l;simp at l)
         go_wp2;go_ret;exact⟨t,rfl,Or.inr ⟨c,D.o,n35.o⟩,x,h.o,g⟩
        ·have q:=Aa (show t[0]=35 from Fa (by simpa using l))
         go_wp2_with fail;refine(tM t _ (by omega)).mono ?_;rintro e w1 ⟨b,a,f,rfl,p,r⟩;have y:=Aa p;have G:a.size<t.size:=by
          have z:a.size=a.data.toList.length:=rfl;have E:=OO (· !=10) t.data.toList;have F:t.data.toList.length=t.size:=rfl;rw[z,p,List.length_drop];omega
         have A:=g.trans (r.mono g.size);clear p r;go_wp2
         go_roundw
         case rel=>exact⟨a,rfl,by omega,by rw[h.o,Ja t c,q.o,lY,y.o,Ja t c,q.o];rfl,A⟩
         case measure=>simp only[Lu];omega
       ·have d:=Aa (show Bf t.data.toList=Bf (t.extract 1 t.size).data.toList from by rw[Ja t c];exact Ml _ _ ((Md _).2 (by rw[show t[0]=44 from Fa (by simpa using m)];decide)))
        go_wp2
        go_roundw
        case rel=>exact⟨_,rfl,by simp;omega,by rw[h.o,d.o],g⟩
        case measure=>simp only[Lu,ByteArray.size_extract];omega
      ·have d:=Aa (show Bf t.data.toList=Bf (t.extract 1 t.size).data.toList from by rw[Ja t c];exact Ml _ _ ((Md _).2 (by rw[show t[0]=10 from Fa (by simpa using i)];decide)))
       go_wp2
       go_roundw
       case rel=>exact⟨_,rfl,by simp;omega,by rw[h.o,d.o],g⟩
       case measure=>simp only[Lu,ByteArray.size_extract];omega
     ·have d:=Aa (show Bf t.data.toList=Bf (t.extract 1 t.size).data.toList from by rw[Ja t c];exact Ml _ _ ((Md _).2 (by rw[show t[0]=13 from Fa (by simpa using j)];decide)))
      go_wp2
      go_roundw
      case rel=>exact⟨_,rfl,by simp;omega,by rw[h.o,d.o],g⟩
      case measure=>simp only[Lu,ByteArray.size_extract];omega
    ·have d:=Aa (show Bf t.data.toList=Bf (t.extract 1 t.size).data.toList from by rw[Ja t c];exact Ml _ _ ((Md _).2 (by rw[show t[0]=9 from Fa (by simpa using n)];decide)))
     go_wp2
     go_roundw
     case rel=>exact⟨_,rfl,by simp;omega,by rw[h.o,d.o],g⟩
     case measure=>simp only[Lu,ByteArray.size_extract];omega
   ·have d:=Aa (show Bf t.data.toList=Bf (t.extract 1 t.size).data.toList from by rw[Ja t c];exact Ml _ _ ((Md _).2 (by rw[show t[0]=32 from Fa (by simpa using k)];decide)))
    go_wp2
    go_roundw
    case rel=>exact⟨_,rfl,by simp;omega,by rw[h.o,d.o],g⟩
    case measure=>simp only[Lu,ByteArray.size_extract];omega
  ·have B:=UN t c
   go_wp2;go_ret;exact⟨t,rfl,Or.inl (by omega),x,h.o,g⟩
theorem Qf:∀(l:List UInt8) (o:yF) (c:UInt8),l[Av l o]?=some c->Ar o c=false
 |[],_,_,b=>by simp at b
 |a::l,o,c,b=>by
  by_cases d:Ar o a=true
  ·have e:Av (a::l) o=Av l o+1:=by simp[Av,d]
   rw[e]at b;exact Qf l o c (by simpa using b)
  ·have e:Av (a::l) o=0:=by simp[Av,d]
   rw[e]at b;simp at b;rw[<-b];simpa using d
theorem YC(l:List UInt8)(o:yF)(i:Nat)(c:UInt8)(b:i<Av l o)(a:l[i]?=some c):Ar o c=true:=by
 refine tJ l o c ?_;have:(l.take (Av l o))[i]?=some c:=by rw[List.getElem?_take_of_lt b];exact a
 exact wT this
theorem YD:∀(l:List UInt8) (o p:yF),(∀c,Ar o c=true->Ar p c=true)->Av l o<=Av l p
 |[],_,_,_=>by simp[Av]
 |a::l,o,p,h=>by
  by_cases b:Ar o a=true
  ·have d:Av (a::l) o=Av l o+1:=by simp[Av,b]
   have f:Av (a::l) p=Av l p+1:=by simp[Av,h a b]
   have:=YD l o p h;omega
  ·have e:Av (a::l) o=0:=by simp[Av,b]
   omega
theorem Qv(c:UInt8):Ar AL c=(Ar AP c||Ar DK c):=by
 have a:∀i:Fin 256,Ar AL (UInt8.ofFin i)=(Ar AP (UInt8.ofFin i)||Ar DK (UInt8.ofFin i)):=by decide+kernel
 exact a c.toFin
theorem YF(d:List UInt8):Av d AP<=Av d AL/\(Av d AP<Av d AL->0<Av (d.drop (Av d AP)) DK)/\(Av d AP=Av d AL->Av (d.drop (Av d AP)) DK=0):=by
 have h:=YD d AP AL (fun c a=>by rw[Qv,a];rfl);have k:=Kv d AL;refine⟨h,?_,?_⟩
 ·intro f
  obtain⟨c,a⟩:∃c,d[Av d AP]?=some c:=⟨_,wS (by omega)⟩;have g:=Qf d AP c a;have b:=YC d AL _ c f a;rw[Qv,g,Bool.false_or]at b;have e:d.drop (Av d AP)=c::d.drop (Av d AP+1):=by
   rw[xX (by omega)];congr 1;have:=wS (l:=d) (i:=Av d AP) (by omega);rw[this]at a;exact xD a
  rw[e];simp[Av,b]
 ·intro f
  cases j:d.drop (Av d AP)with
  |nil=>rfl
  |cons c r=>
   have a:d[Av d AL]?=some c:=by
    rw[<-f];have:=congrArg List.head? j;rw[List.head?_drop]at this;exact this
   have b:=Qf d AL c a;rw[Qv]at b;have:Ar DK c=false:=by revert b;cases Ar DK c<;>simp
   simp[Av,this]
theorem Xd(l:List UInt8)(a:Nat)(b:a=if l.head?=some 45 then 1 else 0):
 BJ l=if Av (l.drop a) AP<1\/9<Av (l.drop a) AP\/0<Av ((l.drop a).drop (Av (l.drop a) AP)) DK\/(1<Av (l.drop a) AP/\(l.drop a).head?=some 48)then none
  else some (if a=1 then-Bh ((l.drop a).take (Av (l.drop a) AP)) 0 else Bh ((l.drop a).take (Av (l.drop a) AP)) 0,a+Av (l.drop a) AP):=by
 subst b;unfold BJ;simp only[List.drop_drop]
theorem Jf(l:List UInt8)(a:Nat)(h:a=if l.head?=some 45 then 1 else 0)(b:Av (l.drop a) AL=0\/9<Av (l.drop a) AL\/(1<Av (l.drop a) AL/\(l.drop a).head?=some 48)\/∃j c,j<Av (l.drop a) AL/\(l.drop a)[j]?=some c/\Ar AP c=false):BJ l=none:=by
 rw[Xd l a h];obtain⟨k,d,m⟩:=YF (l.drop a);rw[xH];rcases b with b|b|b|⟨j,c,i,f,g⟩
 ·omega
 ·by_cases e:Av (l.drop a) AP=Av (l.drop a) AL
  ·omega
  ·have:=d (by omega);omega
 ·by_cases e:Av (l.drop a) AP=Av (l.drop a) AL
  ·exact Or.inr (Or.inr (Or.inr ⟨by omega,b.2⟩))
  ·have:=d (by omega);omega
 ·have e:Av (l.drop a) AP<Av (l.drop a) AL:=by
   by_cases e:Av (l.drop a) AP=Av (l.drop a) AL
   ·have:=YC (l.drop a) AP j c (by omega) f
    rw[g]at this;cases this
   ·omega
  have:=d e;omega
theorem PC(l:List UInt8)(a:Nat)(j:a=if l.head?=some 45 then 1 else 0)(n:0<Av (l.drop a) AL)(p:Av (l.drop a) AL<=9)(g:¬(1<Av (l.drop a) AL/\(l.drop a).head?=some 48))(h:∀c∈(l.drop a).take (Av (l.drop a) AL),Ar AP c=true):
 BJ l=some (if a=1 then-Bh ((l.drop a).take (Av (l.drop a) AL)) 0 else Bh ((l.drop a).take (Av (l.drop a) AL)) 0,a+Av (l.drop a) AL):=by
 rw[Xd l a j];obtain⟨r,s,m⟩:=YF (l.drop a);have q:=Kv (l.drop a) AL;have e:Av (l.drop a) AP=Av (l.drop a) AL:=by
  rcases Nat.lt_or_ge (Av (l.drop a) AP) (Av (l.drop a) AL)with d|d
  ·exfalso
   obtain⟨c,f⟩:∃c,(l.drop a)[Av (l.drop a) AP]?=some c:=⟨_,wS (by omega)⟩;have b:=Qf _ AP c f;have:c∈(l.drop a).take (Av (l.drop a) AL):=by
    have:((l.drop a).take (Av (l.drop a) AL))[Av (l.drop a) AP]?=some c:=by rw[List.getElem?_take_of_lt d];exact f
    exact wT this
   rw[h c this]at b;cases b
  ·omega
 have k:=m e;have i:¬(Av (l.drop a) AP<1\/9<Av (l.drop a) AP\/0<Av ((l.drop a).drop (Av (l.drop a) AP)) DK\/(1<Av (l.drop a) AP/\(l.drop a).head?=some 48)):=by
  rw[k,e];rintro(x|x|x|x)
  ·omega
  ·omega
  ·omega
  ·exact g x
 rw[xG i,e]
theorem Rp(d:yF)(k:Nat):(d.extract 0 k).data.toList=d.data.toList.take k:=by
 rw[Lib.extract_data];simp
def Gi(s:yF):yF:=if s.data.toList.head?=some 45 then s.extract 1 s.size else s
theorem Vm(s:yF):((s.extract 0 1).toList==[45])=decide (s.data.toList.head?=some 45):=by
 rw[Lib.toList_data,Rp];cases s.data.toList with
 |nil=>rfl
 |cons a l=>rw[Bool.eq_iff_iff];simp
theorem Zc(s:yF)(w:World)(c:0<s.size)(hs:s.size<=100000):
 Calls prog 239 #[.string s,.string ⟨#[45]⟩] w fun e w'=>e=.returned (.string (Gi s))/\w'=w:=by
 have d:1<=(s.size:Int):=by omega
 cases b:((s.extract 0 1).toList==[45])
 ·have a:=Aa (show Gi s=s from by unfold Gi;rw[xG (by simpa [Vm]using b)])
  go_enter func239,ntmps239
  go_wp2
  go_ret;exact⟨by rw[a.o];rfl,rfl⟩
 ·have a:=Aa (show Gi s=s.extract 1 s.size from by unfold Gi;rw[xH (by simpa [Vm]using b)])
  go_enter func239,ntmps239
  go_wp2
  go_ret;exact⟨by rw[a.o];rfl,rfl⟩
theorem Zd(s:yF)(a:Nat)(b:a=if s.data.toList.head?=some 45 then 1 else 0):(Gi s).data.toList=s.data.toList.drop a:=by
 subst b;unfold Gi;split
 ·rw[Lib.extract_data,xB (by simp)]
 ·simp
theorem Vn(g:yF)(a:0<g.size):((g[0].toNat:Int)==48)=decide (g.data.toList.head?=some 48):=by
 rw[Ja g a,bY];simp
theorem Pa(g:yF)(j:Nat)(a:j<g.size):g.data.toList.take (j+1)=g.data.toList.take j++[g[j]]:=uT g j a
theorem OZ(g:yF)(j:Nat)(a:j<g.size):g.data.toList[j]?=some g[j]:=by
 rw[wS (by simpa using a)];rfl
theorem oV(s:yF)(w:World)(M:0<s.size)(hs:s.size<=100000):
 Calls prog 199 #[.string s] w fun e w'=>e=.returned (Ca (BJ s.data.toList))/\yG w w':=by
 generalize W:Ca (BJ s.data.toList)=q;have t:=Aa W;clear W;have Y:s.data.toList.head?=some s[0]:=by rw[Ja s M];rfl
 cases X:((s[0].toNat:Int)==45)
 ·have h:=Aa (show 0=if s.data.toList.head?=some 45 then 1 else 0 from by simpa [OH,Y]using X)
  have H:=Zd s 0 h.o;have Z:(Gi s).size<=s.size:=by
   have N:(Gi s).size=(Gi s).data.toList.length:=rfl;have O:s.size=s.data.toList.length:=rfl;rw[N,O,H];simp
  go_enter func199,ntmps199;go_wp2_with fail;refine(Zc s _ M hs).mono ?_;rintro e w' ⟨rfl,rfl⟩;generalize Gi s=d at*;have a:=Aa H;clear H;have V:=Kv d.data.toList AL;rw[Array.length_toList,show d.data.size=d.size from rfl]at V;generalize I:Av d.data.toList AL=k at*;have b:=Aa I;go_wp2_with fail;refine(Tn d _ (by omega)).mono ?_;rw[I];rintro e w' ⟨rfl,rfl⟩;clear I;obtain⟨g,K⟩:∃g,d.extract 0 k=g:=⟨_,rfl⟩;have aa:g.size=k:=by rw[<-K];simp;omega
  have l:=Aa (show g.data.toList=d.data.toList.take k from by rw[<-K,Rp]);by_cases c1:k=0
  ·have L:((k:Int)==0)=true:=by simp;omega
   have f:=Aa (show BJ s.data.toList=none from Jf _ 0 h.o (by rw[<-a.o,b.o];exact Or.inl c1));go_wp2;refine bodyPost_ret (v:=Ca none) (by simp[results,results199,go_sem,Ca]) rfl ⟨by rw[<-t.o,f.o],(wR _ _).alloc (wQ _) _⟩
  have L:((k:Int)==0)=false:=by simp;omega
  by_cases c2:9<k
  ·have f:=Aa (show BJ s.data.toList=none from Jf _ 0 h.o (by rw[<-a.o,b.o];exact Or.inr (Or.inl c2)))
   go_wp2;refine bodyPost_ret (v:=Ca none) (by simp[results,results199,go_sem,Ca]) rfl ⟨by rw[<-t.o,f.o],(wR _ _).alloc (wQ _) _⟩
  have T:0<g.size:=by omega
  have C:=Vn g T;have J:=Aa (show g.data.toList.head?=d.data.toList.head? from by rw[l.o,List.head?_take,xG c1]);by_cases c3:1<k
  ·cases D:((g[0].toNat:Int)==48)
   ·have u:=Aa (show¬(1<k/\d.data.toList.head?=some 48)from by rw[<-J.o];rw[C]at D;intro x;simp[x.2]at D)
    clear C;go_wp2;go_loop [5,34] (fun v i=>∃j:Nat,j<=k/\i=.int .i64 j/\v=.int .i64 (Bh (g.data.toList.take j) 0)/\∀c∈g.data.toList.take j,Ar AP c=true) (fun _ i=>k-(intOf i).toNat)
    case atStart=>exact⟨0,wZ _,rfl,by simp[Bh],by simp⟩
    case round=>
     obtain⟨j,U,rfl,rfl,m⟩:=hrel;have hb:=PE (g.data.toList.take j) m 9 (by have:=List.length_take_le j g.data.toList;omega);have Q:Bh (g.data.toList.take j) 0<1000000000:=hb.2;have P:=hb.1;have y:=Aa m;clear m hb;by_cases B:j<k
     ·have A:j<g.size:=by omega
      have z:=Aa (Pa g j A);cases p:Ar AP g[j]
      ·have f:=Aa (show BJ s.data.toList=none from Jf _ 0 h.o (by rw[<-a.o,b.o];exact Or.inr (Or.inr (Or.inr ⟨j,g[j],B,by rw[<-OZ g j A,l.o,List.getElem?_take_of_lt B],p⟩))))
       go_wp2_with (go_at_call 198;refine(Do _ _).mono ?_;rintro e w' ⟨rfl,rfl⟩);refine bodyPost_ret (v:=Ca none) (by simp[results,results199,go_sem,Ca]) rfl ⟨by rw[<-t.o,f.o],(wR _ _).alloc (wQ _) _⟩
      ·have hd:=(Le _).1 p
       have R:=hd.1;have S:=hd.2;clear hd;have G:=Aa (show Bh (g.data.toList.take (j+1)) 0=Bh (g.data.toList.take j) 0*10+((g[j].toNat:Int)-48)from by rw[z.o,PG];omega);have E:=Aa (show∀c∈g.data.toList.take (j+1),Ar AP c=true from by
        rw[z.o];intro c n;rcases yD.1 n with x|x
        ·exact y.o c x
        ·simp at x;rw[x];exact p)
       generalize r:Bh (g.data.toList.take j) 0=v at*;clear r;go_wp2_with (go_at_call 198;refine(Do _ _).mono ?_;rintro e w' ⟨rfl,rfl⟩)
       go_round
       case rel=>exact⟨j+1,by omega,by go_num,by rw[G.o],E.o⟩
       case measure=>simp[intOf];omega
     ·have e:j=k:=by omega
      subst e;have F:=Aa (show BJ s.data.toList=some (Bh (g.data.toList.take j) 0,0+j)from by
       rw[PC _ 0 h.o (by rw[<-a.o,b.o];omega) (by rw[<-a.o,b.o];omega) (by rw[<-a.o,b.o];exact u.o) (by rw[<-a.o,b.o,<-l.o];intro c n;exact y.o c (by rw[xB (by show g.size<=j;omega)];exact n)),<-a.o,b.o];rw[xG (by decide)];rw[l.o,List.take_take,Nat.min_self])
      generalize r:Bh (g.data.toList.take j) 0=v at*;clear r;go_wp2;refine bodyPost_ret (v:=Ca (some (v,0+j))) (by simp[results,results199,go_sem,Ca]) rfl ⟨by rw[<-t.o,F.o],(wR _ _).alloc (wQ _) _⟩
   ·have u:=Aa (show 1<k/\d.data.toList.head?=some 48 from⟨c3,by rw[<-J.o];rw[C]at D;simpa using D⟩)
    clear C;have f:=Aa (show BJ s.data.toList=none from Jf _ 0 h.o (by rw[<-a.o,b.o];exact Or.inr (Or.inr (Or.inl u.o))));go_wp2;refine bodyPost_ret (v:=Ca none) (by simp[results,results199,go_sem,Ca]) rfl ⟨by rw[<-t.o,f.o],(wR _ _).alloc (wQ _) _⟩
  ·have u:=Aa (show¬(1<k/\d.data.toList.head?=some 48)from fun x=>c3 x.1)
   clear C;go_wp2;go_loop [5,34] (fun v i=>∃j:Nat,j<=k/\i=.int .i64 j/\v=.int .i64 (Bh (g.data.toList.take j) 0)/\∀c∈g.data.toList.take j,Ar AP c=true) (fun _ i=>k-(intOf i).toNat)
   case atStart=>exact⟨0,wZ _,rfl,by simp[Bh],by simp⟩
   case round=>
    obtain⟨j,U,rfl,rfl,m⟩:=hrel;have hb:=PE (g.data.toList.take j) m 9 (by have:=List.length_take_le j g.data.toList;omega);have Q:Bh (g.data.toList.take j) 0<1000000000:=hb.2;have P:=hb.1;have y:=Aa m;clear m hb;by_cases B:j<k
    ·have A:j<g.size:=by omega
     have z:=Aa (Pa g j A);cases p:Ar AP g[j]
     ·have f:=Aa (show BJ s.data.toList=none from Jf _ 0 h.o (by rw[<-a.o,b.o];exact Or.inr (Or.inr (Or.inr ⟨j,g[j],B,by rw[<-OZ g j A,l.o,List.getElem?_take_of_lt B],p⟩))))
      go_wp2_with (go_at_call 198;refine(Do _ _).mono ?_;rintro e w' ⟨rfl,rfl⟩);refine bodyPost_ret (v:=Ca none) (by simp[results,results199,go_sem,Ca]) rfl ⟨by rw[<-t.o,f.o],(wR _ _).alloc (wQ _) _⟩
     ·have hd:=(Le _).1 p
      have R:=hd.1;have S:=hd.2;clear hd;have G:=Aa (show Bh (g.data.toList.take (j+1)) 0=Bh (g.data.toList.take j) 0*10+((g[j].toNat:Int)-48)from by rw[z.o,PG];omega);have E:=Aa (show∀c∈g.data.toList.take (j+1),Ar AP c=true from by
       rw[z.o];intro c n;rcases yD.1 n with x|x
       ·exact y.o c x
       ·simp at x;rw[x];exact p)
      generalize r:Bh (g.data.toList.take j) 0=v at*;clear r;go_wp2_with (go_at_call 198;refine(Do _ _).mono ?_;rintro e w' ⟨rfl,rfl⟩)
      go_round
      case rel=>exact⟨j+1,by omega,by go_num,by rw[G.o],E.o⟩
      case measure=>simp[intOf];omega
    ·have e:j=k:=by omega
     subst e;have F:=Aa (show BJ s.data.toList=some (Bh (g.data.toList.take j) 0,0+j)from by
      rw[PC _ 0 h.o (by rw[<-a.o,b.o];omega) (by rw[<-a.o,b.o];omega) (by rw[<-a.o,b.o];exact u.o) (by rw[<-a.o,b.o,<-l.o];intro c n;exact y.o c (by rw[xB (by show g.size<=j;omega)];exact n)),<-a.o,b.o];rw[xG (by decide)];rw[l.o,List.take_take,Nat.min_self])
     generalize r:Bh (g.data.toList.take j) 0=v at*;clear r;go_wp2;refine bodyPost_ret (v:=Ca (some (v,0+j))) (by simp[results,results199,go_sem,Ca]) rfl ⟨by rw[<-t.o,F.o],(wR _ _).alloc (wQ _) _⟩
 ·have h:=Aa (show 1=if s.data.toList.head?=some 45 then 1 else 0 from by simpa [OH,Y]using X)
  have H:=Zd s 1 h.o;have Z:(Gi s).size<=s.size:=by
   have N:(Gi s).size=(Gi s).data.toList.length:=rfl;have O:s.size=s.data.toList.length:=rfl;rw[N,O,H];simp
  go_enter func199,ntmps199;go_wp2_with fail;refine(Zc s _ M hs).mono ?_;rintro e w' ⟨rfl,rfl⟩;generalize Gi s=d at*;have a:=Aa H;clear H;have V:=Kv d.data.toList AL;rw[Array.length_toList,show d.data.size=d.size from rfl]at V;generalize I:Av d.data.toList AL=k at*;have b:=Aa I;go_wp2_with fail;refine(Tn d _ (by omega)).mono ?_;rw[I];rintro e w' ⟨rfl,rfl⟩;clear I;obtain⟨g,K⟩:∃g,d.extract 0 k=g:=⟨_,rfl⟩;have aa:g.size=k:=by rw[<-K];simp;omega
  have l:=Aa (show g.data.toList=d.data.toList.take k from by rw[<-K,Rp]);by_cases c1:k=0
  ·have L:((k:Int)==0)=true:=by simp;omega
   have f:=Aa (show BJ s.data.toList=none from Jf _ 1 h.o (by rw[<-a.o,b.o];exact Or.inl c1));go_wp2;refine bodyPost_ret (v:=Ca none) (by simp[results,results199,go_sem,Ca]) rfl ⟨by rw[<-t.o,f.o],(wR _ _).alloc (wQ _) _⟩
  have L:((k:Int)==0)=false:=by simp;omega
  by_cases c2:9<k
  ·have f:=Aa (show BJ s.data.toList=none from Jf _ 1 h.o (by rw[<-a.o,b.o];exact Or.inr (Or.inl c2)))
   go_wp2;refine bodyPost_ret (v:=Ca none) (by simp[results,results199,go_sem,Ca]) rfl ⟨by rw[<-t.o,f.o],(wR _ _).alloc (wQ _) _⟩
  have T:0<g.size:=by omega
  have C:=Vn g T;have J:=Aa (show g.data.toList.head?=d.data.toList.head? from by rw[l.o,List.head?_take,xG c1]);by_cases c3:1<k
  ·cases D:((g[0].toNat:Int)==48)
   ·have u:=Aa (show¬(1<k/\d.data.toList.head?=some 48)from by rw[<-J.o];rw[C]at D;intro x;simp[x.2]at D)
    clear C;go_wp2;go_loop [5,34] (fun v i=>∃j:Nat,j<=k/\i=.int .i64 j/\v=.int .i64 (Bh (g.data.toList.take j) 0)/\∀c∈g.data.toList.take j,Ar AP c=true) (fun _ i=>k-(intOf i).toNat)
    case atStart=>exact⟨0,wZ _,rfl,by simp[Bh],by simp⟩
    case round=>
     obtain⟨j,U,rfl,rfl,m⟩:=hrel;have hb:=PE (g.data.toList.take j) m 9 (by have:=List.length_take_le j g.data.toList;omega);have Q:Bh (g.data.toList.take j) 0<1000000000:=hb.2;have P:=hb.1;have y:=Aa m;clear m hb;by_cases B:j<k
     ·have A:j<g.size:=by omega
      have z:=Aa (Pa g j A);cases p:Ar AP g[j]
      ·have f:=Aa (show BJ s.data.toList=none from Jf _ 1 h.o (by rw[<-a.o,b.o];exact Or.inr (Or.inr (Or.inr ⟨j,g[j],B,by rw[<-OZ g j A,l.o,List.getElem?_take_of_lt B],p⟩))))
       go_wp2_with (go_at_call 198;refine(Do _ _).mono ?_;rintro e w' ⟨rfl,rfl⟩);refine bodyPost_ret (v:=Ca none) (by simp[results,results199,go_sem,Ca]) rfl ⟨by rw[<-t.o,f.o],(wR _ _).alloc (wQ _) _⟩
      ·have hd:=(Le _).1 p
       have R:=hd.1;have S:=hd.2;clear hd;have G:=Aa (show Bh (g.data.toList.take (j+1)) 0=Bh (g.data.toList.take j) 0*10+((g[j].toNat:Int)-48)from by rw[z.o,PG];omega);have E:=Aa (show∀c∈g.data.toList.take (j+1),Ar AP c=true from by
        rw[z.o];intro c n;rcases yD.1 n with x|x
        ·exact y.o c x
        ·simp at x;rw[x];exact p)
       generalize r:Bh (g.data.toList.take j) 0=v at*;clear r;go_wp2_with (go_at_call 198;refine(Do _ _).mono ?_;rintro e w' ⟨rfl,rfl⟩)
       go_round
       case rel=>exact⟨j+1,by omega,by go_num,by rw[G.o],E.o⟩
       case measure=>simp[intOf];omega
     ·have e:j=k:=by omega
      subst e;have F:=Aa (show BJ s.data.toList=some (-Bh (g.data.toList.take j) 0,1+j)from by
       rw[PC _ 1 h.o (by rw[<-a.o,b.o];omega) (by rw[<-a.o,b.o];omega) (by rw[<-a.o,b.o];exact u.o) (by rw[<-a.o,b.o,<-l.o];intro c n;exact y.o c (by rw[xB (by show g.size<=j;omega)];exact n)),<-a.o,b.o];rw[xH rfl];rw[l.o,List.take_take,Nat.min_self])
      generalize r:Bh (g.data.toList.take j) 0=v at*;clear r;go_wp2;refine bodyPost_ret (v:=Ca (some (-v,1+j))) (by simp[results,results199,go_sem,Ca];omega) rfl ⟨by rw[<-t.o,F.o],(wR _ _).alloc (wQ _) _⟩
   ·have u:=Aa (show 1<k/\d.data.toList.head?=some 48 from⟨c3,by rw[<-J.o];rw[C]at D;simpa using D⟩)
    clear C;have f:=Aa (show BJ s.data.toList=none from Jf _ 1 h.o (by rw[<-a.o,b.o];exact Or.inr (Or.inr (Or.inl u.o))));go_wp2;refine bodyPost_ret (v:=Ca none) (by simp[results,results199,go_sem,Ca]) rfl ⟨by rw[<-t.o,f.o],(wR _ _).alloc (wQ _) _⟩
  ·have u:=Aa (show¬(1<k/\d.data.toList.head?=some 48)from fun x=>c3 x.1)
   clear C;go_wp2;go_loop [5,34] (fun v i=>∃j:Nat,j<=k/\i=.int .i64 j/\v=.int .i64 (Bh (g.data.toList.take j) 0)/\∀c∈g.data.toList.take j,Ar AP c=true) (fun _ i=>k-(intOf i).toNat)
   case atStart=>exact⟨0,wZ _,rfl,by simp[Bh],by simp⟩
   case round=>
    obtain⟨j,U,rfl,rfl,m⟩:=hrel;have hb:=PE (g.data.toList.take j) m 9 (by have:=List.length_take_le j g.data.toList;omega);have Q:Bh (g.data.toList.take j) 0<1000000000:=hb.2;have P:=hb.1;have y:=Aa m;clear m hb;by_cases B:j<k
    ·have A:j<g.size:=by omega
     have z:=Aa (Pa g j A);cases p:Ar AP g[j]
     ·have f:=Aa (show BJ s.data.toList=none from Jf _ 1 h.o (by rw[<-a.o,b.o];exact Or.inr (Or.inr (Or.inr ⟨j,g[j],B,by rw[<-OZ g j A,l.o,List.getElem?_take_of_lt B],p⟩))))
      go_wp2_with (go_at_call 198;refine(Do _ _).mono ?_;rintro e w' ⟨rfl,rfl⟩);refine bodyPost_ret (v:=Ca none) (by simp[results,results199,go_sem,Ca]) rfl ⟨by rw[<-t.o,f.o],(wR _ _).alloc (wQ _) _⟩
     ·have hd:=(Le _).1 p
      have R:=hd.1;have S:=hd.2;clear hd;have G:=Aa (show Bh (g.data.toList.take (j+1)) 0=Bh (g.data.toList.take j) 0*10+((g[j].toNat:Int)-48)from by rw[z.o,PG];omega);have E:=Aa (show∀c∈g.data.toList.take (j+1),Ar AP c=true from by
       rw[z.o];intro c n;rcases yD.1 n with x|x
       ·exact y.o c x
       ·simp at x;rw[x];exact p)
      generalize r:Bh (g.data.toList.take j) 0=v at*;clear r;go_wp2_with (go_at_call 198;refine(Do _ _).mono ?_;rintro e w' ⟨rfl,rfl⟩)
      go_round
      case rel=>exact⟨j+1,by omega,by go_num,by rw[G.o],E.o⟩
      case measure=>simp[intOf];omega
    ·have e:j=k:=by omega
     subst e;have F:=Aa (show BJ s.data.toList=some (-Bh (g.data.toList.take j) 0,1+j)from by
      rw[PC _ 1 h.o (by rw[<-a.o,b.o];omega) (by rw[<-a.o,b.o];omega) (by rw[<-a.o,b.o];exact u.o) (by rw[<-a.o,b.o,<-l.o];intro c n;exact y.o c (by rw[xB (by show g.size<=j;omega)];exact n)),<-a.o,b.o];rw[xH rfl];rw[l.o,List.take_take,Nat.min_self])
     generalize r:Bh (g.data.toList.take j) 0=v at*;clear r;go_wp2;refine bodyPost_ret (v:=Ca (some (-v,1+j))) (by simp[results,results199,go_sem,Ca];omega) rfl ⟨by rw[<-t.o,F.o],(wR _ _).alloc (wQ _) _⟩
def Bp:Obj:=.cells #[.int .i64 0,.string ⟨#[]⟩,.int .i64 0] 174
theorem eX(s:yF)(w:World)(a:Gz s.data.toList=none):Calls prog 240 #[.string s] w fun e w'=>e=.returned (.int .u8 0)/\w'=w:=by
 have:=US s w;rw[a]at this;exact this
theorem eY(s:yF)(c:UInt8)(w:World)(a:Gz s.data.toList=some c):Calls prog 240 #[.string s] w fun e w'=>e=.returned (.int .u8 c.toNat)/\w'=w:=by
 have:=US s w;rw[a]at this;exact this
theorem Ro(s:yF)(k:Nat):(s.extract k s.size).data.toList=s.data.toList.drop k:=by
 rw[Lib.extract_data,xB (by simp)]
theorem uH(s:yF)(k:Nat)(a:List UInt8)(m:Nat)(d:k<s.size)(c:s[k]=92)(b:Gz (s.data.toList.drop (k+1))=none):Cm (s.data.toList.drop k) a m=none:=by
 by_cases e:s.size<=k+1
 ·exact uG s k a m d c e
 ·rw[YX s k a m (by omega) c]
  rw[EO s (k+1) (by omega)]at b;simp only[Gz]at b;rw[b]
theorem uI(s:yF)(k:Nat)(b:List UInt8)(m:Nat)(e:UInt8)(f:k<s.size)(c:s[k]=92)(a:Gz (s.data.toList.drop (k+1))=some e):k+1<s.size/\Cm (s.data.toList.drop k) b m=Cm (s.data.toList.drop (k+2)) (b++[e]) (m+2):=by
 by_cases d:s.size<=k+1
 ·rw[xW (by simp;exact d)]at a;cases a
 ·refine⟨by omega,?_⟩
  rw[YX s k b m (by omega) c];rw[EO s (k+1) (by omega)]at a;simp only[Gz]at a;rw[a]
theorem eV(l:List UInt8)(e:UInt8)(a:Gz l=some e):((e.toNat:Int)==0)=false:=by
 match l with
 |[]=>cases a
 |d::r=>
  simp only[Gz,Fk]at a;split at a
  ·cases a;rfl
  split at a
  ·cases a;rfl
  split at a
  ·cases a;rfl
  split at a
  ·cases a;rfl
  ·cases a
theorem sA(s:yF)(w:World)(Y:0<s.size)(hs:s.size<=100000):
 Calls prog 202 #[.string s] w fun e w'=>e=.returned (Gg (Cm (s.data.toList.drop 1) [] 1))/\yG w w':=by
 generalize O:Gg (Cm (s.data.toList.drop 1) [] 1)=q;have h:=Aa O;clear O;obtain⟨T,L,Q,R,S⟩:=info_parts info5;go_enter func202,ntmps202;go_wp2
 go_loopw [4,5] (fun v i wr=>∃(k:Nat) (a:List UInt8),1<=k/\k<=s.size/\i=.int .i64 k/\wr.ownsRow (w.heap.size+1) 5 1 v a.length (CR a)/\a.length<=k/\Below (w.heap.size+1) (w.alloc Bp) wr/\Cm (s.data.toList.drop 1) [] 1=Cm (s.data.toList.drop k) a k) (fun _ i _=>s.size-(intOf i).toNat)
 case atStart=>exact⟨1,[],by omega,by omega,by go_num,xF _ _ _ _,by simp,wR _ _,rfl⟩
 case round=>
  obtain⟨k,a,ad,ae,rfl,r,Z,d,P⟩:=hrel;have b:=Aa P;clear P;have A:∀j,wr.cell? ⟨w.heap.size,j,none⟩=(w.alloc Bp).cell? ⟨w.heap.size,j,none⟩:=fun j=>d.cell (by simp);have ab:∀j,wr.frozen? ⟨w.heap.size,j,none⟩=false:=fun j=>by rw[d.frozen (by simp)];exact Iz w _ j
  have l:wr.cell? ⟨w.heap.size,0,none⟩=some (.int .i64 0):=by rw[A];simp[Bp]
  have m:wr.cell? ⟨w.heap.size,1,none⟩=some (.string ⟨#[]⟩):=by rw[A];simp[Bp]
  have n:wr.cell? ⟨w.heap.size,2,none⟩=some (.int .i64 0):=by rw[A];simp[Bp]
  clear A;have V:yG w wr:=((wR _ _).alloc (wQ _) _).trans (d.mono (by omega));have p:∀x y z,yG w (((wr.setCell ⟨w.heap.size,0,none⟩ x).setCell ⟨w.heap.size,1,none⟩ y).setCell ⟨w.heap.size,2,none⟩ z):=fun x y z=>((V.setCell (wQ _) x).setCell (wQ _) y).setCell (wQ _) z;have ag:w.heap.size+1<=wr.heap.size:=by have:=d.size;simp at this;omega
  by_cases f:k<s.size
  ·have ah:0<=(s[k].toNat:Int):=by omega
   have ai:(s[k].toNat:Int)<=255:=by have:=s[k].toNat_lt;omega
   cases D:((s[k].toNat:Int)==34)
   ·have n34:=Aa (show¬s[k]=34 from by intro e;rw[e]at D;simp at D)
    cases E:((s[k].toNat:Int)==92)
    ·have n92:=Aa (show¬s[k]=92 from by intro e;rw[e]at E;simp at E)
     by_cases M:(s[k].toNat:Int)<32
     ·go_wp2
      refine bodyPost_ret (v:=Gg none) (by simp[results,results202,go_sem,Gg,l,m,n]) rfl ⟨by rw[<-h.o,b.o,YW s k _ _ f (Or.inl ((Ql _ _).2 M))],p _ _ _⟩
     by_cases K:126<(s[k].toNat:Int)
     ·go_wp2
      refine bodyPost_ret (v:=Gg none) (by simp[results,results202,go_sem,Gg,l,m,n]) rfl ⟨by rw[<-h.o,b.o,YW s k _ _ f (Or.inr ((Ql _ _).2 K))],p _ _ _⟩
     have X:=Aa (show¬(s[k]<32\/126<s[k])from by
      rintro(x|x)
      ·exact M ((Ql _ _).1 x)
      ·exact K ((Ql _ _).1 x))
     have W:((s[k].toNat:Int)==0)=false:=by simp;omega
     have g:=Aa (uJ s k a k f n34.o X.o n92.o);have B:=Aa (g.o);go_wp2_with (at_builtin;refine wpList_append_own _ rfl _ _ 69 rfl (w.heap.size+1) 5 T (.int .u8 0) 1 1 underlying69 L Q R S rfl (by decide) _ _ _ rfl (r.alloc _) ⟨wr.heap.size,0,none⟩ 1 1 [.int .u8 ↑s[k].toNat] rfl rfl (cell_one_new _ _ _) (fun u t=>by simp at t;subst t;rfl) (by unfold maxLen;omega) (by omega) (by simp;omega) ?_;intro v' w1 I G _);have F:Below (w.heap.size+1) (w.alloc Bp) w1:=Below.grown (d.alloc (by omega) _) G (by simp;omega) (fun k H=>(r.lt k H).1)
     go_roundw
     case rel=>exact⟨k+1,a++[_],by omega,by omega,by go_num,by simpa [CR]using I,by simp;omega,F,by rw[b.o,B.o]⟩
     case measure=>simp[intOf];omega
    ·have J:=Aa (show s[k]=92 from Fa (by simpa using E))
     cases c:Gz (s.data.toList.drop (k+1))with
     |none=>
      have g:=Aa (uH s k a k f J.o c);have C:=Aa (show Gz (s.extract (k+1) s.size).data.toList=none from by rw[Ro];exact c);clear c;go_wp2_with fail;refine(eX _ _ C.o).mono ?_;rintro e w' ⟨rfl,rfl⟩;go_wp2;refine bodyPost_ret (v:=Gg none) (by simp[results,results202,go_sem,Gg,l,m,n]) rfl ⟨by rw[<-h.o,b.o,g.o],p _ _ _⟩
     |some x=>
      obtain⟨af,N⟩:=uI s k a k x f J.o c;have g:=Aa N;have W:=eV _ x c;have aj:(x.toNat:Int)<=255:=by have:=x.toNat_lt;omega
      have C:=Aa (show Gz (s.extract (k+1) s.size).data.toList=some x from by rw[Ro];exact c);clear c N;go_wp2_with fail;refine(eY _ x _ C.o).mono ?_;rintro e w' ⟨rfl,rfl⟩;have B:=Aa (g.o);go_wp2_with (at_builtin;refine wpList_append_own _ rfl _ _ 69 rfl (w.heap.size+1) 5 T (.int .u8 0) 1 1 underlying69 L Q R S rfl (by decide) _ _ _ rfl (r.alloc _) ⟨w'.heap.size,0,none⟩ 1 1 [.int .u8 ↑x.toNat] rfl rfl (cell_one_new _ _ _) (fun u t=>by simp at t;subst t;rfl) (by unfold maxLen;omega) (by omega) (by simp;omega) ?_;intro v' w1 I G _);have F:Below (w.heap.size+1) (w.alloc Bp) w1:=Below.grown (d.alloc (by omega) _) G (by simp;omega) (fun k H=>(r.lt k H).1)
      go_roundw
      case rel=>exact⟨k+2,a++[x],by omega,by omega,by go_num,by simpa [CR]using I,by simp;omega,F,by rw[b.o,B.o]⟩
      case measure=>simp[intOf];omega
   ·have U:=Aa (uK s k a k f (Fa (by simpa using D)))
    have aa:=Nk wr _ _ a r;go_wp2;refine bodyPost_ret (v:=Gg (some (a,k+1))) (by simp[results,results202,go_sem,Gg,l,m,n]) rfl ⟨by rw[<-h.o,b.o,U.o],p _ _ _⟩
  ·go_wp2
   refine bodyPost_ret (v:=Gg none) (by simp[results,results202,go_sem,Gg,l,m,n]) rfl ⟨by rw[<-h.o,b.o,uF s k _ _ (by omega)],p _ _ _⟩
end Go.Proofs.YtogdodlibkckkaaGreatDoor
