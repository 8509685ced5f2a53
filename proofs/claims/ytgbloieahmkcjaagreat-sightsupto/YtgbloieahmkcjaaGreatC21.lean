import Derived.Test.YtgbloieahmkcjaaGreatC10
import Derived.BigQuiet
namespace Go.Proofs.YtgbloieahmkcjaaGreat
set_option maxHeartbeats 20000000
set_option maxRecDepth 100000
open Go.RowKit Tryz
theorem wN(v:Value)(x:Ls)(l:List Ls)(w:World)(h:lU w v 4 1 l)(hl:l.length<=100000):
 Calls prog 47 #[v,.string x] w fun e w'=>e=.returned (.int .i64 (ah l x))/\w'=w:=by
 obtain⟨a,cap,rfl,h3⟩:=h;generalize hq:ah l x=q;have HQ:=aa hq;have H3:=aa h3;clear hq h3;go_enter func47,ntmps47;go_wp2_with fail;go_loop [5] (fun i=>∃k:Nat,k<=l.length/\i=.int .i64 k/\∀y∈l.take k,y≠x) (fun i=>l.length-(intOf i).toNat)
 case atStart=>exact⟨0,KU _,rfl,by simp⟩
 case round=>
  obtain⟨k,hk,rfl,hc⟩:=hrel;have HC:=aa hc;clear hc;by_cases hlt:k<l.length
  ·obtain⟨g,ha,h4⟩:∃g,a=some ⟨g,0,none⟩/\∀j x,l[j]?=some x->w.cell? ⟨g,j*4+1,none⟩=some (.string x):=by
    rcases H3.o with e|e
    ·rw[e]at hlt;simp at hlt
    ·exact e
   subst ha;have hx:=KM hlt;have LQ:=h4 k _ hx;have hg:=KQ w _ LQ;simp only at hg;have HX:=aa hx;clear h4 hx;generalize l[k]=y at*;cases hy:(y.toList==x.toList)
   ·go_wp2
    go_round
    case rel=>exact⟨k+1,by omega,by go_num,by
     rw[Ld,HX.o];intro z hz;rcases List.mem_append.1 hz with hz|hz
     ·exact HC.o z hz
     ·simp at hz;subst hz;rw[bY]at hy;simpa using hy⟩
    case measure=>simp[intOf];omega
   ·go_wp2
    go_ret;exact⟨dx (by rw[<-HQ.o];rw[bY]at hy;simp only[Lc]at hy;subst hy;unfold ah;rw[lj l y 0 k HC.o HX.o];simp),rfl⟩
  ·go_wp2
   go_ret;exact⟨dx (by
    rw[<-HQ.o];have:=HC.o;rw[KW (by omega)]at this;unfold ah;rw[lG l x 0 this]),rfl⟩
theorem Gg(t:Ls)(h:0<t.size):mF t=((t[0].toNat:Int)==91):=by
 unfold mF;rw[kJ t h,List.head?_cons];rw[Bool.eq_iff_iff];simp only[Lc,Option.some.injEq,beq_iff_eq];constructor
 ·intro e;rw[e];rfl
 ·intro e;exact fp (by simpa using e)
def nc(t:Ls):Bool:=decide (t.data.toList.getLast?=some 33)
theorem Id(t:Ls)(h:0<t.size):nc t=((t[t.size-1].toNat:Int)==33):=by
 unfold nc;have e:t.data.toList.getLast?=some t[t.size-1]:=by
  rw[List.getLast?_eq_getElem?,Array.length_toList,Array.getElem?_toList];exact Array.getElem?_eq_getElem (show t.data.size-1<t.data.size from by show t.size-1<t.size;omega)
 rw[e,Bool.eq_iff_iff];simp only[Lc,Option.some.injEq,beq_iff_eq];constructor
 ·intro q;rw[q];rfl
 ·intro q;exact fp (by simpa using q)
theorem DR(t:Ls)(w:World)(h:0<t.size)(hs:t.size<=100000):
 Calls prog 121 #[.string t] w fun e w'=>e=.returned (.bool (nc t))/\w'=w:=by
 rw[Id t h];go_enter func121,ntmps121;go_wp2_with fail;go_ret;exact⟨rfl,rfl⟩
def oR(t:Ls):Ls:=if mF t=true then(if nc t=true then(t.extract 0 (t.size-1)).extract 1 (t.size-1-1)else t.extract 1 (t.size-1))else⟨#[]⟩
theorem yI(t:Ls)(w:World)(h:0<t.size)(h3:mF t=true->2<=t.size/\(nc t=true->3<=t.size))(hs:t.size<=100000):
 Calls prog 87 #[.string t] w fun e w'=>e=.returned (.string (oR t))/\w'=w:=by
 have hm:=DR t w h hs;have HL:=aa (Gg t h);have HQ:=aa (show oR t=if mF t=true then(if nc t=true then(t.extract 0 (t.size-1)).extract 1 (t.size-1-1)else t.extract 1 (t.size-1))else⟨#[]⟩from rfl);generalize oR t=q at*;cases h91:((t[0].toNat:Int)==91)
 ·rw[h91]at HL
  go_enter func87,ntmps87;go_wp2_with fail;go_ret;exact⟨by rw[HQ.o,HL.o];rfl,rfl⟩
 ·rw[h91]at HL
  obtain⟨z1,z2⟩:=h3 HL.o;clear h3;cases hb:nc t
  ·rw[hb]at hm HQ
   go_enter func87,ntmps87;go_wp2_with fail;refine hm.mono ?_;clear hm;rintro e w' ⟨rfl,hw'⟩;have hw':=hw'.symm;subst hw';go_wp2_with fail;go_ret;exact⟨by rw[HQ.o,HL.o];rfl,rfl⟩
  ·rw[hb]at hm HQ
   have z3:=z2 hb;go_enter func87,ntmps87;go_wp2_with fail;refine hm.mono ?_;clear hm;rintro e w' ⟨rfl,hw'⟩;have hw':=hw'.symm;subst hw';go_wp2_with fail;go_ret;exact⟨by rw[HQ.o,HL.o];rfl,rfl⟩
def ic(Lu:List aj)(x y:Ls):Bool:=decide (y=bE)||ba y (iE Lu x)
theorem wm(aD:Option Addr)(nD cD:Nat)(v:Value)(x y:Ls)(Lu:List aj)(w:World)(h:gZ w v Lu)(hl:Lu.length<=801)(hU:(fQ Lu).length<=700000):
 Calls prog 51 #[.agg #[v,.slice aD nD cD],.string x,.string y] w fun e w'=>e=.returned (.bool (ic Lu x y))/\Lt w w':=by
 have hq:ic Lu x y=(y.toList.isEmpty||ba y (iE Lu x)):=by unfold ic;rw[kL]
 have HQ:=aa hq;clear hq;have hc:=fun W (hW:Lt w W)=>BL aD nD cD v x Lu W (h.below hW) hl hU;obtain⟨a,cap,rfl,_⟩:=h;generalize ic Lu x y=q at*;go_enter func51,ntmps51;go_wp2_with fail;refine(hc _ ((KL _ _).alloc (KK _) _)).mono ?_;clear hc;rintro e w1 ⟨u,rfl,ho,Me,hb1⟩;have LP:Lt w w1:=((KL _ _).alloc (KK _) _).trans (hb1.mono (by simp));have hm:=o5 y _ _ w1 (cH.of_own ho) (by omega);obtain⟨aV,capV,hvV⟩:=bc ho;subst hvV;generalize ba y (iE Lu x)=mb at*;go_wp2_with fail;refine hm.mono ?_;clear hm;rintro e w' ⟨rfl,hw'⟩;have hw':=hw'.symm;subst hw';cases he:y.toList.isEmpty
 ·go_wp2_with fail
  go_ret;exact⟨am (by rw[HQ.o,he];rfl),LP⟩
 ·go_wp2_with fail
  go_ret;exact⟨am (by rw[HQ.o,he];rfl),LP⟩
abbrev dd:=Ls×Ls
abbrev bo:=Ls×Ls×List dd
def kK(w:World)(v:Value)(l:List dd):Prop:=∃a cap,v=.slice a l.length cap/\l.length<=cap/\(l=[]\/∃g off,a=some ⟨g,off,none⟩/\∀j c,l[j]?=some c->w.cell? ⟨g,off+j*2,none⟩=some (.string c.1)/\w.cell? ⟨g,off+j*2+1,none⟩=some (.string c.2))
def eM(w:World)(v:Value)(l:List bo):Prop:=∃a cap,v=.slice a l.length cap/\l.length<=cap/\(l=[]\/∃g off,a=some ⟨g,off,none⟩/\∀j r,l[j]?=some r->w.cell? ⟨g,off+j*3,none⟩=some (.string r.1)/\w.cell? ⟨g,off+j*3+1,none⟩=some (.string r.2.1)/\∃u,w.cell? ⟨g,off+j*3+2,none⟩=some u/\kK w u r.2.2)
theorem kK.below{w w':World}{v:Value}{l:List dd}(h:kK w v l)(hb:Lt w w'):kK w' v l:=by
 obtain⟨a,cap,h1,h2,h3⟩:=h;refine⟨a,cap,h1,h2,?_⟩;rcases h3 with h3|⟨g,off,h3,h4⟩
 ·exact Or.inl h3
 ·exact Or.inr ⟨g,off,h3,fun j c hj=>⟨ao hb (h4 j c hj).1,ao hb (h4 j c hj).2⟩⟩
theorem eM.below{w w':World}{v:Value}{l:List bo}(h:eM w v l)(hb:Lt w w'):eM w' v l:=by
 obtain⟨a,cap,h1,h2,h3⟩:=h;refine⟨a,cap,h1,h2,?_⟩;rcases h3 with h3|⟨g,off,h3,h4⟩
 ·exact Or.inl h3
 ·refine Or.inr ⟨g,off,h3,fun j r hj=>?_⟩
  obtain⟨c0,c1,u,c2,hu⟩:=h4 j r hj;exact⟨ao hb c0,ao hb c1,u,ao hb c2,hu.below hb⟩
theorem kK.at{w:World}{a:Option Addr}{cap i:Nat}{l:List dd}{c:dd}(h:kK w (.slice a l.length cap) l)(hi:l[i]?=some c):∃g off,a=some ⟨g,off,none⟩/\w.cell? ⟨g,off+i*2,none⟩=some (.string c.1)/\w.cell? ⟨g,off+i*2+1,none⟩=some (.string c.2):=by
 obtain⟨a',LM,e1,h2,h3⟩:=h;cases e1;rcases h3 with e|⟨g,off,e,h4⟩
 ·rw[e]at hi;simp at hi
 ·exact⟨g,off,e,h4 i c hi⟩
theorem eM.at{w:World}{a:Option Addr}{cap i:Nat}{l:List bo}{r:bo}(h:eM w (.slice a l.length cap) l)(hi:l[i]?=some r):∃g off aC cC,a=some ⟨g,off,none⟩/\w.cell? ⟨g,off+i*3,none⟩=some (.string r.1)/\w.cell? ⟨g,off+i*3+1,none⟩=some (.string r.2.1)/\w.cell? ⟨g,off+i*3+2,none⟩=some (.slice aC r.2.2.length cC)/\kK w (.slice aC r.2.2.length cC) r.2.2:=by
 obtain⟨a',LM,e1,h2,h3⟩:=h;cases e1;rcases h3 with e|⟨g,off,e,h4⟩
 ·rw[e]at hi;simp at hi
 ·obtain⟨c0,c1,u,c2,hu⟩:=h4 i r hi
  have hu0:=hu;obtain⟨aC,cC,rfl,_⟩:=hu;exact⟨g,off,aC,cC,e,c0,c1,c2,hu0⟩
theorem eu34:prog.underlying 34=some (.struct (prog.fieldsOf 34)):=by kernel_rfl
theorem sh34:prog.stoodInHeld 34=false:=by kernel_rfl
theorem eg34:prog.eqGuardType prog.depth 34=false:=by kernel_rfl
theorem fs34:(prog.fieldsOf 34).toList.map (fun f=>(f.name,f.type,f.offset))=[("Name",9,0),("Text",9,1)]:=by kernel_rfl
theorem t8(w:World)(a0 a1 b0 b1:Ls):
 (Op.equalIn 10000 34 (.agg #[.string a0,.string a1]) (.agg #[.string b0,.string b1])).run prog w=.ok ((a0.toList==b0.toList)&&(a1.toList==b1.toList)) w:=by
 rw[run_equalIn_struct w 9999 34 _ _ eu34 sh34];have h:=fs34;generalize (prog.fieldsOf 34).toList=l at h;rcases l with _|⟨f0,_|⟨f1,_|⟨f2,l⟩⟩⟩;all_goals first
  |(exfalso;have:=congrArg List.length h;simp at this;done)
  |skip
 ·simp only[List.map_cons,List.map_nil,List.cons.injEq,Prod.mk.injEq,and_true]at h
  obtain⟨⟨n0,t0,o0⟩,⟨n1,t1,o1⟩⟩:=h;rw[ov w 9998 _ _ f0 _ a0 b0 (by rw[n0];decide) t0 (by rw[o0];rfl) (by rw[o0];rfl)];rw[ov w 9998 _ _ f1 _ a1 b1 (by rw[n1];decide) t1 (by rw[o1];rfl) (by rw[o1];rfl)];rw[wK];cases (a0.toList==b0.toList)<;>cases (a1.toList==b1.toList)<;>rfl
theorem yG{α:Type}{l m:List α}{i:Nat}{x y:α}(h:l.take i=m.take i)(hx:l[i]?=some x)(hy:m[i]?=some y)(e:x=y):l.take (i+1)=m.take (i+1):=by
 rw[Ld,Ld,h,hx,hy,e]
theorem AN{α:Type}{l m:List α}{i:Nat}{x y:α}(hx:l[i]?=some x)(hy:m[i]?=some y)(e:x≠y):l≠m:=by
 intro q;subst q;rw[hx]at hy;exact e (KY hy)
theorem sH(va vb:Value)(l m:List bo)(w:World)(ha:eM w va l)(hb:eM w vb m)(hl:l.length<=2000000)(hcl:∀r∈l,r.2.2.length<=2000000):
 Calls prog 15 #[va,vb] w fun e w'=>e=.returned (.bool (decide (l=m)))/\∃n,w'=w.drewN n:=by
 have HA:=aa ha;have HB:=aa hb;have HCL:=aa hcl;obtain⟨aA,cA,rfl,_,_⟩:=ha;obtain⟨aB,cB,rfl,_,_⟩:=hb;clear hcl;have hq34:=t8;have hg34:=eg34;generalize hq:decide (l=m)=q;have HQ:=aa hq;clear hq;by_cases Me:l.length=m.length
 ·have el:((l.length:Int)!=(m.length:Int))=false:=by simp;omega
  have N8:=aa Me;clear Me;go_enter func15,ntmps15;go_wp2_with fail;go_loopg [5,6] l.length (fun k v5 v6 wr=>∃i n:Nat,v5=.int .i64 i/\i<=l.length/\l.length-i<=k/\wr=w.drewN n/\l.take i=m.take i)
  case atStart=>exact⟨0,0,rfl,KU _,KK _,rfl,by simp⟩
  case round=>
   obtain⟨i,n,rfl,hil,hik,rfl,htk⟩:=hrel;have HTK:=aa htk;clear htk;by_cases hlt:i<l.length
   ·have hltm:i<m.length:=by have:=N8.o;omega
    have hx:=KM hlt;have hy:=KM hltm;generalize l[i]=r at*;generalize m[i]=s at*;obtain⟨gA,oA,aC,cC,e,a0,a1,a2,haC⟩:=HA.o.at hx;subst e;obtain⟨gB,oB,aD,cD,e,b0,b1,b2,hbC⟩:=HB.o.at hy;subst e;have HX:=aa hx;have HY:=aa hy;have HAC:=aa haC;have HBC:=aa hbC;have hrl:=HCL.o r (KN hx);clear hx hy haC hbC;have HNE:=aa (fun(e:r≠s)=>show q=false from by rw[<-HQ.o];exact KT (AN HX.o HY.o e));obtain⟨r1,r2,r3⟩:=r;obtain⟨s1,s2,s3⟩:=s;simp only at a0 a1 a2 b0 b1 b2 hrl;cases h1:(r1.toList==s1.toList)
    ·have HF:=aa (HNE.o (fun e=>by rw[bY]at h1;simp only[decide_eq_false_iff_not]at h1;exact h1 (by cases e;rfl)))
     go_wp2_with fail;go_quiet (fail);go_wp2_with fail;go_ret;exact⟨am (by rw[HF.o]),_,by first|exact World.drewN_drewN _ _ _|rfl⟩
    ·cases h2:(r2.toList==s2.toList)
     ·have HF:=aa (HNE.o (fun e=>by rw[bY]at h2;simp only[decide_eq_false_iff_not]at h2;exact h2 (by cases e;rfl)))
      go_wp2_with fail;go_quiet (fail);go_wp2_with fail;go_ret;exact⟨am (by rw[HF.o]),_,by first|exact World.drewN_drewN _ _ _|rfl⟩
     ·by_cases h3:r3.length=s3.length
      ·have e3:((r3.length:Int)!=(s3.length:Int))=false:=by simp;omega
       have HL3:=aa h3;have H12:=aa (show r1=s1/\r2=s2 from by rw[bY]at h1 h2;exact⟨of_decide_eq_true h1,of_decide_eq_true h2⟩);clear h3;go_wp2_with fail;go_quiet (fail);go_wp2_with fail;obtain⟨N,hN⟩:∃N,(w.drewN n).drewN nq=w.drewN N:=⟨n+nq,World.drewN_drewN _ _ _⟩;rw[hN];go_loopg [6] r3.length (fun k v6 wr=>∃j n':Nat,v6=.int .i64 j/\j<=r3.length/\r3.length-j<=k/\wr=w.drewN n'/\r3.take j=s3.take j)
       case atStart=>exact⟨0,N,rfl,KU _,KK _,rfl,by simp⟩
       case round=>
        obtain⟨j,n',rfl,hjl,hjk,rfl,htj⟩:=hrel;have HTJ:=aa htj;clear htj;by_cases hlj:j<r3.length
        ·have hljm:j<s3.length:=by have:=HL3.o;omega
         have hx:=KM hlj;have hy:=KM hljm;generalize r3[j]=c at*;generalize s3[j]=d at*;obtain⟨gC,oC,e,c0,c1⟩:=HAC.o.at hx;subst e;obtain⟨gD,oD,e,d0,d1⟩:=HBC.o.at hy;subst e;have HXJ:=aa hx;have HYJ:=aa hy;clear hx hy;have HNJ:=aa (fun(e:c≠d)=>HNE.o (fun q=>by cases q;exact AN HXJ.o HYJ.o e rfl));obtain⟨p1,p2⟩:=c;obtain⟨q1,q2⟩:=d;simp only at c0 c1 d0 d1;cases k1:(p1.toList==q1.toList)
         ·have HF:=aa (HNJ.o (fun e=>by rw[bY]at k1;simp only[decide_eq_false_iff_not]at k1;exact k1 (by cases e;rfl)))
          go_wp2_with fail;go_quiet (fail);go_wp2_with fail;go_ret;exact⟨am (by rw[HF.o]),_,by first|exact World.drewN_drewN _ _ _|rfl⟩
         ·cases k2:(p2.toList==q2.toList)
          ·have HF:=aa (HNJ.o (fun e=>by rw[bY]at k2;simp only[decide_eq_false_iff_not]at k2;exact k2 (by cases e;rfl)))
           go_wp2_with fail;go_quiet (fail);go_wp2_with fail;go_ret;exact⟨am (by rw[HF.o]),_,by first|exact World.drewN_drewN _ _ _|rfl⟩
          ·have HEQ:=aa (show((p1,p2):dd)=(q1,q2)from by rw[bY]at k1 k2;rw[of_decide_eq_true k1,of_decide_eq_true k2])
           go_wp2_with fail;go_quiet (fail);go_wp2_with fail;go_roundg (r3.length-(j+1))
           case measure=>omega
           case rel=>exact⟨j+1,_,by go_num,hlj,KK _,by first|exact World.drewN_drewN _ _ _|rfl,yG HTJ.o HXJ.o HYJ.o HEQ.o⟩
        ·have HEQ:=aa (show((r1,r2,r3):bo)=(s1,s2,s3)from by
          have h:=HTJ.o;rw[KW (by omega),KW (by have:=HL3.o;omega)]at h;rw[H12.o.1,H12.o.2,h])
         go_wp2_with fail;go_roundg (l.length-(i+1))
         case measure=>omega
         case rel=>exact⟨i+1,n',by go_num,hlt,KK _,rfl,yG HTK.o HX.o HY.o HEQ.o⟩
      ·have e3:((r3.length:Int)!=(s3.length:Int))=true:=by simp;omega
       have HF:=aa (HNE.o (fun e=>h3 (by cases e;rfl)));clear h3;go_wp2_with fail;go_quiet (fail);go_wp2_with fail;go_ret;exact⟨am (by rw[HF.o]),_,by first|exact World.drewN_drewN _ _ _|rfl⟩
   ·have HT:=aa (show q=true from by
     rw[<-HQ.o];apply Le;have h:=HTK.o;rw[KW (by omega),KW (by have:=N8.o;omega)]at h;exact h)
    go_wp2_with fail;go_ret;exact⟨am (by rw[HT.o]),n,rfl⟩
 ·have el:((l.length:Int)!=(m.length:Int))=true:=by simp;omega
  have HF:=aa (show q=false from by rw[<-HQ.o];exact KT (fun e=>Me (by rw[e])));clear Me;go_enter func15,ntmps15;go_wp2_with fail;go_ret;exact⟨am (by rw[HF.o]),0,rfl⟩
def tQ(n:Nat):List UInt8:=[UInt8.ofNat (65+n%26),UInt8.ofNat (97+n/26%26),UInt8.ofNat (48+n/676%10)]
def dM(n:Nat):Ls:=⟨#[109,97,114,107,32]⟩++aE (tQ n)
theorem Fi(n:Nat)(w:World):(w.alloc (.cells #[.int .u8 (65+(n:Int)%26),.int .u8 (97+(n:Int)/26%26),.int .u8 (48+(n:Int)/676%10)] 5)).ownsRow w.heap.size 5 1 (.slice (some ⟨w.heap.size,0,none⟩) 3 3) (tQ n).length (lC (tQ n)):=by
 have e1:((UInt8.ofNat (65+n%26)).toNat:Int)=65+(n:Int)%26:=by rw[UInt8.toNat_ofNat'];omega
 have e2:((UInt8.ofNat (97+n/26%26)).toNat:Int)=97+(n:Int)/26%26:=by rw[UInt8.toNat_ofNat'];omega
 have e3:((UInt8.ofNat (48+n/676%10)).toNat:Int)=48+(n:Int)/676%10:=by rw[UInt8.toNat_ofNat'];omega
 refine⟨rfl,Or.inr ⟨w.heap.size,3,#[.int .u8 (65+(n:Int)%26),.int .u8 (97+(n:Int)/26%26),.int .u8 (48+(n:Int)/676%10)],rfl,KK _,KS _ _,KK _,by decide,rfl,?_⟩⟩;show [_,_,_]=[_,_,_];rw[<-e1,<-e2,<-e3]
theorem ox(n:Nat)(w:World)(hn:n<=1000000000):
 Calls prog 21 #[.int .i64 n] w fun e w'=>e=.returned (.string (dM n))/\Lt w w':=by
 have hc:=xE _ _ _ _ (Fi n w);have HQ:=aa (show dM n=⟨#[109,97,114,107,32]⟩++aE (tQ n)from rfl);generalize dM n=q at*;go_enter func21,ntmps21;go_wp2_with fail;go_ret;exact⟨by rw[HQ.o];rfl,(KL _ _).alloc (KK _) _⟩
def l9(d t:ap)(o k:Nat):Bool:=if t.sort=1 then ba t.name d.Ly else if t.sort=2 then ba d.name t.Ly else decide (o=k)
theorem Fc(aX:Option Addr)(nX cX:Nat)(vY:Value)(Lv:List ap)(d t:ap)(o k:Nat)(w:World)(hD:i5 w vY Lv)(hd:Lv[o]?=some d)(ht:Lv[k]?=some t)(_hl:Lv.length<=100000)(hda:d.Ly.length<=801)(hta:t.Ly.length<=801)(hts:t.sort<=2):
 Calls prog 89 #[.agg #[.slice aX nX cX,vY],.int .i64 o,.int .i64 k] w fun e w'=>e=.returned (.bool (l9 d t o k))/\Lt w w':=by
 have HD:=aa hD;obtain⟨aY,cY,rfl,_⟩:=hD;have hol:o<Lv.length:=(KO.1 hd).1;have hkl:k<Lv.length:=(KO.1 ht).1;have hW:Lt w (w.alloc (.cells #[.slice aX nX cX,.slice aY Lv.length cY] 62)):=(KL _ _).alloc (KK _) _;obtain⟨g,aF,cF,aA,cA,aT,cT,ha,d0,d1,d2,d3,d4,d5,hdd⟩:=HD.o.at hd;subst ha;obtain⟨g',aF',cF',aA',cA',aT',cT',ha,t0,t1,t2,t3,t4,t5,htd⟩:=HD.o.at ht;cases ha;have HQ:=aa (show l9 d t o k=if t.sort=1 then ba t.name d.Ly else if t.sort=2 then ba d.name t.Ly else decide (o=k)from rfl);have hgl:=KQ w _ d0;simp only at hgl;generalize l9 d t o k=q at*;by_cases h1:t.sort=1
 ·have e1:((t.sort:Int)==1)=true:=by simp;omega
  have hc:∀W,Lt w W->Calls prog 86 #[.string t.name,.slice aA d.Ly.length cA] W fun e w'=>e=.returned (.bool (ba t.name d.Ly))/\w'=W:=fun W hW'=>o5 t.name _ d.Ly W (hdd.a.below hW') (by omega);have HC:=aa hc;clear hc;have HF:=aa (show q=ba t.name d.Ly from by rw[HQ.o,K9 h1]);rw[h1]at t0;clear h1;generalize ba t.name d.Ly=mb at*;go_enter func89,ntmps89;go_upto_region 3 with fail;go_cut [6] (fun v6 wc=>v6=.bool mb/\Lt w wc)
  case first=>
   go_region_with (go_at_call 86;refine(HC.o _ ?_).mono ?_;(first|exact hW.drew|exact hW);rintro e w' ⟨rfl,hw'⟩);all_goals(subst hw';try go_wp2_with fail)
   all_goals(go_meet;exact⟨rfl,by first|exact hW.drew|exact hW⟩)
  case rest=>
   obtain⟨rfl,hbc⟩:=hcut;go_wp2_with fail;go_ret;exact⟨am (by rw[HF.o]),hbc⟩
 ·by_cases h2:t.sort=2
  ·have e1:((t.sort:Int)==2)=true:=by simp;omega
   have hc:∀W,Lt w W->Calls prog 86 #[.string d.name,.slice aA' t.Ly.length cA'] W fun e w'=>e=.returned (.bool (ba d.name t.Ly))/\w'=W:=fun W hW'=>o5 d.name _ t.Ly W (htd.a.below hW') (by omega);have HC:=aa hc;clear hc;have HF:=aa (show q=ba d.name t.Ly from by rw[HQ.o,K8 h1,K9 h2]);rw[h2]at t0;clear h1 h2;generalize ba d.name t.Ly=mb at*;go_enter func89,ntmps89;go_upto_region 5 with fail;go_cut [6] (fun v6 wc=>v6=.bool mb/\Lt w wc)
   case first=>
    go_region_with (go_at_call 86;refine(HC.o _ ?_).mono ?_;(first|exact hW.drew|exact hW);rintro e w' ⟨rfl,hw'⟩);all_goals(subst hw';try go_wp2_with fail)
    all_goals(go_meet;exact⟨rfl,by first|exact hW.drew|exact hW⟩)
   case rest=>
    obtain⟨rfl,hbc⟩:=hcut;go_wp2_with fail;go_ret;exact⟨am (by rw[HF.o]),hbc⟩
  ·have h0:t.sort=0:=by omega
   have HF:=aa (show q=decide (o=k)from by rw[HQ.o,K8 h1,K8 h2]);have HE:=aa (show((o:Int)==(k:Int))=decide (o=k)from by rw[Bool.eq_iff_iff];simp;omega);rw[h0]at t0;clear h1 h2 h0;go_enter func89,ntmps89;go_wp2_with fail;go_ret;exact⟨am (by rw[HF.o,<-HE.o]),hW⟩
def n7(w:World)(v:Value)(l:List FV):Prop:=∃a cap,v=.slice a l.length cap/\l.length<=cap/\(l=[]\/∃g off,a=some ⟨g,off,none⟩/\∀j c,l[j]?=some c->w.cell? ⟨g,off+j*4,none⟩=some (.int .i64 c.sh)/\w.cell? ⟨g,off+j*4+1,none⟩=some (.int .i64 c.n)/\w.cell? ⟨g,off+j*4+2,none⟩=some (.string c.s)/\w.cell? ⟨g,off+j*4+3,none⟩=some (.slice c.la c.ln c.lc))
theorem n7.below{w w':World}{v:Value}{l:List FV}(h:n7 w v l)(hb:Lt w w'):n7 w' v l:=by
 obtain⟨a,cap,h1,h2,h3⟩:=h;refine⟨a,cap,h1,h2,?_⟩;rcases h3 with h3|⟨g,off,h3,h4⟩
 ·exact Or.inl h3
 ·refine Or.inr ⟨g,off,h3,fun j c hj=>?_⟩
  obtain⟨c0,c1,c2,c3⟩:=h4 j c hj;exact⟨ao hb c0,ao hb c1,ao hb c2,ao hb c3⟩
def bR:List Ls->List FV->Ls->FV
 |n::ns,v::vs,x=>if n=x then v else bR ns vs x
 |_,_,_=>jE
theorem Bx(x:Ls):∀(ns:List Ls) (vs:List FV) (k:Nat) (v:FV),(∀y∈ns.take k,y≠x)->ns[k]?=some x->vs[k]?=some v->bR ns vs x=v
 |[],_,_,_,_,h,_=>by simp at h
 |_::_,[],_,_,_,_,h=>by simp at h
 |n::ns,u::vs,0,v,_,h1,h2=>by
  simp at h1 h2;subst h1 h2;rw[bR,K9 rfl]
 |n::ns,u::vs,k+1,v,h,h1,h2=>by
  have:=h n (by simp);rw[bR,K8 this];exact Bx x ns vs k v (fun y hy=>h y (by simp[hy])) (by simpa using h1) (by simpa using h2)
theorem zH(x:Ls):∀(ns:List Ls) (vs:List FV),(∀y∈ns,y≠x)->bR ns vs x=jE
 |[],_,_=>by rw[bR];simp
 |_::_,[],_=>by rw[bR];simp
 |n::ns,u::vs,h=>by
  rw[bR,K8 (h n (by simp))];exact zH x ns vs fun y hy=>h y (by simp[hy])
theorem zL(d:Int)(id x:Ls)(vN vV:Value)(names:List Ls)(vals:List FV)(w:World)(hN:cH w vN names)(hV:n7 w vV vals)(he:vals.length=names.length)(hl:names.length<=1000000):
 Calls prog 189 #[.agg #[.int .i64 d,.string id,vN,vV],.string x] w fun e w'=>e=.returned (bw (bR names vals x))/\Lt w w':=by
 obtain⟨aN,cN,rfl,hcN,h3⟩:=hN;obtain⟨aV,cV,rfl,hcV,h5⟩:=hV;generalize hq:bw (bR names vals x)=q;have HQ:=aa hq;have H3:=aa h3;have H5:=aa h5;have HE:=aa he;have hW:Lt w (w.alloc (.cells #[.int .i64 d,.string id,.slice aN names.length cN,.slice aV vals.length cV] 113)):=(KL _ _).alloc (KK _) _;clear hq h3 h5 he;go_enter func189,ntmps189;go_wp2_with fail;go_loop [5] (fun i=>∃k:Nat,k<=names.length/\i=.int .i64 k/\∀y∈names.take k,y≠x) (fun i=>names.length-(intOf i).toNat)
 case atStart=>exact⟨0,KU _,rfl,by simp⟩
 case round=>
  obtain⟨k,hk,rfl,hc⟩:=hrel;have HC:=aa hc;clear hc;by_cases hlt:k<names.length
  ·obtain⟨g,off,ha,h4⟩:∃g off,aN=some ⟨g,off,none⟩/\∀j x,names[j]?=some x->w.cell? ⟨g,off+j,none⟩=some (.string x):=by
    rcases H3.o with e|e
    ·rw[e]at hlt;simp at hlt
    ·exact e
   subst ha;have hlv:k<vals.length:=by rw[HE.o];exact hlt
   obtain⟨g',Mw,ha,h6⟩:∃g off,aV=some ⟨g,off,none⟩/\∀j c,vals[j]?=some c->w.cell? ⟨g,off+j*4,none⟩=some (.int .i64 c.sh)/\w.cell? ⟨g,off+j*4+1,none⟩=some (.int .i64 c.n)/\w.cell? ⟨g,off+j*4+2,none⟩=some (.string c.s)/\w.cell? ⟨g,off+j*4+3,none⟩=some (.slice c.la c.ln c.lc):=by
    rcases H5.o with e|e
    ·rw[e]at hlv;simp at hlv
    ·exact e
   subst ha;have hx:=KM hlt;have LQ:=h4 k _ hx;have hgl:=KQ w _ LQ;have hv:=KM hlv;obtain⟨c0,c1,c2,c3⟩:=h6 k _ hv;have hgl':=KQ w _ c0;simp only at hgl hgl';have HX:=aa hx;have HV:=aa hv;have HQ2:=aa (show∀z,z=x->names[k]?=some z->q=bw vals[k]from fun z hz h1=>by rw[<-HQ.o,Bx x names vals k _ HC.o (hz▸h1) hv]);clear h4 hx h6 hv;generalize names[k]=y at*;generalize vals[k]=u at*;cases hy:(y.toList==x.toList)
   ·go_wp2
    go_round
    case rel=>exact⟨k+1,by omega,by go_num,by
     rw[Ld,HX.o];intro z hz;rcases List.mem_append.1 hz with hz|hz
     ·exact HC.o z hz
     ·simp at hz;subst hz;rw[bY]at hy;simpa using hy⟩
    case measure=>simp[intOf];omega
   ·go_wp2
    rw[HQ2.o y (by rw[bY]at hy;simpa using hy) HX.o];exact bodyPost_ret (v:=bw u) (by simp[results,results189,go_sem,bw]) rfl ⟨rfl,hW.alloc (by simp) _⟩
  ·go_wp2
   have hz:q=bw jE:=by
    rw[<-HQ.o];have:=HC.o;rw[KW (by omega)]at this;rw[zH x names vals this]
   rw[hz];exact bodyPost_ret (v:=bw jE) (by simp[results,results189,go_sem,bw,jE]) rfl ⟨rfl,hW.alloc (by simp) _⟩
def tx(s:St):Ls:=if af s 3=true then(hd s).s else⟨#[]⟩
def jU(s:St):St:=if af s 3=true then tl s else none
theorem uT(k:Nat):(rk k=3)↔k=3:=by
 unfold rk;split<;>omega
theorem EJ(w:World)(b:Nat)(L:Value)(ts:List Tk)(s:St)(h:RS w b L ts s):
 Calls prog 66 #[.pointer (some ⟨b,0,none⟩),.int .i64 3] w fun e w'=>(∃k n,e=.returned (.agg #[.int .i64 k,.string (tx s),.int .i64 n]))/\RS w' b L ts (jU s)/\ai b w w':=by
 have hlt:=h.lt;have h':RS (w.alloc dq) b L ts s:=h.below ((KL _ _).alloc (KK _) _);have hp:=vZ (w.alloc dq) b L ts s h';have H:=aa h';have H0:=aa h;clear h h';by_cases h1:(hd s).k=3
 ·have e1:af s 3=true:=by simp[af,h1]
  have e2:rk (hd s).k=3:=(uT _).2 h1;have e3:rs (hd s)=tx s:=by unfold tx;rw[K9 e1];unfold rs;rw[K9 (by omega)]
  have HT:=aa (show jU s=tl s from by unfold jU;rw[K9 e1]);have HP:=aa (show af s 0=false from by simp[af,h1]);rw[e2,e3]at hp;generalize tx s=y at*;generalize (hd s).n=n at*;clear h1 e1 e2 e3;go_enter func66,ntmps66;go_wp2_with fail;refine hp.mono ?_;clear hp;rintro e w1 ⟨rfl,hb1⟩;obtain⟨a,c1,f1,ha,hn⟩:=((H.o.below hb1).below ((KL _ _).alloc (KK _) (.cells #[.int .i64 3,.string y,.int .i64 n] 137))).next HP.o;have HN:=aa hn;have hs1:w.heap.size<w1.heap.size:=by have:=hb1.size;simp at this;omega
  have hcx:∀j,w1.cell? ⟨w.heap.size,j,none⟩=(w.alloc dq).cell? ⟨w.heap.size,j,none⟩:=fun j=>hb1.cell (by simp);have hf0:∀j,w1.frozen? ⟨w.heap.size,j,none⟩=false:=fun j=>by rw[hb1.frozen (by simp)];exact jg w _ j
  have hc0:w1.cell? ⟨w.heap.size,0,none⟩=some (.int .i64 0):=by rw[hcx];simp[dq]
  have hc1:w1.cell? ⟨w.heap.size,1,none⟩=some (.string ⟨#[]⟩):=by rw[hcx];simp[dq]
  have hc2:w1.cell? ⟨w.heap.size,2,none⟩=some (.int .i64 0):=by rw[hcx];simp[dq]
  have LP:Lt w w1:=((KL _ _).alloc (KK _) _).trans (hb1.mono (by simp));have hK:∀x y z u,ai b w (((((w1.alloc (.cells #[.int .i64 3,.string u,.int .i64 n] 137)).setCell ⟨b,1,none⟩ (.int .i64 ((a:Int)+1))).setCell ⟨w.heap.size,0,none⟩ x).setCell ⟨w.heap.size,1,none⟩ y).setCell ⟨w.heap.size,2,none⟩ z):=fun x y z u=>
   (((((ai.of_below LP).alloc _).setCell 1 _).setNew _ (KK _) _).setNew _ (KK _) _).setNew _ (KK _) _
  clear hcx hn hb1;go_wp2_with fail;refine bodyPost_ret (v:=.agg #[.int .i64 3,.string y,.int .i64 n]) (by simp[results,results66,go_sem,hc0,hc1,hc2,hs1]) rfl ⟨⟨_,_,rfl⟩,?_,hK _ _ _ _⟩;rw[HT.o];exact HN.o.move H0.o (hK _ _ _ _) (lV _ _ _ (by omega) _ _ _)
 ·have e1:af s 3=false:=by simp[af,h1]
  have e2:(((rk (hd s).k:Nat):Int)!=3)=true:=by
   have:¬rk (hd s).k=3:=fun e=>h1 ((uT _).1 e);simp;omega
  have EN:=aa (show tx s=⟨#[]⟩from by unfold tx;rw[K8 (by simp[e1])]);have HT:=aa (show jU s=none from by unfold jU;rw[K8 (by simp[e1])]);generalize rs (hd s)=y at*;generalize (hd s).n=n at*;generalize rk (hd s).k=k1 at*;clear h1 e1;go_enter func66,ntmps66;go_wp2_with fail;refine hp.mono ?_;clear hp;rintro e w1 ⟨rfl,hb1⟩;obtain⟨⟨q,c2⟩,f2,hn⟩:=((H.o.below hb1).below ((KL _ _).alloc (KK _) (.cells #[.int .i64 k1,.string y,.int .i64 n] 137))).fail;have HN:=aa hn;have hs1:w.heap.size<w1.heap.size:=by have:=hb1.size;simp at this;omega
  have hcx:∀j,w1.cell? ⟨w.heap.size,j,none⟩=(w.alloc dq).cell? ⟨w.heap.size,j,none⟩:=fun j=>hb1.cell (by simp);have hf0:∀j,w1.frozen? ⟨w.heap.size,j,none⟩=false:=fun j=>by rw[hb1.frozen (by simp)];exact jg w _ j
  have hc0:w1.cell? ⟨w.heap.size,0,none⟩=some (.int .i64 0):=by rw[hcx];simp[dq]
  have hc1:w1.cell? ⟨w.heap.size,1,none⟩=some (.string ⟨#[]⟩):=by rw[hcx];simp[dq]
  have hc2:w1.cell? ⟨w.heap.size,2,none⟩=some (.int .i64 0):=by rw[hcx];simp[dq]
  have LP:Lt w w1:=((KL _ _).alloc (KK _) _).trans (hb1.mono (by simp));have hK:∀x y z u,ai b w (((((w1.alloc (.cells #[.int .i64 k1,.string u,.int .i64 n] 137)).setCell ⟨b,2,none⟩ (.bool true)).setCell ⟨w.heap.size,0,none⟩ x).setCell ⟨w.heap.size,1,none⟩ y).setCell ⟨w.heap.size,2,none⟩ z):=fun x y z u=>
   (((((ai.of_below LP).alloc _).setCell 2 _).setNew _ (KK _) _).setNew _ (KK _) _).setNew _ (KK _) _
  clear hcx hn hb1;go_wp2_with fail;refine bodyPost_ret (v:=.agg #[.int .i64 0,.string ⟨#[]⟩,.int .i64 0]) (by simp[results,results66,go_sem,hc0,hc1,hc2,hs1]) rfl ⟨⟨_,_,by rw[EN.o]⟩,?_,hK _ _ _ _⟩;rw[HT.o];exact HN.o.move H0.o (hK _ _ _ _) (lV _ _ _ (by omega) _ _ _)
inductive RV where
 |mk (sh:Nat) (n:Int) (s:Ls) (l:List RV)
def bI(w:World)(B:Nat->Prop):Nat->FV->RV->Prop
 |0,v,.mk sh n s l=>v.sh=sh/\v.n=n/\v.s=s/\l=[]/\v.ln=0
 |k+1,v,.mk sh n s l=>v.sh=sh/\v.n=n/\v.s=s/\v.ln=l.length/\∃fs:List FV,fs.length=l.length/\
   (l=[]\/∃g,B g/\v.la=some ⟨g,0,none⟩/\∀j c,fs[j]?=some c->w.cell? ⟨g,j*4,none⟩=some (.int .i64 c.sh)/\w.cell? ⟨g,j*4+1,none⟩=some (.int .i64 c.n)/\w.cell? ⟨g,j*4+2,none⟩=some (.string c.s)/\w.cell? ⟨g,j*4+3,none⟩=some (.slice c.la c.ln c.lc))/\
   ∀(i:Nat) (f:FV) (r:RV),fs[i]?=some f->l[i]?=some r->bI w B k f r
theorem bI.frame{w w':World}{B B':Nat->Prop}(hc:∀g,B g->∀o,w'.cell? ⟨g,o,none⟩=w.cell? ⟨g,o,none⟩)(hB:∀g,B g->B' g):∀{k:Nat} {v:FV} {t:RV},bI w B k v t->bI w' B' k v t
 |0,_,.mk ..,h=>h
 |k+1,v,.mk sh n s l,h=>by
  obtain⟨h1,h2,h3,h4,fs,h5,h6,h7⟩:=h;refine⟨h1,h2,h3,h4,fs,h5,?_,fun i f r hf hr=>bI.frame hc hB (h7 i f r hf hr)⟩;rcases h6 with h6|⟨g,hg,ha,h6⟩
  ·exact Or.inl h6
  ·refine Or.inr ⟨g,hB g hg,ha,fun j c hj=>?_⟩
   rw[hc g hg,hc g hg,hc g hg,hc g hg];exact h6 j c hj
theorem bI.deeper{w:World}{B:Nat->Prop}:∀{k:Nat} {v:FV} {t:RV},bI w B k v t->bI w B (k+1) v t
 |0,v,.mk sh n s l,h=>by
  obtain⟨h1,h2,h3,h4,h5⟩:=h;subst h4;exact⟨h1,h2,h3,h5,[],rfl,Or.inl rfl,fun i f r hf _=>by simp at hf⟩
 |k+1,v,.mk sh n s l,h=>by
  obtain⟨h1,h2,h3,h4,fs,h5,h6,h7⟩:=h;exact⟨h1,h2,h3,h4,fs,h5,h6,fun i f r hf hr=>(h7 i f r hf hr).deeper⟩
theorem bI.flat{w:World}{B:Nat->Prop}(k:Nat)(v:FV)(h:v.ln=0):bI w B k v (.mk v.sh v.n v.s []):=by
 cases k with
 |zero=>exact⟨rfl,rfl,rfl,rfl,h⟩
 |succ k=>exact⟨rfl,rfl,rfl,h,[],rfl,Or.inl rfl,fun i f r hf _=>by simp at hf⟩
theorem FB(s:St):(br s).ln=0:=by
 unfold br jE;repeat' split
 all_goals rfl
def wY(v:FV):RV:=.mk v.sh v.n v.s []
mutual
def bz:Nat->Nat->St->RV×St
 |0,_,s=>(.mk 0 0 ⟨#[]⟩ [],s)
 |f+1,d,s=>
  if dN s=true then(wY (br s),tl s)
  else if af s 5=true then(.mk 6 0 ⟨#[]⟩ [],tl s)
  else if af s 11=true then(.mk 4 0 (tx (tl s)) [],jU (tl s))
  else(.mk 5 0 ⟨#[]⟩ (bJ f d (if 10<=d then none else ak s (af s 12))).1,(bJ f d (if 10<=d then none else ak s (af s 12))).2)
def bJ:Nat->Nat->St->List RV×St
 |0,_,s=>([],s)
 |f+1,d,s=>
  if s=none then([],s)
  else if af s 13=true then([],tl s)
  else((bz f (d+1) s).1::(bJ f d (bz f (d+1) s).2).1,(bJ f d (bz f (d+1) s).2).2)
end
theorem Gk(w:World)(b:Nat)(L:Value)(ts:List Tk)(s:St)(d:Nat)(h:RS w b L ts s)(hl:dN s=true):
 Calls prog 120 #[.pointer (some ⟨b,0,none⟩),.int .i64 d] w fun e w'=>e=.returned (bw (br s))/\RS w' b L ts (tl s)/\ai b w w':=by
 have hlt:=h.lt;have hp:∀W,Lt w W->Calls prog 155 #[.pointer (some ⟨b,0,none⟩)] W fun e w'=>e=.returned (.tuple #[bw (br s),.bool true])/\RS w' b L ts (tl s)/\ai b W w':=fun W hW=>by
  have:=qi W b L ts s (h.below hW);rw[hl]at this;exact this
 have HP:=aa hp;have H0:=aa h;clear h hp hl;have HV:=aa (show bw (br s)=.agg #[.int .i64 (br s).sh,.int .i64 (br s).n,.string (br s).s,.slice (br s).la (br s).ln (br s).lc]from rfl);rw[HV.o];rw[HV.o]at HP;clear HV;generalize br s=v at*;go_enter func120,ntmps120;go_wp2_with fail;refine(HP.o _ ((KL _ _).alloc (KK _) _)).mono ?_;clear HP;rintro e w1 ⟨rfl,hr1,hk1⟩;have HN:=aa hr1;have hb2:b<w1.heap.size:=hr1.lt;have hR:=hk1.at (KS w (.cells #[.int .i64 0,.int .i64 0,.string ⟨#[]⟩,.slice none 0 0] 119)) (by omega);have hc0:w1.cell? ⟨w.heap.size,0,none⟩=some (.int .i64 0):=ae hR 0;have hc1:w1.cell? ⟨w.heap.size,1,none⟩=some (.int .i64 0):=ae hR 1;have hc2:w1.cell? ⟨w.heap.size,2,none⟩=some (.string ⟨#[]⟩):=ae hR 2;have hc3:w1.cell? ⟨w.heap.size,3,none⟩=some (.slice none 0 0):=ae hR 3;have hf0:∀j,w1.frozen? ⟨w.heap.size,j,none⟩=false:=fun j=>ar hR j;have hs1:w.heap.size<w1.heap.size:=ag hR;have hK0:ai b w w1:=(ai.of_below ((KL _ _).alloc (KK _) _)).trans hk1;have hK:∀x' y' z' u,ai b w (((((w1.setCell ⟨w.heap.size,0,none⟩ x').setCell ⟨w.heap.size,1,none⟩ y').setCell ⟨w.heap.size,2,none⟩ z').setCell ⟨w.heap.size,3,none⟩ u).alloc (.cells #[.int .i64 v.sh,.int .i64 v.n,.string v.s,.slice v.la v.ln v.lc] 119)):=fun x' y' z' u=>
  ((((hK0.setNew _ (KK _) _).setNew _ (KK _) _).setNew _ (KK _) _).setNew _ (KK _) _).alloc _
 clear hR hk1 hr1;go_wp2_with fail;refine bodyPost_ret (v:=.agg #[.int .i64 v.sh,.int .i64 v.n,.string v.s,.slice v.la v.ln v.lc]) (by simp[results,results120,go_sem,hc0,hc1,hc2,hc3,hs1]) rfl ⟨rfl,?_,hK _ _ _ _⟩;exact HN.o.move H0.o (hK _ _ _ _) (OG _ _ _ (by omega) hb2 _ _ _ _ _)
theorem GU(w:World)(b:Nat)(L:Value)(ts:List Tk)(s:St)(d:Nat)(h:RS w b L ts s)(hl:dN s=false)(h5:af s 5=true):
 Calls prog 120 #[.pointer (some ⟨b,0,none⟩),.int .i64 d] w fun e w'=>e=.returned (bw ⟨6,0,⟨#[]⟩,none,0,0⟩)/\RS w' b L ts (tl s)/\ai b w w':=by
 have hlt:=h.lt;have hp:∀W,Lt w W->Calls prog 155 #[.pointer (some ⟨b,0,none⟩)] W fun e w'=>e=.returned (.tuple #[bw (br s),.bool false])/\RS w' b L ts s/\ai b W w':=fun W hW=>by
  have:=qi W b L ts s (h.below hW);rw[hl]at this;exact this
 have hm:∀W,RS W b L ts s->Calls prog 67 #[.pointer (some ⟨b,0,none⟩),.int .i64 4,.string ⟨#[33]⟩] W fun e w'=>e=.returned (.bool true)/\RS w' b L ts (tl s)/\ai b W w':=fun W hW=>by
  have:=gI W b L ts s 5 ⟨#[33]⟩ (by decide) (by decide) (by decide) hW;rw[h5]at this;exact this
 have HP:=aa hp;have HM:=aa hm;have H0:=aa h;clear h hp hl hm h5;have HV:=aa (show bw (br s)=.agg #[.int .i64 (br s).sh,.int .i64 (br s).n,.string (br s).s,.slice (br s).la (br s).ln (br s).lc]from rfl);rw[HV.o]at HP;clear HV;generalize br s=v at*;go_enter func120,ntmps120;go_wp2_with fail;refine(HP.o _ ((KL _ _).alloc (KK _) _)).mono ?_;clear HP;rintro e w1 ⟨rfl,hr1,hk1⟩;have HN1:=aa hr1;have hR:=hk1.at (KS w (.cells #[.int .i64 0,.int .i64 0,.string ⟨#[]⟩,.slice none 0 0] 119)) (by omega);have HR:=aa hR;have hs1:w.heap.size<w1.heap.size:=ag hR;have hK0:ai b w w1:=(ai.of_below ((KL _ _).alloc (KK _) _)).trans hk1;have HK0:=aa hK0;clear hR hk1 hr1 hK0;go_wp2_with fail;refine(HM.o _ (HN1.o.below ((KL _ _).alloc (KK _) _))).mono ?_;clear HM;rintro e w2 ⟨rfl,hr2,hk2⟩;have HN:=aa hr2;have hb2:b<w2.heap.size:=hr2.lt;have hR:=hk2.at ((bp _ _ _ hs1).trans HR.o) (by omega);have hc0:w2.cell? ⟨w.heap.size,0,none⟩=some (.int .i64 0):=ae hR 0;have hc1:w2.cell? ⟨w.heap.size,1,none⟩=some (.int .i64 0):=ae hR 1;have hc2:w2.cell? ⟨w.heap.size,2,none⟩=some (.string ⟨#[]⟩):=ae hR 2;have hc3:w2.cell? ⟨w.heap.size,3,none⟩=some (.slice none 0 0):=ae hR 3;have hf0:∀j,w2.frozen? ⟨w.heap.size,j,none⟩=false:=fun j=>ar hR j;have hs2:w.heap.size<w2.heap.size:=ag hR;have hK:∀x' y' z' u,ai b w ((((w2.setCell ⟨w.heap.size,0,none⟩ x').setCell ⟨w.heap.size,1,none⟩ y').setCell ⟨w.heap.size,2,none⟩ z').setCell ⟨w.heap.size,3,none⟩ u):=fun x' y' z' u=>
  (((((HK0.o.alloc _).trans hk2).setNew _ (KK _) _).setNew _ (KK _) _).setNew _ (KK _) _).setNew _ (KK _) _
 clear hR hk2 hr2;go_wp2_with fail;refine bodyPost_ret (v:=.agg #[.int .i64 6,.int .i64 0,.string ⟨#[]⟩,.slice none 0 0]) (by simp[results,results120,go_sem,hc0,hc1,hc2,hc3]) rfl ⟨rfl,?_,hK _ _ _ _⟩;exact HN.o.move H0.o (hK _ _ _ _) (fD _ _ _ (by omega) _ _ _ _)
theorem JL(w:World)(b:Nat)(L:Value)(ts:List Tk)(s:St)(d:Nat)(h:RS w b L ts s)(hl:dN s=false)(h5:af s 5=false)(h11:af s 11=true):
 Calls prog 120 #[.pointer (some ⟨b,0,none⟩),.int .i64 d] w fun e w'=>e=.returned (bw ⟨4,0,tx (tl s),none,0,0⟩)/\RS w' b L ts (jU (tl s))/\ai b w w':=by
 have hlt:=h.lt;have hp:∀W,Lt w W->Calls prog 155 #[.pointer (some ⟨b,0,none⟩)] W fun e w'=>e=.returned (.tuple #[bw (br s),.bool false])/\RS w' b L ts s/\ai b W w':=fun W hW=>by
  have:=qi W b L ts s (h.below hW);rw[hl]at this;exact this
 have hm:∀W,RS W b L ts s->Calls prog 67 #[.pointer (some ⟨b,0,none⟩),.int .i64 4,.string ⟨#[33]⟩] W fun e w'=>e=.returned (.bool false)/\RS w' b L ts s/\ai b W w':=fun W hW=>by
  have:=gI W b L ts s 5 ⟨#[33]⟩ (by decide) (by decide) (by decide) hW;rw[h5]at this;exact this
 have hm2:∀W,RS W b L ts s->Calls prog 67 #[.pointer (some ⟨b,0,none⟩),.int .i64 4,.string ⟨#[64]⟩] W fun e w'=>e=.returned (.bool true)/\RS w' b L ts (tl s)/\ai b W w':=fun W hW=>by
  have:=gI W b L ts s 11 ⟨#[64]⟩ (by decide) (by decide) (by decide) hW;rw[h11]at this;exact this
 have hm3:∀W,RS W b L ts (tl s)->Calls prog 66 #[.pointer (some ⟨b,0,none⟩),.int .i64 3] W fun e w'=>(∃k n,e=.returned (.agg #[.int .i64 k,.string (tx (tl s)),.int .i64 n]))/\RS w' b L ts (jU (tl s))/\ai b W w':=fun W hW=>EJ W b L ts (tl s) hW;have HM2:=aa hm2;have HM3:=aa hm3;have HP:=aa hp;have HM:=aa hm;have H0:=aa h;clear h hp hl hm h5 h11 hm2 hm3;have HV:=aa (show bw (br s)=.agg #[.int .i64 (br s).sh,.int .i64 (br s).n,.string (br s).s,.slice (br s).la (br s).ln (br s).lc]from rfl);rw[HV.o]at HP;clear HV;generalize br s=v at*;generalize tx (tl s)=y at*;go_enter func120,ntmps120;go_wp2_with fail;refine(HP.o _ ((KL _ _).alloc (KK _) _)).mono ?_;clear HP;rintro e w1 ⟨rfl,hr1,hk1⟩;have HN1:=aa hr1;have hR:=hk1.at (KS w (.cells #[.int .i64 0,.int .i64 0,.string ⟨#[]⟩,.slice none 0 0] 119)) (by omega);have HR:=aa hR;have hs1:w.heap.size<w1.heap.size:=ag hR;have hK0:ai b w w1:=(ai.of_below ((KL _ _).alloc (KK _) _)).trans hk1;have HK0:=aa hK0;clear hR hk1 hr1 hK0;go_wp2_with fail;refine(HM.o _ (HN1.o.below ((KL _ _).alloc (KK _) _))).mono ?_;clear HM;rintro e w2 ⟨rfl,hr2,hk2⟩;have HN2:=aa hr2;have HR2:=aa (hk2.at ((bp _ _ _ hs1).trans HR.o) (by omega));have HK2:=aa ((HK0.o.alloc _).trans hk2);clear hk2 hr2;go_wp2_with fail;refine(HM2.o _ HN2.o).mono ?_;clear HM2;rintro e w3 ⟨rfl,hr3,hk3⟩;have HN3:=aa hr3;have HR3:=aa (hk3.at HR2.o (by omega));have HK3:=aa (HK2.o.trans hk3);clear hk3 hr3;go_wp2_with fail;refine(HM3.o _ HN3.o).mono ?_;clear HM3;rintro e w4 ⟨⟨k,n,rfl⟩,hr4,hk4⟩;have HN:=aa hr4;have hb2:b<w4.heap.size:=hr4.lt;have hR:=hk4.at HR3.o (by omega);have hc0:w4.cell? ⟨w.heap.size,0,none⟩=some (.int .i64 0):=ae hR 0;have hc1:w4.cell? ⟨w.heap.size,1,none⟩=some (.int .i64 0):=ae hR 1;have hc2:w4.cell? ⟨w.heap.size,2,none⟩=some (.string ⟨#[]⟩):=ae hR 2;have hc3:w4.cell? ⟨w.heap.size,3,none⟩=some (.slice none 0 0):=ae hR 3;have hf0:∀j,w4.frozen? ⟨w.heap.size,j,none⟩=false:=fun j=>ar hR j;have hs2:w.heap.size<w4.heap.size:=ag hR;have hK:∀x' y' z' u,ai b w (((((w4.setCell ⟨w.heap.size,0,none⟩ x').setCell ⟨w.heap.size,1,none⟩ y').setCell ⟨w.heap.size,2,none⟩ z').setCell ⟨w.heap.size,3,none⟩ u).alloc (.cells #[.int .i64 k,.string y,.int .i64 n] 137)):=fun x' y' z' u=>
  (((((HK3.o.trans hk4).setNew _ (KK _) _).setNew _ (KK _) _).setNew _ (KK _) _).setNew _ (KK _) _).alloc _
 clear hR hk4 hr4;go_wp2_with fail;refine bodyPost_ret (v:=.agg #[.int .i64 4,.int .i64 0,.string y,.slice none 0 0]) (by simp[results,results120,go_sem,hc0,hc1,hc2,hc3,hs2]) rfl ⟨rfl,?_,hK _ _ _ _⟩;exact HN.o.move H0.o (hK _ _ _ _) (OG _ _ _ (by omega) hb2 _ _ _ _ _)
theorem bI.le{w:World}{B:Nat->Prop}{k:Nat}{v:FV}{t:RV}(h:bI w B k v t):∀{m:Nat},k<=m->bI w B m v t:=by
 intro m hm
 induction hm with
 |refl=>exact h
 |step _ ih=>exact ih.deeper
theorem A6(s:St):ln (jU s)<=ln s:=by
 unfold jU;split
 ·exact cK s
 ·exact KU _
theorem IT(s:St)(h:dN s=true):ln (tl s)<ln s:=by
 have h0:=CJ s h;have hn:s≠none:=by
  intro e;subst e;simp[af,hd,ib]at h0
 have:=Gd s h0 hn;omega
theorem EE(s:St)(k:Nat)(hk:k≠0)(h:s≠none):ln (ak s (af s k))<ln s:=by
 cases e:af s k
 ·cases s with
  |none=>exact absurd rfl h
  |some l=>simp[ak,ln]
 ·have:=eY s k hk e
  simpa [ak]using this
theorem mT(f d:Nat):bJ f d none=([],none):=by
 cases f with
 |zero=>rw[bJ]
 |succ f=>rw[bJ,K9 rfl]
theorem A2(f:Nat):(∀d s,ln (bz f d s).2<=ln s)/\(∀d s,ln (bJ f d s).2<=ln s):=by
 induction f with
 |zero=>exact⟨fun d s=>by rw[bz];exact KK _,fun d s=>by rw[bJ];exact KK _⟩
 |succ f ih=>
  refine⟨fun d s=>?_,fun d s=>?_⟩
  ·rw[bz]
   split
   ·exact cK s
   ·split
    ·exact cK s
    ·split
     ·exact KP (A6 _) (cK s)
     ·refine KP (ih.2 d _) ?_
      split
      ·exact KU _
      ·exact cg s _
  ·rw[bJ]
   split
   ·exact KK _
   ·split
    ·exact cK s
    ·exact KP (ih.2 d _) (ih.1 (d+1) s)
theorem su(f d:Nat)(s:St)(h:s≠none):ln (bz (f+1) d s).2<ln s:=by
 rw[bz];split
 ·rename_i hl;exact IT s hl
 ·split
  ·rename_i hl;exact eY s 5 (by decide) hl
  ·split
   ·rename_i hl;exact Nat.lt_of_le_of_lt (A6 _) (eY s 11 (by decide) hl)
   ·refine Nat.lt_of_le_of_lt ((A2 f).2 d _) ?_
    split
    ·cases s with
     |none=>exact absurd rfl h
     |some l=>simp[ln]
    ·exact EE s 12 (by decide) h
def lD(v:FV):List Value:=[.int .i64 v.sh,.int .i64 v.n,.string v.s,.slice v.la v.ln v.lc]
def Cl(f:Nat):Prop:=∀(d:Nat) (s:St) (w:World) (b:Nat) (L:Value) (ts:List Tk),RS w b L ts s->2*ln s+1<=f->d<=10->
 Calls prog 120 #[.pointer (some ⟨b,0,none⟩),.int .i64 d] w fun e w'=>∃v:FV,e=.returned (bw v)/\bI w' (fun g=>w.heap.size<=g/\g<w'.heap.size) f v (bz f d s).1/\RS w' b L ts (bz f d s).2/\ai b w w'
theorem rD{X:World}{N:Nat}{a b c d:Value}{T:TypeId}{fr:Nat×Nat}(h:X.heap[N]?=some (.cells #[a,b,c,d] T fr))(x y z u:Value):((((X.setCell ⟨N,0,none⟩ x).setCell ⟨N,1,none⟩ y).setCell ⟨N,2,none⟩ z).setCell ⟨N,3,none⟩ u).heap[N]?=some (.cells #[x,y,z,u] T fr):=by
 have:=aJ (aJ (aJ (aJ h 0 x) 1 y) 2 z) 3 u;simpa using this
theorem RS.bad_none{w:World}{b:Nat}{L:Value}{ts:List Tk}(h:RS w b L ts none):w.cell? ⟨b,2,none⟩=some (.bool true):=by
 obtain⟨a,bad,h1,h2,h3⟩:=h.st;cases bad with
 |true=>exact ae h1 2
 |false=>simp at h3
theorem KB(d:Nat)(s:St)(w:World)(b:Nat)(L:Value)(ts:List Tk)(h:RS w b L ts s)(hd:10<=d)(hd2:d<=10)(hl:dN s=false)(h5:af s 5=false)(h11:af s 11=false):
 Calls prog 120 #[.pointer (some ⟨b,0,none⟩),.int .i64 d] w fun e w'=>e=.returned (bw ⟨5,0,⟨#[]⟩,none,0,0⟩)/\RS w' b L ts none/\ai b w w':=by
 have hlt:=h.lt;have hp:∀W,Lt w W->Calls prog 155 #[.pointer (some ⟨b,0,none⟩)] W fun e w'=>e=.returned (.tuple #[bw (br s),.bool false])/\RS w' b L ts s/\ai b W w':=fun W hW=>by
  have:=qi W b L ts s (h.below hW);rw[hl]at this;exact this
 have hm:∀W,RS W b L ts s->Calls prog 67 #[.pointer (some ⟨b,0,none⟩),.int .i64 4,.string ⟨#[33]⟩] W fun e w'=>e=.returned (.bool false)/\RS w' b L ts s/\ai b W w':=fun W hW=>by
  have:=gI W b L ts s 5 ⟨#[33]⟩ (by decide) (by decide) (by decide) hW;rw[h5]at this;exact this
 have hm2:∀W,RS W b L ts s->Calls prog 67 #[.pointer (some ⟨b,0,none⟩),.int .i64 4,.string ⟨#[64]⟩] W fun e w'=>e=.returned (.bool false)/\RS w' b L ts s/\ai b W w':=fun W hW=>by
  have:=gI W b L ts s 11 ⟨#[64]⟩ (by decide) (by decide) (by decide) hW;rw[h11]at this;exact this
 have hm3:∀W,RS W b L ts s->Calls prog 70 #[.pointer (some ⟨b,0,none⟩),.int .i64 4,.string ⟨#[91]⟩] W fun e w'=>e=.returned (.tuple #[])/\RS w' b L ts (ak s (af s 12))/\ai b W w':=fun W hW=>gQ W b L ts s 12 ⟨#[91]⟩ (by decide) (by decide) (by decide) hW;have e10:decide ((10:Int)<=(d:Int))=true:=by simp;omega
 have HP:=aa hp;have HM:=aa hm;have HM2:=aa hm2;have HM3:=aa hm3;have H0:=aa h;clear h hp hl hm h5 h11 hm2 hm3;have HV:=aa (show bw (br s)=.agg #[.int .i64 (br s).sh,.int .i64 (br s).n,.string (br s).s,.slice (br s).la (br s).ln (br s).lc]from rfl);rw[HV.o]at HP;clear HV;generalize br s=v at*;generalize ak s (af s 12)=s1 at*;go_enter func120,ntmps120;go_wp2_with fail;refine(HP.o _ ((KL _ _).alloc (KK _) _)).mono ?_;clear HP;rintro e w1 ⟨rfl,hr1,hk1⟩;have HN1:=aa hr1;have hR:=hk1.at (KS w (.cells #[.int .i64 0,.int .i64 0,.string ⟨#[]⟩,.slice none 0 0] 119)) (by omega);have HR:=aa hR;have hs1:w.heap.size<w1.heap.size:=ag hR;have hb1:b<w1.heap.size:=hr1.lt;have hK0:ai b w w1:=(ai.of_below ((KL _ _).alloc (KK _) _)).trans hk1;have HK0:=aa hK0;clear hR hk1 hr1 hK0;go_wp2_with fail;refine(HM.o _ (HN1.o.below ((KL _ _).alloc (KK _) _))).mono ?_;clear HM;rintro e w2 ⟨rfl,hr2,hk2⟩;have HN2:=aa hr2;have HR2:=aa (hk2.at ((bp _ _ _ hs1).trans HR.o) (by omega));have HV2:=aa (hk2.at (KS w1 (.cells #[.int .i64 v.sh,.int .i64 v.n,.string v.s,.slice v.la v.ln v.lc] 119)) (by omega));have HK2:=aa ((HK0.o.alloc _).trans hk2);clear hk2 hr2;go_wp2_with fail;refine(HM2.o _ HN2.o).mono ?_;clear HM2;rintro e w3 ⟨rfl,hr3,hk3⟩;have HN3:=aa hr3;have HR3:=aa (hk3.at HR2.o (by omega));have HV3:=aa (hk3.at HV2.o (by omega));have HK3:=aa (HK2.o.trans hk3);clear hk3 hr3;go_wp2_with fail;refine(HM3.o _ HN3.o).mono ?_;clear HM3;rintro e w4 ⟨rfl,hr4,hk4⟩;have HN4:=aa hr4;have hR4:=hk4.at HR3.o (by omega);have hV4:=hk4.at HV3.o (by omega);have HR4:=aa hR4;have HV4:=aa hV4;have HK4:=aa (HK3.o.trans hk4);obtain⟨⟨q,cq⟩,fq,hn⟩:=hr4.fail;have HN:=aa hn;have hb4:b<w4.heap.size:=hr4.lt;have hs4:w.heap.size<w4.heap.size:=ag hR4;have hs5:w1.heap.size<w4.heap.size:=ag hV4;have v0:w4.cell? ⟨w1.heap.size,0,none⟩=some (.int .i64 v.sh):=ae hV4 0;have v1:w4.cell? ⟨w1.heap.size,1,none⟩=some (.int .i64 v.n):=ae hV4 1;have v2:w4.cell? ⟨w1.heap.size,2,none⟩=some (.string v.s):=ae hV4 2;have v3:w4.cell? ⟨w1.heap.size,3,none⟩=some (.slice v.la v.ln v.lc):=ae hV4 3;have vf:∀j,w4.frozen? ⟨w1.heap.size,j,none⟩=false:=fun j=>ar hV4 j;clear hk4 hr4 hn hR4 hV4;go_wp2_with fail;go_loopg [6] 0 (fun k v6 wr=>RS wr b L ts none/\wr.heap[w1.heap.size]?=some (.cells #[.int .i64 5,.int .i64 0,.string ⟨#[]⟩,.slice none 0 0] 119 (0,0))/\wr.heap[w.heap.size]?=some (.cells #[.int .i64 0,.int .i64 0,.string ⟨#[]⟩,.slice none 0 0] 119 (0,0))/\ai b w wr)
 case atStart=>
  have hk:ai b w (((((w4.setCell ⟨b,2,none⟩ (.bool true)).setCell ⟨w1.heap.size,0,none⟩ (.int .i64 5)).setCell ⟨w1.heap.size,1,none⟩ (.int .i64 0)).setCell ⟨w1.heap.size,2,none⟩ (.string ⟨#[]⟩)).setCell ⟨w1.heap.size,3,none⟩ (.slice none 0 0)):=
   ((((HK4.o.setCell 2 _).setNew _ (Nat.le_of_lt hs1) _).setNew _ (Nat.le_of_lt hs1) _).setNew _ (Nat.le_of_lt hs1) _).setNew _ (Nat.le_of_lt hs1) _
  exact⟨HN.o.move H0.o hk (fD _ _ _ (by omega) _ _ _ _),rD (dG HV4.o (by omega) _ _) _ _ _ _,(fD _ _ _ (by omega) _ _ _ _).trans (dG HR4.o (by omega) _ _),hk⟩
 case round=>
  obtain⟨hr,hv,Mp,hk⟩:=hrel;have cb:=hr.bad_none;have hblt:=hr.lt;have HRr:=aa hr;have hvl:w1.heap.size<wr.heap.size:=ag hv;have hrl:w.heap.size<wr.heap.size:=ag Mp;have c0:wr.cell? ⟨w1.heap.size,0,none⟩=some (.int .i64 5):=ae hv 0;have c1:wr.cell? ⟨w1.heap.size,1,none⟩=some (.int .i64 0):=ae hv 1;have c2:wr.cell? ⟨w1.heap.size,2,none⟩=some (.string ⟨#[]⟩):=ae hv 2;have c3:wr.cell? ⟨w1.heap.size,3,none⟩=some (.slice none 0 0):=ae hv 3;have r0:wr.cell? ⟨w.heap.size,0,none⟩=some (.int .i64 0):=ae Mp 0;have r1:wr.cell? ⟨w.heap.size,1,none⟩=some (.int .i64 0):=ae Mp 1;have r2:wr.cell? ⟨w.heap.size,2,none⟩=some (.string ⟨#[]⟩):=ae Mp 2;have r3:wr.cell? ⟨w.heap.size,3,none⟩=some (.slice none 0 0):=ae Mp 3;have rf:∀j,wr.frozen? ⟨w.heap.size,j,none⟩=false:=fun j=>ar Mp j;have hK:∀x' y' z' u,ai b w ((((wr.setCell ⟨w.heap.size,0,none⟩ x').setCell ⟨w.heap.size,1,none⟩ y').setCell ⟨w.heap.size,2,none⟩ z').setCell ⟨w.heap.size,3,none⟩ u):=fun x' y' z' u=>
   (((hk.setNew _ (KK _) _).setNew _ (KK _) _).setNew _ (KK _) _).setNew _ (KK _) _
  clear hr hv Mp hk;go_wp2_with fail;refine bodyPost_ret (v:=.agg #[.int .i64 5,.int .i64 0,.string ⟨#[]⟩,.slice none 0 0]) (by simp[results,results120,go_sem,r0,r1,r2,r3]) rfl ⟨rfl,?_,hK _ _ _ _⟩;exact HRr.o.move H0.o (hK _ _ _ _) (fD _ _ _ (by omega) _ _ _ _)
theorem wu:∀(fs:List FV) (a:Nat) (c:FV) (j:Nat),fs[a]?=some c->j<4->(fs.flatMap lD)[a*4+j]?=(lD c)[j]?
 |[],a,t,j,h,_=>by simp at h
 |x::ts,0,t,j,h,hj=>by
  simp at h;subst h;rw[List.flatMap_cons,Lf (by show _<4;omega)];simp
 |x::ts,a+1,t,j,h,hj=>by
  rw[List.flatMap_cons,Lg (by show 4<=_;omega)];rw[show(a+1)*4+j-(lD x).length=a*4+j by show(a+1)*4+j-4=_;omega];exact wu ts a t j (by simpa using h) hj
theorem G5{T:TypeId}{sh:Nat}{w:World}{B0:Nat}{vL:Value}{fs:List FV}{l:List RV}{B:Nat->Prop}{k:Nat}(LJ:w.ownsRow B0 T 4 vL fs.length (fs.flatMap lD))(hl:fs.length=l.length)
 (Mo:∀(i:Nat) (f:FV) (r:RV),fs[i]?=some f->l[i]?=some r->bI w B k f r) (hB:∀g,vL.ownBlock=some g->B g):
 ∃a c,vL=.slice a fs.length c/\bI w B (k+1) ⟨sh,0,⟨#[]⟩,a,fs.length,c⟩ (.mk sh 0 ⟨#[]⟩ l):=by
 rcases LJ.2 with⟨hv,h0⟩|⟨g,cap,cur,hv,hg,hh,hr⟩
 ·have hln:l=[]:=KZ (by omega)
  refine⟨none,0,by rw[hv,h0],rfl,rfl,rfl,by simp[hl],fs,hl,Or.inl hln,Mo⟩
 ·subst hv
  refine⟨some ⟨g,0,none⟩,cap,rfl,rfl,rfl,rfl,by simp[hl],fs,hl,Or.inr ⟨g,hB g rfl,rfl,fun j c hj=>?_⟩,Mo⟩;have hjl:j<fs.length:=(KO.1 hj).1;have q:∀i,i<4->w.cell? ⟨g,j*4+i,none⟩=(lD c)[i]?:=fun i hi=>by
   rw[LJ.cellAt _ (by omega)];exact wu fs j c i hj hi
  exact⟨q 0 (by omega),q 1 (by omega),q 2 (by omega),q 3 (by omega)⟩
end Go.Proofs.YtgbloieahmkcjaaGreat
