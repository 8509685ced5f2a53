import Derived.Test.YtgbloieahmkcjaaGreatC09
import Derived.Deep.RegionWith
import Derived.Laws.StructEq
import Derived.ChangeKeysEq
import Derived.Laws.Runes
import Derived.BigQuiet
namespace Go.Proofs.YtgbloieahmkcjaaGreat
set_option maxHeartbeats 20000000
set_option maxRecDepth 100000
open Go.RowKit Tryz
theorem yC(x:Ls)(r l:List Ls):fL (x::r) l=fL r (if ba x l=true then l else l++[x]):=rfl
theorem At(Lu:List aj)(x:Ls)(h:¬ah (Lu.map aj.name) x<0):∃(k:Nat) (r:aj),ah (Lu.map aj.name) x=k/\Lu[k]?=some r/\g8 Lu x=r.LA:=by
 have key:∀(l:List Ls) (n:Nat),¬dK l x n<0->∃k:Nat,dK l x n=((n+k:Nat):Int)/\k<l.length:=by
  intro l
  induction l with
  |nil=>intro n hn;exact absurd (show(-1:Int)<0 by decide) hn
  |cons y l ih=>
   intro n hn;rw[dK]at hn⊢;by_cases e:y=x
   ·rw[K9 e];exact⟨0,by simp,by simp⟩
   ·rw[K8 e]at hn⊢
    obtain⟨k,h1,h2⟩:=ih (n+1) hn;exact⟨k+1,by rw[h1];congr 1;omega,by simp;omega⟩
 obtain⟨k,h1,h2⟩:=key _ 0 h;rw[Nat.zero_add]at h1;have h3:k<Lu.length:=by simpa using h2
 refine⟨k,Lu[k],h1,KM h3,?_⟩;unfold g8;rw[K8 h];have:(ah (Lu.map aj.name) x).toNat=k:=by show(dK _ _ _).toNat=k;rw[h1];simp
 rw[this,KM h3];rfl
theorem xh:∀(Lu:List aj) (r:aj),r∈Lu->r.LA.length<=(fQ Lu).length
 |[],_,h=>by cases h
 |q::Lu,r,h=>by
  unfold fQ;rw[List.flatMap_cons,Lb];rcases List.mem_cons.1 h with e|e
  ·rw[e];omega
  ·have:=xh Lu r e
   unfold fQ at this;omega
theorem BL(aD:Option Addr)(nD cD:Nat)(v:Value)(x:Ls)(Lu:List aj)(w:World)(h:gZ w v Lu)(hl:Lu.length<=801)(hU:(fQ Lu).length<=700000):
 Calls prog 91 #[.agg #[v,.slice aD nD cD],.string x] w fun e w'=>∃u,e=.returned u/\w'.ownsRow w.heap.size 9 1 u (iE Lu x).length (bt (iE Lu x))/\(iE Lu x).length<=700001/\Lt w w':=by
 obtain⟨i0,hi,hz0,hz1,hz2⟩:=info_parts info9;have H0:=aa h;obtain⟨a,cap,rfl,_⟩:=h;have HQ:=aa (show iE Lu x=kG Lu (mu Lu 0 [x]+1) 0 [x]from rfl);go_enter func91,ntmps91;go_wp2_with fail;go_loopg [5,6,7,8,9] (mu Lu 0 [x]) (fun k v5 v6 v7 v8 v9 wr=>∃(i:Nat) (l:List Ls),v6=.int .i64 i/\i<=l.length/\mu Lu i l<=k/\wr.ownsRow (w.heap.size+1) 9 1 v5 l.length (bt l)/\Below (w.heap.size+1) (w.alloc (.cells #[.slice a Lu.length cap,.slice aD nD cD] 62)) wr/\l.length+kU (fQ Lu) l<=1+(fQ Lu).length/\iE Lu x=kG Lu (mu Lu i l+1) i l)
 case atStart=>exact⟨0,[x],rfl,by simp,KK _,by
  refine⟨by simp[bt],Or.inr ⟨w.heap.size+1,1,#[.string x],rfl,KK _,eo _ _ _,KK _,by decide,rfl,rfl⟩⟩,(KL _ _).alloc (by simp) _,by have:=GQ (fQ Lu) [x];simp;omega,HQ.o⟩
 case round=>
  obtain⟨i,l,rfl,hil,hmu,LJ,LN,hbd,hrel⟩:=hrel;have HM:=aa hrel;clear hrel;obtain⟨aL,MN,hvL⟩:=bc LJ;subst hvL;have Ox:wr.cell? ⟨w.heap.size,0,none⟩=some (.slice a Lu.length cap):=by rw[LN.cell (by simp)];simp
  have hbox1:wr.cell? ⟨w.heap.size,1,none⟩=some (.slice aD nD cD):=by rw[LN.cell (by simp)];simp
  have LP:Lt w wr:=((KL _ _).alloc (KK _) _).trans (LN.mono (by omega));have MM:w.heap.size+1<=wr.heap.size:=by have:=LN.size;simp at this;omega
  by_cases hlt:i<l.length
  ·have hx:=KM hlt
   rcases LJ.2 with⟨q,q0⟩|⟨g,cp,cur,q,hg,hh,hn1,hn2,hn3,hn4⟩
   ·omega
   cases q;have hcy:wr.cell? ⟨g,i,none⟩=some (.string l[i]):=by
    rw[LJ.cellAt i (by omega)];simp[bt,hx]
   have hgl:=ag hh;have HST:=aa (Gj Lu i l _ hx);have HMU:=aa (um Lu i l _ hx);clear hx hg hh hn1 hn2 hn3 hn4;generalize l[i]=y at*;have hc:∀W,Lt wr W->Calls prog 28 #[.agg #[.slice a Lu.length cap,.slice aD nD cD],.string y] W fun e w'=>e=.returned (.int .i64 (ah (Lu.map aj.name) y))/\Lt W w':=fun W hW=>
    rB aD nD cD _ y (Lu.map aj.name) W ((H0.o.below (LP.trans (hW.mono LP.size))).names) (by simp;omega)
   have HC:=aa hc;clear hc;go_upto_region 5 with fail;go_cut [7] (fun v7 wc=>v7=.int .i64 (ah (Lu.map aj.name) y)/\Lt wr wc)
   case first=>
    go_region_with (go_at_call 28;refine(HC.o _ ?_).mono ?_;(first|exact(KL _ _).drew|exact KL _ _);rintro e w' ⟨rfl,hb'⟩);all_goals(try go_wp2_with fail)
    all_goals(go_meet;exact⟨rfl,(KL _ _).drew.trans hb'⟩)
   case rest=>
    obtain⟨rfl,hbc⟩:=hcut;have Mn:=bZ LJ hbc;have L9:=LN.trans (hbc.mono MM);have hbx0:wc.cell? ⟨w.heap.size,0,none⟩=some (.slice a Lu.length cap):=by rw[L9.cell (by simp)];simp
    have L0:Lt w wc:=LP.trans (hbc.mono LP.size);have M8:=hbc.size;clear Ox hbox1 LJ LN hbc hcy HC;by_cases hneg:ah (Lu.map aj.name) y<0
    ·have HI:=aa (show fL (g8 Lu y) l=l from by unfold g8;rw[K9 hneg];rfl)
     rw[HI.o]at HST HMU;generalize ah (Lu.map aj.name) y=q at*;go_wp2_with fail;go_roundg (mu Lu (i+1) l)
     case measure=>have:=HMU.o;omega
     case rel=>exact⟨i+1,l,by go_num,by omega,KK _,Mn,L9,hbd,by rw[HM.o,HST.o]⟩
    ·obtain⟨k,r,hk,hr,Nd⟩:=At Lu y hneg
     rw[hk];have hbnd:=sy (fQ Lu) (g8 Lu y) l (uP Lu y);have Mo:=uP Lu y;rw[Nd]at HST HMU hbnd Mo;have HB:=aa hbnd;have N7:=aa Mo;have HR:=aa hr;have hkl:k<Lu.length:=(KO.1 hr).1;have hrl:r.LA.length<=700000:=KP (xh Lu r (KN hr)) hU;clear hk hr Nd hneg hbnd Mo;go_wp2_with fail;go_loopg [5,8,9] r.LA.length (fun kk v5 v8 v9 wr=>∃(j:Nat) (l':List Ls),v8=.int .i64 j/\j<=r.LA.length/\r.LA.length-j<=kk/\wr.ownsRow (w.heap.size+1) 9 1 v5 l'.length (bt l')/\Below (w.heap.size+1) (w.alloc (.cells #[.slice a Lu.length cap,.slice aD nD cD] 62)) wr/\l'.length+kU (fQ Lu) l'<=1+(fQ Lu).length/\fL r.LA l=fL (r.LA.drop j) l')
     case atStart=>exact⟨0,l,rfl,KU _,KK _,Mn,L9,hbd,by simp⟩
     case round=>
      obtain⟨wo,rfl⟩:∃wo:World,wo=wr:=⟨_,rfl⟩;clear Mn L9 hbx0 L0 M8 LP MM hbd;obtain⟨j,l',rfl,hj,hjk,LJ,LN,hbd,hadd⟩:=hrel;have HA:=aa hadd;clear hadd;have hb0:wo.cell? ⟨w.heap.size,0,none⟩=some (.slice a Lu.length cap):=by rw[LN.cell (by simp)];simp
      have LP:Lt w wo:=((KL _ _).alloc (KK _) _).trans (LN.mono (by omega));have hszo:w.heap.size+1<=wo.heap.size:=by have:=LN.size;simp at this;omega
      obtain⟨a',LM,e1,h3⟩:=H0.o.below LP;cases e1;obtain⟨gR,ha,h4⟩:∃g,a=some ⟨g,0,none⟩/\∀j r,Lu[j]?=some r->wo.cell? ⟨g,j*2,none⟩=some (.string r.name)/\∃u,wo.cell? ⟨g,j*2+1,none⟩=some u/\cH wo u r.LA:=by
       rcases h3 with e|e
       ·rw[e]at hkl;simp at hkl
       ·exact e
      subst ha;obtain⟨_,u,hcu,aU,Oo,hu,_,N9⟩:=h4 k r HR.o;subst hu;clear h4 h3;obtain⟨aV,capV,hvV⟩:=bc LJ;subst hvV;by_cases hlj:j<r.LA.length
      ·obtain⟨gU,off,haU,h5⟩:∃g off,aU=some ⟨g,off,none⟩/\∀j x,r.LA[j]?=some x->wo.cell? ⟨g,off+j,none⟩=some (.string x):=by
        rcases N9 with e|e
        ·rw[e]at hlj;simp at hlj
        ·exact e
       subst haU;have hzx:=KM hlj;have hcz:=h5 j _ hzx;have HD:=aa (Lq hlj);have HZ:=aa (N7.o r.LA[j] (List.getElem_mem hlj));clear h5 N9 hzx;have hlj2:j+1<=r.LA.length:=hlj;generalize r.LA[j]=z at*;have hm:=o5 z _ l' wo (cH.of_own LJ) (by omega);cases hz:ba z l'
       ·rw[hz]at hm
        have hml:=CB _ l' z HZ.o hz;have HA2:=aa (show fL r.LA l=fL (r.LA.drop (j+1)) (l'++[z])from by rw[HA.o,HD.o,yC,hz];rfl);clear hz;go_wp2_with fail;refine hm.mono ?_;clear hm;rintro e w' ⟨rfl,hw'⟩;have hw':=hw'.symm;subst hw';go_wp2_with (at_builtin;refine wpList_append_own _ rfl _ _ 50 rfl (w.heap.size+1) 9 i0 _ 1 16 underlying50 hi hz0 hz1 hz2 rfl (by decide) _ _ _ rfl (LJ.alloc _) ⟨wo.heap.size,0,none⟩ 1 1 [.string z] rfl rfl (cell_one_new _ _ _) (fun u hu=>by simp at hu;subst hu;rfl) (by unfold maxLen;omega) (by omega) (by simp;omega) ?_;intro v' x3 hown' hgrow _);have L6:Below (w.heap.size+1) (w.alloc (.cells #[.slice (some ⟨gR,0,none⟩) Lu.length cap,.slice aD nD cD] 62)) x3:=Below.grown (LN.alloc (by omega) _) hgrow (by simp;omega) (fun k hk=>(LJ.lt k hk).1);go_roundg (r.LA.length-(j+1))
        case measure=>omega
        case rel=>exact⟨j+1,l'++[z],by go_num,by omega,KK _,by simpa [bt]using hown',L6,by simp;omega,HA2.o⟩
       ·rw[hz]at hm
        have HA2:=aa (show fL r.LA l=fL (r.LA.drop (j+1)) l' from by rw[HA.o,HD.o,yC,hz];rfl);clear hz;go_wp2_with fail;refine hm.mono ?_;clear hm;rintro e w' ⟨rfl,hw'⟩;have hw':=hw'.symm;subst hw';go_wp2_with fail;go_roundg (r.LA.length-(j+1))
        case measure=>omega
        case rel=>exact⟨j+1,l',by go_num,by omega,KK _,LJ,LN,hbd,HA2.o⟩
      ·have HE:=aa (show fL r.LA l=l' from by rw[HA.o,Lp (by omega)];rfl)
       have hb2:=HB.o;rw[HE.o]at HST HMU hb2;go_wp2_with fail;go_roundg (mu Lu (i+1) l')
       case measure=>have:=HMU.o;omega
       case rel=>exact⟨i+1,l',by go_num,by omega,KK _,LJ,LN,hbd,by rw[HM.o,HST.o]⟩
  ·go_wp2_with fail
   go_ret;have HE:=aa (show iE Lu x=l from by rw[HM.o,DT Lu i l (by omega)]);exact⟨_,rfl,by rw[HE.o];exact iJ LJ (by omega),by rw[HE.o];omega,LP⟩
def nB(Lu:List aj)(r:aj)(x:Ls):Bool:=decide (0<=ah (Lu.map aj.name) x)&&!ba r.name (iE Lu x)
def mz(Lu:List aj)(r:aj):Bool:=r.LA.all (nB Lu r)
def lE(Lu:List aj):Bool:=Lu.all (mz Lu)&&jA (Lu.map aj.name)
theorem gZ.at{w:World}{a:Option Addr}{cap:Nat}{l:List aj}{i:Nat}{r:aj}(h:gZ w (.slice a l.length cap) l)(hi:l[i]?=some r):∃g aU Oo,a=some ⟨g,0,none⟩/\w.cell? ⟨g,i*2,none⟩=some (.string r.name)/\w.cell? ⟨g,i*2+1,none⟩=some (.slice aU r.LA.length Oo)/\cH w (.slice aU r.LA.length Oo) r.LA:=by
 obtain⟨a',LM,e1,h3⟩:=h;cases e1;rcases h3 with e|⟨g,e,h4⟩
 ·rw[e]at hi;simp at hi
 ·obtain⟨c0,u,c1,aU,Oo,hu,h5,h6⟩:=h4 i r hi
  subst hu;exact⟨g,aU,Oo,e,c0,c1,aU,Oo,rfl,h5,h6⟩
theorem cH.at{w:World}{a:Option Addr}{cap i:Nat}{l:List Ls}{x:Ls}(h:cH w (.slice a l.length cap) l)(hi:l[i]?=some x):∃g off,a=some ⟨g,off,none⟩/\w.cell? ⟨g,off+i,none⟩=some (.string x):=by
 obtain⟨a',LM,e1,h2,h3⟩:=h;cases e1;rcases h3 with e|⟨g,off,e,h4⟩
 ·rw[e]at hi;simp at hi
 ·exact⟨g,off,e,h4 i x hi⟩
theorem Ir(Lu:List aj)(x:Ls)(k:Nat)(r:aj)(h:ah (Lu.map aj.name) x=k)(hr:Lu[k]?=some r):r.name=x:=by
 have key:∀(l:List Ls) (n k:Nat),dK l x n=((n+k:Nat):Int)->l[k]?=some x:=by
  intro l
  induction l with
  |nil=>intro n k hk;rw[dK]at hk;omega
  |cons y l ih=>
   intro n k hk;rw[dK]at hk;by_cases e:y=x
   ·rw[K9 e]at hk
    have:k=0:=by omega
    subst this;simp[e]
   ·rw[K8 e]at hk
    match k with
    |0=>
     exfalso;have hge:∀(l:List Ls) (m:Nat),dK l x m= -1\/(m:Int)<=dK l x m:=by
      intro l
      induction l with
      |nil=>intro m;left;rfl
      |cons z l ih2=>
       intro m;rw[dK];split
       ·right;omega
       ·rcases ih2 (m+1)with h|h
        ·left;exact h
        ·right;omega
     rcases hge l (n+1)with h|h<;>omega
    |k+1=>
     have:=ih (n+1) k (by rw[hk];congr 1;omega);simpa using this
 have:=key _ 0 k (by rw[Nat.zero_add];exact h);rw[La,hr]at this;exact KY this
theorem ou{α:Type}(p:α->Bool)(l:List α)(i:Nat)(x:α)(h:(l.take i).all p=true)(hx:l[i]?=some x)(hp:p x=true):(l.take (i+1)).all p=true:=by
 rw[Ld,hx,List.all_append,h];simp[hp]
theorem lQ{α:Type}(p:α->Bool)(l:List α)(i:Nat)(x:α)(hx:l[i]?=some x)(hp:p x=false):l.all p=false:=by
 cases h:l.all p
 ·rfl
 ·rw[Lh]at h;rw[h x (KN hx)]at hp;cases hp
theorem Kl(aD:Option Addr)(nD cD:Nat)(v:Value)(Lu:List aj)(w:World)(h:gZ w v Lu)(hl:Lu.length<=801)(hU:(fQ Lu).length<=700000):
 Calls prog 73 #[.agg #[v,.slice aD nD cD]] w fun e w'=>e=.returned (.bool (lE Lu))/\Lt w w':=by
 obtain⟨i0,hi,hz0,hz1,hz2⟩:=info_parts info9;have H0:=aa h;obtain⟨a,cap,rfl,_⟩:=h;generalize hq:lE Lu=q;have HQ:=aa hq;clear hq;go_enter func73,ntmps73;go_wp2_with fail;go_loopg [3,4,5,6,7,8] Lu.length (fun k v3 v4 v5 v6 v7 v8 wr=>∃i:Nat,v4=.int .i64 i/\i<=Lu.length/\Lu.length-i<=k/\wr.ownsRow (w.heap.size+1) 9 1 v3 i (bt ((Lu.map aj.name).take i))/\Below (w.heap.size+1) (w.alloc (.cells #[.slice a Lu.length cap,.slice aD nD cD] 62)) wr/\(Lu.take i).all (mz Lu)=true)
 case atStart=>exact⟨0,rfl,KU _,KK _,K7 _ _ _ _,KL _ _,by simp⟩
 case round=>
  obtain⟨i,rfl,hil,hik,LJ,LN,LZ⟩:=hrel;have Mb:=aa LZ;clear LZ;obtain⟨aL,MN,hvL⟩:=bc LJ;subst hvL;have Ox:wr.cell? ⟨w.heap.size,0,none⟩=some (.slice a Lu.length cap):=by rw[LN.cell (by simp)];simp
  have LP:Lt w wr:=((KL _ _).alloc (KK _) _).trans (LN.mono (by omega));have MM:w.heap.size+1<=wr.heap.size:=by have:=LN.size;simp at this;omega
  by_cases hlt:i<Lu.length
  ·have hx:=KM hlt
   generalize Lu[i]=r at*;obtain⟨gR,aU,Oo,ha,c0,c1,_⟩:=(H0.o.below LP).at hx;subst ha;have hrl:r.LA.length<=700000:=KP (xh Lu r (KN hx)) hU;have HX:=aa hx;clear hx;have Ml:i+1<=Lu.length:=hlt;go_wp2_with (at_builtin;refine wpList_append_own _ rfl _ _ 50 rfl (w.heap.size+1) 9 i0 _ 1 16 underlying50 hi hz0 hz1 hz2 rfl (by decide) _ _ _ rfl (LJ.alloc _) ⟨wr.heap.size,0,none⟩ 1 1 [.string r.name] rfl rfl (cell_one_new _ _ _) (fun u hu=>by simp at hu;subst hu;rfl) (by unfold maxLen;omega) (by omega) (by simp;omega) ?_;intro v' x3 hown' hgrow _);have Mh:Below (w.heap.size+1) (w.alloc (.cells #[.slice (some ⟨gR,0,none⟩) Lu.length cap,.slice aD nD cD] 62)) x3:=Below.grown (LN.alloc (by omega) _) hgrow (by simp;omega) (fun k hk=>(LJ.lt k hk).1);have Mg:x3.ownsRow (w.heap.size+1) 9 1 v' (i+1) (bt ((Lu.map aj.name).take (i+1))):=by
    rw[Ld,La,HX.o];simpa [bt]using hown'
   clear hown' hgrow LJ LN c0 c1 Ox LP MM;go_loopg [5,6,7,8] r.LA.length (fun k v5 v6 v7 v8 wr=>∃j:Nat,v5=.int .i64 j/\j<=r.LA.length/\r.LA.length-j<=k/\wr.ownsRow (w.heap.size+1) 9 1 v' (i+1) (bt ((Lu.map aj.name).take (i+1)))/\Below (w.heap.size+1) (w.alloc (.cells #[.slice (some ⟨gR,0,none⟩) Lu.length cap,.slice aD nD cD] 62)) wr/\(r.LA.take j).all (nB Lu r)=true)
   case atStart=>exact⟨0,rfl,KU _,KK _,Mg,Mh,by simp⟩
   case round=>
    clear Mg Mh;obtain⟨wo,rfl⟩:∃wo:World,wo=wr:=⟨_,rfl⟩;obtain⟨j,rfl,hj,hjk,LJ,LN,LZ⟩:=hrel;have HJ:=aa LZ;clear LZ;have hb0:wo.cell? ⟨w.heap.size,0,none⟩=some (.slice (some ⟨gR,0,none⟩) Lu.length cap):=by rw[LN.cell (by simp)];simp
    have hb1:wo.cell? ⟨w.heap.size,1,none⟩=some (.slice aD nD cD):=by rw[LN.cell (by simp)];simp
    have LP:Lt w wo:=((KL _ _).alloc (KK _) _).trans (LN.mono (by omega));have hszo:w.heap.size+1<=wo.heap.size:=by have:=LN.size;simp at this;omega
    obtain⟨gR',aU2,capU2,ha,c0,c1,hst⟩:=(H0.o.below LP).at HX.o;cases ha;by_cases hlj:j<r.LA.length
    ·have hzx:=KM hlj
     have hlj2:j+1<=r.LA.length:=hlj;generalize r.LA[j]=z at*;obtain⟨gU,off,haU,hcz⟩:=hst.at hzx;subst haU;have HZ:=aa hzx;have hc:∀W,Lt wo W->Calls prog 28 #[.agg #[.slice (some ⟨gR,0,none⟩) Lu.length cap,.slice aD nD cD],.string z] W fun e w'=>e=.returned (.int .i64 (ah (Lu.map aj.name) z))/\Lt W w':=fun W hW=>
      rB aD nD cD _ z (Lu.map aj.name) W ((H0.o.below (LP.trans (hW.mono LP.size))).names) (by simp;omega)
     have HC:=aa hc;clear hc hzx hst;go_upto_region 9 with fail;go_cut [6] (fun v6 wc=>v6=.int .i64 (ah (Lu.map aj.name) z)/\Lt wo wc)
     case first=>
      go_region_with (go_at_call 28;refine(HC.o _ ?_).mono ?_;(first|exact(KL _ _).drew|exact KL _ _);rintro e w' ⟨rfl,hb'⟩);all_goals(try go_wp2_with fail)
      all_goals(go_meet;exact⟨rfl,(KL _ _).drew.trans hb'⟩)
     case rest=>
      obtain⟨rfl,hbc⟩:=hcut;have Mn:=bZ LJ hbc;have L9:=LN.trans (hbc.mono hszo);have hx0:wc.cell? ⟨w.heap.size,0,none⟩=some (.slice (some ⟨gR,0,none⟩) Lu.length cap):=by rw[L9.cell (by simp)];simp
      have hx1:wc.cell? ⟨w.heap.size,1,none⟩=some (.slice aD nD cD):=by rw[L9.cell (by simp)];simp
      have L0:Lt w wc:=LP.trans (hbc.mono LP.size);have M8:=hbc.size;clear hb0 hb1 LJ LN hbc hcz c0 c1 HC;by_cases hneg:ah (Lu.map aj.name) z<0
      ·have HF:=aa (show lE Lu=false from by
        unfold lE;rw[lQ _ _ _ _ HX.o (show mz Lu r=false from lQ _ _ _ _ HZ.o (by unfold nB;rw[KT (by omega)];rfl)),Bool.false_and])
       generalize ah (Lu.map aj.name) z=q0 at*;go_wp2_with fail;go_ret;exact⟨am (by rw[<-HQ.o,HF.o]),L0⟩
      ·obtain⟨n,rn,hn,hrn,_⟩:=At Lu z hneg
       have hzn:=Ir Lu z n rn hn hrn;obtain⟨gR2,aW,capW,ha2,d0,_,_⟩:=(H0.o.below L0).at hrn;cases ha2;rw[hzn]at d0;have hnl:n<Lu.length:=(KO.1 hrn).1;have HNN:=aa (show 0<=ah (Lu.map aj.name) z from by omega);rw[hn];have hc2:∀W,Lt wc W->Calls prog 91 #[.agg #[.slice (some ⟨gR,0,none⟩) Lu.length cap,.slice aD nD cD],.string z] W fun e w'=>∃u,e=.returned u/\w'.ownsRow W.heap.size 9 1 u (iE Lu z).length (bt (iE Lu z))/\(iE Lu z).length<=700001/\Lt W w':=fun W hW=>
        BL aD nD cD _ z Lu W (H0.o.below (L0.trans (hW.mono L0.size))) hl hU
       have HC2:=aa hc2;clear hc2 hn hrn hzn hneg;go_upto_region 12 with fail;go_cut [7] (fun v7 wd=>wd.ownsRow 0 9 1 v7 (iE Lu z).length (bt (iE Lu z))/\(iE Lu z).length<=700001/\Lt wc wd)
       case first=>
        go_region_with (go_at_call 91;refine(HC2.o _ ?_).mono ?_;(first|exact(KL _ _).drew|exact KL _ _);rintro e w' ⟨u,rfl,ho,Me,hb'⟩);all_goals(try go_wp2_with fail)
        all_goals(go_meet;exact⟨iJ ho (KU _),Me,(KL _ _).drew.trans hb'⟩)
       case rest=>
        obtain⟨wd,hwd⟩:∃wd,wd=wc:=⟨_,rfl⟩;subst hwd;obtain⟨ho,Me,hbd⟩:=hcut;have hownd:=bZ Mn hbd;have hbeld:=L9.trans (hbd.mono (by omega));have hy0:wd.cell? ⟨w.heap.size,0,none⟩=some (.slice (some ⟨gR,0,none⟩) Lu.length cap):=by rw[hbeld.cell (by simp)];simp
        have hlowd:Lt w wd:=L0.trans (hbd.mono L0.size);obtain⟨gR3,aX,capX,ha3,f0,_,_⟩:=(H0.o.below hlowd).at HX.o;cases ha3;have hm:=o5 r.name _ _ wd (cH.of_own ho) (by omega);obtain⟨aV,capV,hvV⟩:=bc ho;subst hvV;clear Mn L9 hx0 hx1 d0 HC2;cases hz:ba r.name (iE Lu z)
        ·rw[hz]at hm
         have HOK:=aa (show nB Lu r z=true from by unfold nB;rw[Le HNN.o,hz];rfl);clear hz;go_wp2_with fail;refine hm.mono ?_;clear hm;rintro e w' ⟨rfl,hw'⟩;have hw':=hw'.symm;subst hw';go_wp2_with fail;go_roundg (r.LA.length-(j+1))
         case measure=>omega
         case rel=>exact⟨j+1,by go_num,hlj2,KK _,hownd,hbeld,ou _ _ _ _ HJ.o HZ.o HOK.o⟩
        ·rw[hz]at hm
         have HF:=aa (show lE Lu=false from by
          unfold lE;rw[lQ _ _ _ _ HX.o (show mz Lu r=false from lQ _ _ _ _ HZ.o (by unfold nB;rw[hz];simp)),Bool.false_and])
         clear hz;go_wp2_with fail;refine hm.mono ?_;clear hm;rintro e w' ⟨rfl,hw'⟩;have hw':=hw'.symm;subst hw';go_wp2_with fail;go_ret;exact⟨am (by rw[<-HQ.o,HF.o]),hlowd⟩
    ·have HE:=aa (show mz Lu r=true from by have:=HJ.o;rw[KW (by omega)]at this;exact this)
     go_wp2_with fail;go_roundg (Lu.length-(i+1))
     case measure=>omega
     case rel=>exact⟨i+1,by go_num,Ml,KK _,LJ,LN,ou _ _ _ _ Mb.o HX.o HE.o⟩
  ·have e:i=Lu.length:=by omega
   subst e;have Me:((Lu.map aj.name).take Lu.length)=Lu.map aj.name:=KW (by simp);rw[Me]at LJ;have hs:cH wr _ (Lu.map aj.name):=cH.of_own (base:=w.heap.size+1) (by simpa using LJ);have hc:=ux _ (Lu.map aj.name) wr hs (by simp;omega);have HR:=aa (show lE Lu=jA (Lu.map aj.name)from by
    unfold lE;have:=Mb.o;rw[List.take_length]at this;rw[this,Bool.true_and])
   clear Me;go_wp2_with fail;refine hc.mono ?_;clear hc;rintro e w1 ⟨rfl,hb1⟩;go_wp2_with fail;go_ret;exact⟨am (by rw[<-HQ.o,HR.o]),LP.trans (hb1.mono LP.size)⟩
def rl:List Tk->List (Bool×Ls)
 |[]=>[]
 |[_]=>[]
 |t::u::r=>
  if t.k=1 then
   if u.k=10 then(false,t.s)::rl (r.drop 1)
   else if t.s=cm then(true,u.s)::rl r
   else rl (u::r)
  else rl (u::r)
 termination_by l=>l.length
 decreasing_by all_goals(simp;try omega)
def cJ:List Tk->Bool
 |[]=>true
 |[t]=>!(decide (t.k=1)&&decide (t.s=cm))
 |t::u::r=>
  if t.k=1 then
   if u.k=10 then cJ (r.drop 1)
   else if t.s=cm then decide (u.k=1)&&cJ r
   else cJ (u::r)
  else cJ (u::r)
 termination_by l=>l.length
 decreasing_by all_goals(simp;try omega)
theorem vd(t:Tk)(r:List Tk)(h:t.k≠1):rl (t::r)=rl r/\cJ (t::r)=cJ r:=by
 cases r with
 |nil=>constructor
       ·rw[rl,rl]
       ·rw[cJ,cJ];simp[h]
 |cons u r=>constructor
            ·rw[rl,K8 h]
            ·rw[cJ,K8 h]
theorem xX(t u:Tk)(r:List Tk)(h:t.k=1)(hu:u.k=10):rl (t::u::r)=(false,t.s)::rl (r.drop 1)/\cJ (t::u::r)=cJ (r.drop 1):=by
 constructor
 ·rw[rl,K9 h,K9 hu]
 ·rw[cJ,K9 h,K9 hu]
theorem A8(t u:Tk)(r:List Tk)(h:t.k=1)(hu:u.k≠10)(hs:t.s=cm):rl (t::u::r)=(true,u.s)::rl r/\cJ (t::u::r)=(decide (u.k=1)&&cJ r):=by
 constructor
 ·rw[rl,K9 h,K8 hu,K9 hs]
 ·rw[cJ,K9 h,K8 hu,K9 hs]
theorem rW(t:Tk)(r:List Tk)(hu:∀u,r.head?=some u->u.k≠10)(hs:t.s≠cm):rl (t::r)=rl r/\cJ (t::r)=cJ r:=by
 cases r with
 |nil=>constructor
       ·rw[rl,rl]
       ·rw[cJ,cJ];simp[hs]
 |cons u r=>
  have h:=hu u rfl;constructor
  ·rw[rl,K8 h,K8 hs];split<;>rfl
  ·rw[cJ,K8 h,K8 hs];split<;>rfl
def mF(t:Ls):Bool:=decide (t.data.toList.head?=some 91)
def qS(f:bj):Bool:=co (kB f.ty)&&(!mF f.ty&&(decide (f.arg=bE)&&(decide (f.LG=bE)&&decide (f.LH=bE))))
def mQ(l:List bj)(n:Ls):Bool:=if ah (l.map bj.name) n<0 then false else match l[(ah (l.map bj.name) n).toNat]? with
 |some f=>qS f
 |none=>false
def gX(Lu:List Ls)(l:List bj)(x:Bool×Ls):Bool:=if x.1=true then decide (¬ah Lu x.2<0)else mQ l x.2
theorem iW{α:Type}(g:α->Ls)(l:List α)(x:Ls)(h:¬ah (l.map g) x<0):∃(k:Nat) (a:α),ah (l.map g) x=k/\l[k]?=some a/\g a=x/\k<l.length:=by
 have key:∀(l:List α) (n:Nat),¬dK (l.map g) x n<0->∃(k:Nat) (a:α),dK (l.map g) x n=((n+k:Nat):Int)/\l[k]?=some a/\g a=x:=by
  intro l
  induction l with
  |nil=>intro n hn;exact absurd (show(-1:Int)<0 by decide) hn
  |cons y l ih=>
   intro n hn;rw[List.map_cons,dK]at hn⊢;by_cases e:g y=x
   ·rw[K9 e];exact⟨0,y,by simp,by simp,e⟩
   ·rw[K8 e]at hn⊢
    obtain⟨k,a,h1,h2,h3⟩:=ih (n+1) hn;exact⟨k+1,a,by rw[h1];congr 1;omega,by simpa using h2,h3⟩
 obtain⟨k,a,h1,h2,h3⟩:=key l 0 h;rw[Nat.zero_add]at h1;exact⟨k,a,h1,h2,h3,(KO.1 h2).1⟩
theorem I6(l:List bj)(n:Ls)(h:ah (l.map bj.name) n<0):mQ l n=false:=by unfold mQ;rw[K9 h]
theorem Gx(l:List bj)(n:Ls)(k:Nat)(f:bj)(h:ah (l.map bj.name) n=k)(hf:l[k]?=some f):mQ l n=qS f:=by
 unfold mQ;rw[K8 (by omega),h,Lk,hf]
theorem ff.at{w:World}{a:Option Addr}{cap i:Nat}{l:List Tk}{t:Tk}(h:ff w (.slice a l.length cap) l)(hi:l[i]?=some t):∃g off,a=some ⟨g,off,none⟩/\w.cell? ⟨g,off+i*3,none⟩=some (.int .i64 (rk t.k))/\w.cell? ⟨g,off+i*3+1,none⟩=some (.string (rs t)):=by
 rcases h with⟨_,e⟩|⟨g,off,LM,cur,h1,h2,h3⟩
 ·rw[e]at hi;simp at hi
 ·cases h1
  have hil:=(KO.1 hi).1;have key:∀j,j<3->w.cell? ⟨g,off+i*3+j,none⟩=(kP t)[j]?:=by
   intro j hj;rw[ae h2,<-u9 l i j t hi hj,<-h3,List.getElem?_take_of_lt (by omega),List.getElem?_drop,Array.getElem?_toList];congr 1;omega
  exact⟨g,off,rfl,key 0 (by omega),key 1 (by omega)⟩
theorem Jg(t:Tk)(ht:io t):(t.k=10↔(rk t.k=4/\rs t=⟨#[61]⟩)):=by
 have h:(decide (rk t.k=4)&&decide (rs t=⟨#[61]⟩))=(t.k==10):=sm (some [t]) 10 (by decide) (by decide) (Or.inr ht);rw[Bool.eq_iff_iff]at h;simp only[Li,Lc,beq_iff_eq]at h;exact h.symm
theorem kY.at{w:World}{a:Option Addr}{cap i:Nat}{l:List bj}{f:bj}(h:kY w (.slice a l.length cap) l)(hi:l[i]?=some f):∃g,a=some ⟨g,0,none⟩/\w.cell? ⟨g,i*5,none⟩=some (.string f.name)/\w.cell? ⟨g,i*5+1,none⟩=some (.string f.arg)/\w.cell? ⟨g,i*5+2,none⟩=some (.string f.ty)/\w.cell? ⟨g,i*5+3,none⟩=some (.string f.LG)/\w.cell? ⟨g,i*5+4,none⟩=some (.string f.LH):=by
 obtain⟨a',LM,e1,h3⟩:=h;cases e1;rcases h3 with e|⟨g,e,h4⟩
 ·rw[e]at hi;simp at hi
 ·exact⟨g,e,h4 i f hi⟩
theorem eu78:prog.underlying 121=some (.struct (prog.fieldsOf 121)):=by kernel_rfl
theorem eu9:prog.underlying 9=some .string:=by kernel_rfl
theorem sh78:prog.stoodInHeld 121=false:=by kernel_rfl
theorem eg78:prog.eqGuardType prog.depth 121=false:=by kernel_rfl
theorem pk9:prog.plainKey 9=true:=by kernel_rfl
theorem fs78:(prog.fieldsOf 121).toList.map (fun f=>(f.name,f.type,f.offset))=[("Name",9,0),("Arg",9,1),("Type",9,2),("Auth",9,3),("Hide",9,4)]:=by kernel_rfl
theorem ov(w:World)(d:Nat)(xs ys:Array Value)(f:Field)(fs:List Field)(a b:Ls)(hn:f.name≠ "_")(ht:f.type=9)(hx:xs[f.offset]?=some (.string a))(hy:ys[f.offset]?=some (.string b)):
 (Op.eqFields (d+1) xs ys (f::fs)).run prog w=if (a.toList==b.toList)=true then(Op.eqFields (d+1) xs ys fs).run prog w else .ok false w:=by
 rw[Op.eqFields,K9 hn,ht];simp only[Sem.run_bind];rw[run_part_plain w pk9 hx,Result.andThen_ok,run_part_plain w pk9 hy,Result.andThen_ok,run_equalIn_string w d 9 a b eu9,Result.andThen_ok];cases (a.toList==b.toList)<;>simp
theorem wK(w:World)(d:Nat)(xs ys:Array Value):(Op.eqFields d xs ys []).run prog w=.ok true w:=by
 rw[Op.eqFields];rfl
theorem D2(w:World)(a0 a1 a2 a3 a4 b0 b1 b2 b3 b4:Ls):
 (Op.equalIn 10000 121 (.agg #[.string a0,.string a1,.string a2,.string a3,.string a4]) (.agg #[.string b0,.string b1,.string b2,.string b3,.string b4])).run prog w=.ok ((a0.toList==b0.toList)&&((a1.toList==b1.toList)&&((a2.toList==b2.toList)&&((a3.toList==b3.toList)&&(a4.toList==b4.toList))))) w:=by
 rw[run_equalIn_struct w 9999 121 _ _ eu78 sh78];have h:=fs78;generalize (prog.fieldsOf 121).toList=l at h;rcases l with _|⟨f0,_|⟨f1,_|⟨f2,_|⟨f3,_|⟨f4,_|⟨f5,l⟩⟩⟩⟩⟩⟩;all_goals first
  |(exfalso;have:=congrArg List.length h;simp at this;done)
  |skip
 ·simp only[List.map_cons,List.map_nil,List.cons.injEq,Prod.mk.injEq,and_true]at h
  obtain⟨⟨n0,t0,o0⟩,⟨n1,t1,o1⟩,⟨n2,t2,o2⟩,⟨n3,t3,o3⟩,⟨n4,t4,o4⟩⟩:=h;rw[ov w 9998 _ _ f0 _ a0 b0 (by rw[n0];decide) t0 (by rw[o0];rfl) (by rw[o0];rfl)];rw[ov w 9998 _ _ f1 _ a1 b1 (by rw[n1];decide) t1 (by rw[o1];rfl) (by rw[o1];rfl)];rw[ov w 9998 _ _ f2 _ a2 b2 (by rw[n2];decide) t2 (by rw[o2];rfl) (by rw[o2];rfl)];rw[ov w 9998 _ _ f3 _ a3 b3 (by rw[n3];decide) t3 (by rw[o3];rfl) (by rw[o3];rfl)];rw[ov w 9998 _ _ f4 _ a4 b4 (by rw[n4];decide) t4 (by rw[o4];rfl) (by rw[o4];rfl)];rw[wK];cases (a0.toList==b0.toList)<;>cases (a1.toList==b1.toList)<;>cases (a2.toList==b2.toList)<;>cases (a3.toList==b3.toList)<;>cases (a4.toList==b4.toList)<;>rfl
theorem yk(t:Ls)(h:0<t.size):mF t=((t[0].toNat:Int)==91):=by
 unfold mF;rw[kJ t h,List.head?_cons];rw[Bool.eq_iff_iff];simp only[Lc,Option.some.injEq,beq_iff_eq];constructor
 ·intro e;rw[e];rfl
 ·intro e;exact fp (by simpa using e)
theorem FL(f:bj)(h:0<f.ty.size):qS f=(co (kB f.ty)&&(!((f.ty[0].toNat:Int)==91)&&(f.arg.toList.isEmpty&&(f.LG.toList.isEmpty&&f.LH.toList.isEmpty)))):=by
 unfold qS;rw[yk _ h,kL,kL,kL]
theorem EA{Lu:List Ls}{LS:List bj}{Lw r:List Tk}{i:Nat}{t u:Tk}{q:Bool}(hD:Lw.drop i=t::u::r)(h:(rl (Lw.drop i)).all (gX Lu LS)=q)(ho:cJ (Lw.drop i)=true)(ht:t.k=1)(hu:u.k=10):q=(mQ LS t.s&&(rl (Lw.drop (i+3))).all (gX Lu LS))/\cJ (Lw.drop (i+3))=true:=by
 have e3:Lw.drop (i+3)=r.drop 1:=by
  have:Lw.drop (i+3)=(Lw.drop i).drop 3:=by rw[List.drop_drop]
  rw[this,hD];rfl
 rw[hD]at h ho;obtain⟨h1,h2⟩:=xX t u r ht hu;rw[h1]at h;rw[h2]at ho;rw[e3];exact⟨by rw[<-h];rfl,ho⟩
theorem Hq{Lu:List Ls}{LS:List bj}{Lw r:List Tk}{i:Nat}{t u:Tk}{q:Bool}(hD:Lw.drop i=t::u::r)(h:(rl (Lw.drop i)).all (gX Lu LS)=q)(ho:cJ (Lw.drop i)=true)(ht:t.k=1)(hu:u.k≠10)(hs:t.s=cm):q=(decide (¬ah Lu u.s<0)&&(rl (Lw.drop (i+2))).all (gX Lu LS))/\cJ (Lw.drop (i+2))=true/\u.k=1:=by
 have e3:Lw.drop (i+2)=r:=by
  have:Lw.drop (i+2)=(Lw.drop i).drop 2:=by rw[List.drop_drop]
  rw[this,hD];rfl
 rw[hD]at h ho;obtain⟨h1,h2⟩:=A8 t u r ht hu hs;rw[h1]at h;rw[h2,Li,Lc]at ho;rw[e3];exact⟨by rw[<-h];rfl,ho.2,ho.1⟩
theorem wS{P:Bool×Ls->Bool}{Lw:List Tk}{i:Nat}{q:Bool}(hD:rl (Lw.drop i)=rl (Lw.drop (i+1))/\cJ (Lw.drop i)=cJ (Lw.drop (i+1)))(h:(rl (Lw.drop i)).all P=q)(ho:cJ (Lw.drop i)=true):(rl (Lw.drop (i+1))).all P=q/\cJ (Lw.drop (i+1))=true:=by
 rw[hD.1]at h;rw[hD.2]at ho;exact⟨h,ho⟩
theorem Ex(aD aA:Option Addr)(nD cD nA cA:Nat)(so:Int)(na:Ls)(ru:Bool)(vR vF vT:Value)(Lu:List aj)(LS:List bj)(Lw:List Tk)(w:World)
 (hR:gZ w vR Lu) (hF:kY w vF LS) (hT:ff w vT Lw) (hok:∀f∈LS,0<f.ty.size/\f.ty.size<=100000) (hlR:Lu.length<=801) (hlF:LS.length<=801) (hlT:Lw.length<=801) (htk:∀t∈Lw,io t) (hrl:cJ Lw=true):
 Calls prog 110 #[.agg #[vR,.slice aD nD cD],.agg #[.int .i64 so,.string na,vF,.slice aA nA cA,.bool ru,vT]] w fun e w'=>e=.returned (.bool ((rl Lw).all (gX (Lu.map aj.name) LS)))/\Lt w w':=by
 have HR:=aa hR;have HF:=aa hF;have HT:=aa hT;have HOK:=aa hok;have HTK:=aa htk;have HRL:=aa hrl;obtain⟨aR,cR,rfl,_⟩:=hR;obtain⟨aF,cF,rfl,_⟩:=hF;obtain⟨aT,cT,rfl⟩:=hT.slice;clear hT hok htk hrl;generalize hq:(rl Lw).all (gX (Lu.map aj.name) LS)=q;have HQ:=aa hq;clear hq;go_enter func110,ntmps110;go_wp2_with fail;go_loopg [6,7,8,9,10,11] (Lw.length+3) (fun k v6 v7 v8 v9 v10 v11 wr=>∃i:Nat,v6=.int .i64 i/\i<=Lw.length+2/\Lw.length+3-i<=k/\Below (w.heap.size+2) ((w.alloc (.cells #[.slice aR Lu.length cR,.slice aD nD cD] 62)).alloc (.cells #[.int .i64 so,.string na,.slice aF LS.length cF,.slice aA nA cA,.bool ru,.slice aT Lw.length cT] 96)) wr/\(rl (Lw.drop i)).all (gX (Lu.map aj.name) LS)=q/\cJ (Lw.drop i)=true)
 case atStart=>exact⟨0,rfl,KU _,by omega,KL _ _,HQ.o,HRL.o⟩
 case round=>
  obtain⟨i,rfl,hil,hik,LN,LZ,hro⟩:=hrel;have Mb:=aa LZ;have HRO:=aa hro;clear LZ hro;have cx0:wr.cell? ⟨w.heap.size,0,none⟩=some (.slice aR Lu.length cR):=by rw[LN.cell (by simp)];exact ae (ig _ _ _) 0
  have cx1:wr.cell? ⟨w.heap.size,1,none⟩=some (.slice aD nD cD):=by rw[LN.cell (by simp)];exact ae (ig _ _ _) 1
  have cd0:wr.cell? ⟨w.heap.size+1,0,none⟩=some (.int .i64 so):=by rw[LN.cell (by simp)];exact ae (eo _ _ _) 0
  have cd1:wr.cell? ⟨w.heap.size+1,1,none⟩=some (.string na):=by rw[LN.cell (by simp)];exact ae (eo _ _ _) 1
  have cd2:wr.cell? ⟨w.heap.size+1,2,none⟩=some (.slice aF LS.length cF):=by rw[LN.cell (by simp)];exact ae (eo _ _ _) 2
  have cd3:wr.cell? ⟨w.heap.size+1,3,none⟩=some (.slice aA nA cA):=by rw[LN.cell (by simp)];exact ae (eo _ _ _) 3
  have cd4:wr.cell? ⟨w.heap.size+1,4,none⟩=some (.bool ru):=by rw[LN.cell (by simp)];exact ae (eo _ _ _) 4
  have cd5:wr.cell? ⟨w.heap.size+1,5,none⟩=some (.slice aT Lw.length cT):=by rw[LN.cell (by simp)];exact ae (eo _ _ _) 5
  have LP:Lt w wr:=(di w _ _).trans (LN.mono (by omega));have MM:w.heap.size+2<=wr.heap.size:=by have:=LN.size;simp at this;omega
  by_cases hlt:i<Lw.length
  ·have hx:=KM hlt
   have hD:=Lq hlt;generalize Lw[i]=t at*;have hta:=HTK.o t (KN hx);obtain⟨gT,offT,ha,c0,c1⟩:=(HT.o.below LP).at hx;subst ha;have HX:=aa hx;clear hx;by_cases hk1:t.k=1
   ·have e1:rk t.k=1:=(mW _).2 hk1
    have e2:rs t=t.s:=by unfold rs;rw[K9 (by omega)]
    rw[e1]at c0;rw[e2]at c1;clear e1 e2;by_cases Ml:i+1<Lw.length
    ·have hx2:=KM Ml
     have hD2:=Lq Ml;generalize Lw[i+1]=u at*;have hua:=HTK.o u (KN hx2);obtain⟨gT',offT',ha,d0,d1⟩:=(HT.o.below LP).at hx2;cases ha;rw[hD2]at hD;clear hx2 hD2;have hrm:=Jg u hua;by_cases hu:u.k=10
     ·obtain⟨e4,e5⟩:=hrm.1 hu
      rw[e4]at d0;rw[e5]at d1;have HE:=aa (EA hD Mb.o HRO.o hk1 hu);clear e4 e5 hrm hD hu hk1;have hc:∀W,Lt wr W->Calls prog 49 #[.agg #[.int .i64 so,.string na,.slice aF LS.length cF,.slice aA nA cA,.bool ru,.slice (some ⟨gT,offT,none⟩) Lw.length cT],.string t.s] W fun e w'=>e=.returned (.int .i64 (ah (LS.map bj.name) t.s))/\Lt W w':=fun W hW=>
       rt so na _ _ _ _ _ _ ru _ t.s (LS.map bj.name) W ((HF.o.below (LP.trans (hW.mono LP.size))).names) (by simp;omega)
      have HC:=aa hc;clear hc;have HKS:=aa (I6 LS t.s);have HKA:=aa (iW bj.name LS t.s);have HKF:=aa (Gx LS t.s);generalize mQ LS t.s=fb at*;generalize hts:t.s=ts at*;go_upto_region 7 with fail;go_cut [7] (fun v7 wc=>v7=.int .i64 (ah (LS.map bj.name) ts)/\Lt wr wc)
      case first=>
       go_region_with (go_at_call 49;refine(HC.o _ ?_).mono ?_;(first|exact(KL _ _).drew|exact KL _ _);rintro e w' ⟨rfl,hb'⟩);all_goals(try go_wp2_with fail)
       all_goals(go_meet;exact⟨rfl,(KL _ _).drew.trans hb'⟩)
      case rest=>
       obtain⟨rfl,hbc⟩:=hcut;have L9:=LN.trans (hbc.mono MM);have L0:Lt w wc:=LP.trans (hbc.mono LP.size);have M8:=hbc.size;have ce2:wc.cell? ⟨w.heap.size+1,2,none⟩=some (.slice aF LS.length cF):=by rw[L9.cell (by simp)];exact ae (eo _ _ _) 2
       clear cx0 cx1 cd0 cd1 cd2 cd3 cd4 cd5 c0 c1 d0 d1 HC LN hbc;by_cases hneg:ah (LS.map bj.name) ts<0
       ·have HQF:=aa (show q=false from by rw[HE.o.1,HKS.o hneg,Bool.false_and])
        generalize ah (LS.map bj.name) ts=kk at*;go_wp2_with fail;go_ret;exact⟨am (by rw[HQF.o]),L0⟩
       ·obtain⟨k,f,hk,hf,_,hkl⟩:=HKA.o hneg
        have Nn:=HKF.o k f hk hf;obtain⟨hz1,hz2⟩:=HOK.o f (KN hf);rw[FL f hz1]at Nn;rw[hk];have HFIT:=aa Nn;obtain⟨gF,ha,f0,f1,f2,f3,f4⟩:=(HF.o.below L0).at hf;subst ha;clear Nn hk hf hneg HKS HKA HKF;have hco:=vm f.ty;go_wp2_with fail;refine(hco _ hz2).mono ?_;clear hco;rintro e w1 ⟨rfl,hw1⟩;have hw1:=hw1.symm;subst hw1;have hsc:=wH (kB f.ty);have HLW:=aa (show Lt w (wc.alloc (.cells #[.string ts,.string f.arg,.string f.ty,.string f.LG,.string f.LH] 121))from L0.alloc L0.size _);have HBW:=aa (show Below (w.heap.size+2) ((w.alloc (.cells #[.slice aR Lu.length cR,.slice aD nD cD] 62)).alloc (.cells #[.int .i64 so,.string na,.slice (some ⟨gF,0,none⟩) LS.length cF,.slice aA nA cA,.bool ru,.slice (some ⟨gT,offT,none⟩) Lw.length cT] 96)) (wc.alloc (.cells #[.string ts,.string f.arg,.string f.ty,.string f.LG,.string f.LH] 121))from L9.alloc (by omega) _);generalize kB f.ty=cty at*;generalize co cty=s1 at*;cases s1
        ·have HQF:=aa (show q=false from by rw[HE.o.1,HFIT.o];rfl)
         go_wp2_with fail;refine(hsc _).mono ?_;clear hsc;rintro e w1 ⟨rfl,hw1⟩;have hw1:=hw1.symm;subst hw1;go_wp2_with fail;go_ret;exact⟨am (by rw[HQF.o]),HLW.o⟩
        ·cases h91:((f.ty[0].toNat:Int)==91)
         ·cases hA:f.arg.toList.isEmpty
          ·have HQF:=aa (show q=false from by rw[HE.o.1,HFIT.o,h91,hA];rfl)
           go_wp2_with fail;refine(hsc _).mono ?_;clear hsc;rintro e w1 ⟨rfl,hw1⟩;have hw1:=hw1.symm;subst hw1;go_wp2_with fail;go_ret;exact⟨am (by rw[HQF.o]),HLW.o⟩
          ·cases hB:f.LG.toList.isEmpty
           ·have HQF:=aa (show q=false from by rw[HE.o.1,HFIT.o,h91,hA,hB];rfl)
            go_wp2_with fail;refine(hsc _).mono ?_;clear hsc;rintro e w1 ⟨rfl,hw1⟩;have hw1:=hw1.symm;subst hw1;go_wp2_with fail;go_ret;exact⟨am (by rw[HQF.o]),HLW.o⟩
           ·cases hH:f.LH.toList.isEmpty
            ·have HQF:=aa (show q=false from by rw[HE.o.1,HFIT.o,h91,hA,hB,hH];rfl)
             go_wp2_with fail;refine(hsc _).mono ?_;clear hsc;rintro e w1 ⟨rfl,hw1⟩;have hw1:=hw1.symm;subst hw1;go_wp2_with fail;go_ret;exact⟨am (by rw[HQF.o]),HLW.o⟩
            ·have HQT:=aa (show(rl (Lw.drop (i+3))).all (gX (Lu.map aj.name) LS)=q from by rw[HE.o.1,HFIT.o,h91,hA,hB,hH];simp)
             go_wp2_with fail;refine(hsc _).mono ?_;clear hsc;rintro e w1 ⟨rfl,hw1⟩;have hw1:=hw1.symm;subst hw1;go_wp2_with fail;go_roundg (Lw.length+3-(i+3))
             case measure=>omega
             case rel=>exact⟨i+3,by go_num,by omega,KK _,HBW.o,HQT.o,HE.o.2⟩
         ·have HQF:=aa (show q=false from by rw[HE.o.1,HFIT.o,h91];rfl)
          go_wp2_with fail;refine(hsc _).mono ?_;clear hsc;rintro e w1 ⟨rfl,hw1⟩;have hw1:=hw1.symm;subst hw1;go_wp2_with fail;go_ret;exact⟨am (by rw[HQF.o]),HLW.o⟩
     ·have hsl:=bV t.s [105,115]
      by_cases hs:t.s=cm
      ·obtain⟨hq1,hq2,hu1⟩:=Hq hD Mb.o HRO.o hk1 hu hs
       rw[Le (show t.s=aE _ from hs)]at hsl;have e1:rk u.k=1:=(mW _).2 hu1;have e2:rs u=u.s:=by unfold rs;rw[K9 (by omega)]
       rw[e1]at d0;rw[e2]at d1;have HE:=aa (And.intro hq1 hq2);obtain⟨j,hj⟩:∃j:Nat,j=i+1:=⟨_,rfl⟩;have hwi:IntKind.i64.wrap ((i:Int)+1)=(j:Int):=by rw[wrap_small _ (by omega) (by omega)];omega
       have hlt3:j<Lw.length:=by omega
       have d0':=d0;have d1':=d1;rw[<-hj]at d0' d1';have HJ:=aa hj;clear hj;have hc:∀W,Lt wr W->Calls prog 28 #[.agg #[.slice aR Lu.length cR,.slice aD nD cD],.string u.s] W fun e w'=>e=.returned (.int .i64 (ah (Lu.map aj.name) u.s))/\Lt W w':=fun W hW=>
        rB aD nD cD _ u.s (Lu.map aj.name) W ((HR.o.below (LP.trans (hW.mono LP.size))).names) (by simp;omega)
       have HC:=aa hc;clear hc hq1 hq2 hu1 e1 e2 hrm hD hu hk1 hs hta hua;generalize t.s=ts at*;generalize u.s=us at*;go_upto_region 17 with fail;go_cut [11] (fun v11 wc=>v11=.int .i64 (ah (Lu.map aj.name) us)/\Lt wr wc)
       case first=>
        go_region_with (go_at_call 28;refine(HC.o _ ?_).mono ?_;(first|exact(KL _ _).drew|exact KL _ _);rintro e w' ⟨rfl,hb'⟩);all_goals(try go_wp2_with fail)
        all_goals(go_meet;exact⟨rfl,(KL _ _).drew.trans hb'⟩)
       case rest=>
        obtain⟨rfl,hbc⟩:=hcut;have L9:=LN.trans (hbc.mono MM);have L0:Lt w wc:=LP.trans (hbc.mono LP.size);clear cx0 cx1 cd0 cd1 cd2 cd3 cd4 cd5 c0 c1 d0 d1 HC LN hbc;generalize ah (Lu.map aj.name) us=kk at*;by_cases hneg:kk<0
        ·have HQF:=aa (show q=false from by rw[HE.o.1,KT (by omega),Bool.false_and])
         go_wp2_with fail;go_ret;exact⟨am (by rw[HQF.o]),L0⟩
        ·have HQT:=aa (show(rl (Lw.drop (i+2))).all (gX (Lu.map aj.name) LS)=q from by rw[HE.o.1,Le hneg,Bool.true_and])
         go_wp2_with fail;have hj:=HJ.o;go_roundg (Lw.length+3-(i+2))
         case measure=>omega
         case rel=>exact⟨i+2,by go_num,by omega,KK _,L9,HQT.o,HE.o.2⟩
      ·rw[KT (show¬t.s=aE _ from hs)]at hsl
       have hD1:Lw.drop (i+1)=u::Lw.drop (i+2):=by
        have:Lw.drop (i+1)=(Lw.drop i).drop 1:=by rw[List.drop_drop]
        rw[this,hD];rfl
       have HN:=aa (wS (P:=gX (Lu.map aj.name) LS) (Lw:=Lw) (i:=i) (by rw[hD,hD1];exact rW t _ (fun x hx=>by simp at hx;subst hx;exact hu) hs) Mb.o HRO.o);have hul:=bV (rs u) [61];have hcond:((rk u.k:Int)==4)=false\/((rk u.k:Int)==4)=true/\((rs u).toList==[61])=false:=by
        by_cases h4:rk u.k=4
        ·right
         refine⟨by simp;omega,?_⟩;rw[hul,KT];intro e;exact hu (hrm.2 ⟨h4,e⟩)
        ·left;simp;omega
       clear hul hrm hD hD1 hu hk1 hs hta hua;generalize t.s=ts at*;generalize rs u=us at*;generalize rk u.k=ku at*;rcases hcond with t1|⟨t1,t2⟩
       ·go_wp2_with fail
        go_roundg (Lw.length+3-(i+1))
        case measure=>omega
        case rel=>exact⟨i+1,by go_num,by omega,KK _,LN,HN.o.1,HN.o.2⟩
       ·go_wp2_with fail
        go_roundg (Lw.length+3-(i+1))
        case measure=>omega
        case rel=>exact⟨i+1,by go_num,by omega,KK _,LN,HN.o.1,HN.o.2⟩
    ·have hD1:Lw.drop (i+1)=[]:=Lp (by omega)
     rw[hD1]at hD;have hs:t.s≠cm:=by
      intro e;have:=HRO.o;rw[hD,cJ,Le hk1,Le e]at this;cases this
     have HN:=aa (wS (P:=gX (Lu.map aj.name) LS) (Lw:=Lw) (i:=i) (by rw[hD,hD1];exact rW t _ (fun x hx=>by simp at hx) hs) Mb.o HRO.o);have hsl:=bV t.s [105,115];rw[KT (show¬t.s=aE _ from hs)]at hsl;clear hD hD1 hk1 hs hta;generalize t.s=ts at*;go_wp2_with fail;go_roundg (Lw.length+3-(i+1))
     case measure=>omega
     case rel=>exact⟨i+1,by go_num,by omega,KK _,LN,HN.o.1,HN.o.2⟩
   ·have hne:((rk t.k:Int)==1)=false:=by simp;intro e;exact hk1 ((mW _).1 (by omega))
    have HN:=aa (wS (P:=gX (Lu.map aj.name) LS) (Lw:=Lw) (i:=i) (by rw[hD];exact vd t _ hk1) Mb.o HRO.o);clear hk1 hD hta;generalize rk t.k=kt at*;go_wp2_with fail;go_roundg (Lw.length+3-(i+1))
    case measure=>omega
    case rel=>exact⟨i+1,by go_num,by omega,KK _,LN,HN.o.1,HN.o.2⟩
  ·have HQT:=aa (show q=true from by
    have e:Lw.drop i=[]:=Lp (by omega);rw[<-Mb.o,e,rl];rfl)
   go_wp2_with fail;go_ret;exact⟨am (by rw[HQT.o]),LP⟩
def rI(s:Ls):Bool:=decide (s.data.toList.take 2=[95,95])
def pb(f:bj):Bool:=!((decide (f.arg=ik)&&(mF f.ty||co (kB f.ty)))||(decide (f.arg=mp)&&!mF f.ty))
def lf(Lu:List aj)(names:List Ls)(f:bj):Bool:=!rI f.name&&(mV Lu f.LG&&(mV Lu f.LH&&((co (kB f.ty)||decide (¬ah names (kB f.ty)<0))&&pb f)))
def oJ(f g:bj):Bool:=decide (f.name=g.name)&&(decide (f.arg=g.arg)&&(decide (f.ty=g.ty)&&(decide (f.LG=g.LG)&&decide (f.LH=g.LH))))
def kT(l:List bj)(g:bj):Bool:=if ah (l.map bj.name) g.name<0 then false else match l[(ah (l.map bj.name) g.name).toNat]? with
 |some f=>oJ f g
 |none=>false
def jB(Lv:List ap)(d:ap)(a:Ls):Bool:=if ah (Lv.map ap.name) a<0 then false else match Lv[(ah (Lv.map ap.name) a).toNat]? with
 |some t=>if d.sort=2 then decide (t.sort=0)else decide (t.sort=1)&&t.fields.all (kT d.fields)
 |none=>false
def lI(Lu:List aj)(Lv:List ap)(d:ap):Bool:=d.fields.all (lf Lu (Lv.map ap.name))&&((jA (d.fields.map bj.name)&&jA d.Ly)&&(d.Ly.all (jB Lv d)&&(rl d.Lw).all (gX (Lu.map aj.name) d.fields)))
structure mx(d:ap):Prop where
 sort:d.sort<=2
 tys:∀f∈d.fields,0<f.ty.size/\f.ty.size<=100000
 nf:d.fields.length<=801
 na:d.Ly.length<=801
 nr:d.Lw.length<=801
 tok:∀t∈d.Lw,io t
 rul:cJ d.Lw=true
structure si(w:World)(d:ap)(vF vA vR:Value):Prop where
 f:kY w vF d.fields
 a:cH w vA d.Ly
 r:ff w vR d.Lw
theorem si.below{w w':World}{d:ap}{vF vA vR:Value}(h:si w d vF vA vR)(hb:Lt w w'):si w' d vF vA vR:=⟨h.f.below hb,h.a.below hb,h.r.below hb⟩
theorem i5.at{w:World}{a:Option Addr}{cap i:Nat}{l:List ap}{d:ap}(h:i5 w (.slice a l.length cap) l)(hi:l[i]?=some d):∃g aF cF aA cA aT cT,a=some ⟨g,0,none⟩/\w.cell? ⟨g,i*6,none⟩=some (.int .i64 d.sort)/\w.cell? ⟨g,i*6+1,none⟩=some (.string d.name)/\w.cell? ⟨g,i*6+2,none⟩=some (.slice aF d.fields.length cF)/\w.cell? ⟨g,i*6+3,none⟩=some (.slice aA d.Ly.length cA)/\w.cell? ⟨g,i*6+4,none⟩=some (.bool d.LC)/\w.cell? ⟨g,i*6+5,none⟩=some (.slice aT d.Lw.length cT)/\si w d (.slice aF d.fields.length cF) (.slice aA d.Ly.length cA) (.slice aT d.Lw.length cT):=by
 obtain⟨a',LM,e1,h3⟩:=h;cases e1;rcases h3 with e|⟨g,e,h4⟩
 ·rw[e]at hi;simp at hi
 ·obtain⟨c0,c1,c4,vF,vA,vR,c2,c3,c5,hF,hA,hR⟩:=h4 i d hi
  have hF0:=hF;have hA0:=hA;obtain⟨aF,cF,rfl,_⟩:=hF;obtain⟨aA,cA,rfl,_⟩:=hA;obtain⟨aT,cT,rfl⟩:=hR.slice;exact⟨g,aF,cF,aA,cA,aT,cT,e,c0,c1,c2,c3,c4,c5,hF0,hA0,hR⟩
theorem JP{α:Type}(p:α->Bool)(l:List α)(j:Nat)(h:(l.take j).all p=false):l.all p=false:=by
 cases hh:l.all p
 ·rfl
 ·rw[Lh]at hh
  have:(l.take j).all p=true:=by rw[Lh];intro x hx;exact hh x (List.mem_of_mem_take hx)
  rw[this]at h;cases h
theorem xe{Lv:List ap}{d:ap}{a:Ls}(h:ah (Lv.map ap.name) a<0):jB Lv d a=false:=by unfold jB;rw[K9 h]
theorem vl{Lv:List ap}{d t:ap}{a:Ls}{k:Nat}(h:ah (Lv.map ap.name) a=k)(ht:Lv[k]?=some t):jB Lv d a=if d.sort=2 then decide (t.sort=0)else decide (t.sort=1)&&t.fields.all (kT d.fields):=by
 unfold jB;rw[K8 (by omega),h,Lk,ht]
theorem Dj{l:List bj}{g:bj}(h:ah (l.map bj.name) g.name<0):kT l g=false:=by unfold kT;rw[K9 h]
theorem G0{l:List bj}{g f:bj}{k:Nat}(h:ah (l.map bj.name) g.name=k)(hf:l[k]?=some f):kT l g=oJ f g:=by
 unfold kT;rw[K8 (by omega),h,Lk,hf]
theorem IA(f g:bj):oJ f g=((f.name.toList==g.name.toList)&&((f.arg.toList==g.arg.toList)&&((f.ty.toList==g.ty.toList)&&((f.LG.toList==g.LG.toList)&&(f.LH.toList==g.LH.toList))))):=by
 unfold oJ;rw[bY,bY,bY,bY,bY]
theorem mX(w:World)(o:Obj):(w.alloc o).heap[w.heap.size]?=some o:=KS w o
theorem Ak(w:World)(o:Obj):(w.alloc o).heap.size=w.heap.size+1:=by simp
theorem Ao(n:Ls)(_h:2<=n.size):((n.extract 0 2).toList==[95,95])=rI n:=by
 rw[Lib.toList_data,qX];unfold rI;rw[Bool.eq_iff_iff];simp
theorem Er(n:Ls)(h:¬2<=n.size):rI n=false:=by
 unfold rI;apply KT;intro e;have:=congrArg List.length e;rw[List.length_take]at this;simp at this;exact h (by have:n.data.size=n.size:=rfl;omega)
theorem tj{Lu:List aj}{Lv:List ap}{d:ap}{i:Nat}{f:bj}(hx:d.fields[i]?=some f)(h:lf Lu (Lv.map ap.name) f=false):lI Lu Lv d=false:=by
 unfold lI;rw[lQ _ _ _ _ hx h,Bool.false_and]
theorem Jv(vX vY vF vA vR:Value)(Lu:List aj)(Lv:List ap)(d:ap)(w:World)
 (hR:gZ w vX Lu) (hD:i5 w vY Lv) (hd:si w d vF vA vR) (hok:mx d) (Nr:∀x∈Lv,mx x) (hlR:Lu.length<=801) (hlD:Lv.length<=801):
 Calls prog 76 #[.agg #[vX,vY],.agg #[.int .i64 d.sort,.string d.name,vF,vA,.bool d.LC,vR]] w fun e w'=>e=.returned (.bool (lI Lu Lv d))/\Lt w w':=by
 have HR:=aa hR;have HD:=aa hD;have Hd:=aa hd;have HOK:=aa hok;have HOKS:=aa Nr;obtain⟨aX,cX,rfl,_⟩:=hR;obtain⟨aY,cY,rfl,_⟩:=hD;obtain⟨⟨aF,cF,rfl,_⟩,⟨aA,cA,rfl,_⟩,hdr⟩:=hd;obtain⟨aT,cT,rfl⟩:=hdr.slice;clear hdr hok Nr;obtain⟨i0,hi,hz0,hz1,hz2⟩:=info_parts info9;have hq78:=D2;have hg78:=eg78;generalize hq:lI Lu Lv d=q;have HQ:=aa hq;clear hq;have hnf:=HOK.o.nf;have hna:=HOK.o.na;have hso:=HOK.o.sort;have HW0:=aa (show∃W,W=((w.alloc (.cells #[.slice aX Lu.length cX,.slice aY Lv.length cY] 62)).alloc (.cells #[.int .i64 d.sort,.string d.name,.slice aF d.fields.length cF,.slice aA d.Ly.length cA,.bool d.LC,.slice aT d.Lw.length cT] 96))from⟨_,rfl⟩);go_enter func76,ntmps76;go_wp2_with fail;go_loopg [5,6,7,8,9,10,11,12] d.fields.length (fun k v5 v6 v7 v8 v9 v10 v11 v12 wr=>∃i:Nat,v6=.int .i64 i/\i<=d.fields.length/\d.fields.length-i<=k/\wr.ownsRow (w.heap.size+2) 9 1 v5 i (bt ((d.fields.map bj.name).take i))/\Below (w.heap.size+2) ((w.alloc (.cells #[.slice aX Lu.length cX,.slice aY Lv.length cY] 62)).alloc (.cells #[.int .i64 d.sort,.string d.name,.slice aF d.fields.length cF,.slice aA d.Ly.length cA,.bool d.LC,.slice aT d.Lw.length cT] 96)) wr/\(d.fields.take i).all (lf Lu (Lv.map ap.name))=true)
 case atStart=>exact⟨0,rfl,KU _,KK _,K7 _ _ _ _,KL _ _,by simp⟩
 case round=>
  obtain⟨i,rfl,hil,hik,LJ,LN,LZ⟩:=hrel;have Mb:=aa LZ;clear LZ;obtain⟨aL,MN,hvL⟩:=bc LJ;subst hvL;have cd2:wr.cell? ⟨w.heap.size+1,2,none⟩=some (.slice aF d.fields.length cF):=by rw[LN.cell (by simp)];exact ae (eo _ _ _) 2
  have LP:Lt w wr:=(di w _ _).trans (LN.mono (by omega));have MM:w.heap.size+2<=wr.heap.size:=by have:=LN.size;simp at this;omega
  by_cases hlt:i<d.fields.length
  ·have hx:=KM hlt
   generalize d.fields[i]=f at*;obtain⟨gF,ha,f0,f1,f2,f3,f4⟩:=(Hd.o.f.below LP).at hx;subst ha;have hfz:=HOK.o.tys f (KN hx);obtain⟨hz3,hz4⟩:=hfz;have HX:=aa hx;clear hx;have Ml:i+1<=d.fields.length:=hlt;go_upto_region 6 with fail;have HF1:=aa (show(wr.alloc (.cells #[.string f.name,.string f.arg,.string f.ty,.string f.LG,.string f.LH] 121)).heap[wr.heap.size]?=some (.cells #[.string f.name,.string f.arg,.string f.ty,.string f.LG,.string f.LH] 121 (0,0))from mX _ _);have Mi:=LN.alloc MM (.cells #[.string f.name,.string f.arg,.string f.ty,.string f.LG,.string f.LH] 121);have L7:=LJ.alloc (.cells #[.string f.name,.string f.arg,.string f.ty,.string f.LG,.string f.LH] 121);have Nq:wr.heap.size+1<=(wr.alloc (.cells #[.string f.name,.string f.arg,.string f.ty,.string f.LG,.string f.LH] 121)).heap.size:=Nat.le_of_eq (Ak _ _).symm;have Mu:Lt w (wr.alloc (.cells #[.string f.name,.string f.arg,.string f.ty,.string f.LG,.string f.LH] 121)):=LP.alloc LP.size _;clear f0 f1 f2 f3 f4 cd2 LN LJ LP;generalize wr.alloc (.cells #[.string f.name,.string f.arg,.string f.ty,.string f.LG,.string f.LH] 121)=w1 at*;have c0:w1.cell? ⟨wr.heap.size,0,none⟩=some (.string f.name):=ae HF1.o 0;have hne:=gM L7 HF1.o (by decide);have hgl:∀k,(Value.slice aL i MN).ownBlock=some k->w.heap.size+2<=k:=fun k hk=>(L7.lt k hk).1;go_wp2_with (at_builtin;refine wpList_append_own _ rfl _ _ 50 rfl (w.heap.size+2) 9 i0 _ 1 16 underlying50 hi hz0 hz1 hz2 rfl (by decide) _ _ _ rfl (L7.alloc _) ⟨w1.heap.size,0,none⟩ 1 1 [.string f.name] rfl rfl (cell_one_new _ _ _) (fun u hu=>by simp at hu;subst hu;rfl) (by unfold maxLen;omega) (by omega) (by simp;omega) ?_;intro v' x3 hown' hgrow _;have hF3:=jq hgrow (show(w1.alloc _).heap[wr.heap.size]?=_ from(bp _ _ _ (by omega)).trans HF1.o) hne;have c2:=(ae hF3 2:x3.cell? ⟨wr.heap.size,2,none⟩=some (.string f.ty));have HF3:=aa hF3;clear hF3);have Mh:Below (w.heap.size+2) ((w.alloc (.cells #[.slice aX Lu.length cX,.slice aY Lv.length cY] 62)).alloc (.cells #[.int .i64 d.sort,.string d.name,.slice (some ⟨gF,0,none⟩) d.fields.length cF,.slice aA d.Ly.length cA,.bool d.LC,.slice aT d.Lw.length cT] 96)) x3:=Below.grown (Mi.alloc (by omega) _) hgrow (by simp;omega) hgl;have Mg:x3.ownsRow (w.heap.size+2) 9 1 v' (i+1) (bt ((d.fields.map bj.name).take (i+1))):=by
    rw[Ld,La,HX.o];simpa [bt]using hown'
   have MJ:Lt w x3:=(di w _ _).trans (Mh.mono (by omega));clear hown' hgrow hne hgl HF1 L7 Mi Mu c0;have hsz3:=ag HF3.o;refine(vm f.ty x3 hz4).mono ?_;rintro e w' ⟨rfl,hw'⟩;have hw':=hw'.symm;subst hw';generalize hcty:kB f.ty=cty at*;have HCTY:=aa hcty;clear hcty;go_wp2_with fail;refine(wH cty x3).mono ?_;rintro e w' ⟨rfl,hw'⟩;have hw':=hw'.symm;subst hw';have c3:x3.cell? ⟨wr.heap.size,3,none⟩=some (.string f.LG):=ae HF3.o 3;have cx0:x3.cell? ⟨w.heap.size,0,none⟩=some (.slice aX Lu.length cX):=by rw[Mh.cell (by simp)];exact ae (ig _ _ _) 0
   have cx1:x3.cell? ⟨w.heap.size,1,none⟩=some (.slice aY Lv.length cY):=by rw[Mh.cell (by simp)];exact ae (ig _ _ _) 1
   have hk:=AU aY Lv.length cY _ f.LG Lu x3 (HR.o.below MJ) (by omega);generalize hs1:co cty=s1 at*;generalize hka:mV Lu f.LG=ka at*;have HS1:=aa hs1;have HKA:=aa hka;clear hs1 hka;go_wp2_with fail;refine hk.mono ?_;clear hk;rintro e w4 ⟨rfl,hb4⟩;have NS:=Mh.trans (hb4.mono (by omega));have NO:=MJ.trans (hb4.mono MJ.size);have HF4:=aa ((hb4.block _ (ag HF3.o)).trans HF3.o);have L8:=bZ Mg hb4;have hsz4:=hb4.size;clear c2 c3 cx0 cx1 Mh MJ Mg hb4 HF3;have c4:w4.cell? ⟨wr.heap.size,4,none⟩=some (.string f.LH):=ae HF4.o 4;have cx0:w4.cell? ⟨w.heap.size,0,none⟩=some (.slice aX Lu.length cX):=by rw[NS.cell (by simp)];exact ae (ig _ _ _) 0
   have cx1:w4.cell? ⟨w.heap.size,1,none⟩=some (.slice aY Lv.length cY):=by rw[NS.cell (by simp)];exact ae (ig _ _ _) 1
   have hk:=AU aY Lv.length cY _ f.LH Lu w4 (HR.o.below NO) (by omega);generalize hkb:mV Lu f.LH=kb at*;have HKB:=aa hkb;clear hkb;go_wp2_with fail;refine hk.mono ?_;clear hk;rintro e w5 ⟨rfl,hb5⟩;have NR:=NS.trans (hb5.mono (by omega));have NN:=NO.trans (hb5.mono NO.size);have HF5:=aa ((hb5.block _ (ag HF4.o)).trans HF4.o);have LV:=bZ L8 hb5;have NC:=hb5.size;clear c4 cx0 cx1 NS NO L8 hb5 HF4;have c0:w5.cell? ⟨wr.heap.size,0,none⟩=some (.string f.name):=ae HF5.o 0;have c1:w5.cell? ⟨wr.heap.size,1,none⟩=some (.string f.arg):=ae HF5.o 1;have c2:w5.cell? ⟨wr.heap.size,2,none⟩=some (.string f.ty):=ae HF5.o 2;have cx0:w5.cell? ⟨w.heap.size,0,none⟩=some (.slice aX Lu.length cX):=by rw[NR.cell (by simp)];exact ae (ig _ _ _) 0
   have cx1:w5.cell? ⟨w.heap.size,1,none⟩=some (.slice aY Lv.length cY):=by rw[NR.cell (by simp)];exact ae (ig _ _ _) 1
   have HFR:=aa (show lf Lu (Lv.map ap.name) f=(!rI f.name&&(ka&&(kb&&((s1||decide (¬ah (Lv.map ap.name) cty<0))&&pb f))))from by
    unfold lf;rw[HKA.o,HKB.o,HCTY.o,HS1.o])
   have HAR:=aa (show pb f=!(((f.arg.toList==[105,100])&&(((f.ty[0].toNat:Int)==91)||s1))||((f.arg.toList==[102,105,114,115,116])&&!((f.ty[0].toNat:Int)==91)))from by
    unfold pb;rw[bV,bV,yk _ hz3,HCTY.o,HS1.o];rfl)
   have HDEF:=aa (sq aX Lu.length cX _ cty (Lv.map ap.name) w5 ((HD.o.below NN).names) (by simp;omega));go_upto_region 12 with fail;generalize hkk:ah (Lv.map ap.name) cty=kk at*;have HKK:=aa hkk;clear hkk;generalize hund:rI f.name=ud at*;have HUD:=aa hund;clear hund;go_cut [82] (fun v82 wc=>v82=.bool (ud||(!ka||(!kb||(!s1&&decide (kk<0)))))/\Lt w5 wc)
   case first=>
    by_cases hn2:2<=f.name.size
    ·cases hu:((f.name.extract 0 2).toList==[95,95])
     ·have HU:=aa (show ud=false from by rw[<-HUD.o,<-Ao _ hn2,hu])
      cases ka
      ·go_wp2_with fail
       go_meet;exact⟨by rw[HU.o];rfl,KL _ _⟩
      ·cases kb
       ·go_wp2_with fail
        go_meet;exact⟨by rw[HU.o];rfl,KL _ _⟩
       ·cases s1
        ·go_wp2_with fail
         refine HDEF.o.mono ?_;rintro e w6 ⟨rfl,hb6⟩;go_wp2_with fail;go_meet;exact⟨by rw[HU.o];simp,hb6⟩
        ·go_wp2_with fail
         go_meet;exact⟨by rw[HU.o];rfl,KL _ _⟩
     ·have HU:=aa (show ud=true from by rw[<-HUD.o,<-Ao _ hn2,hu])
      go_wp2_with fail;go_meet;exact⟨by rw[HU.o];rfl,KL _ _⟩
    ·have HU:=aa (show ud=false from by rw[<-HUD.o,Er _ hn2])
     cases ka
     ·go_wp2_with fail
      go_meet;exact⟨by rw[HU.o];rfl,KL _ _⟩
     ·cases kb
      ·go_wp2_with fail
       go_meet;exact⟨by rw[HU.o];rfl,KL _ _⟩
      ·cases s1
       ·go_wp2_with fail
        refine HDEF.o.mono ?_;rintro e w6 ⟨rfl,hb6⟩;go_wp2_with fail;go_meet;exact⟨by rw[HU.o];simp,hb6⟩
       ·go_wp2_with fail
        go_meet;exact⟨by rw[HU.o];rfl,KL _ _⟩
   case rest=>
    obtain⟨rfl,hbc⟩:=hcut;have L9:=NR.trans (hbc.mono (by omega));have L0:=NN.trans (hbc.mono NN.size);have HFc:=aa ((hbc.block _ (ag HF5.o)).trans HF5.o);have Mn:=bZ LV hbc;clear c0 c1 c2 cx0 cx1 NR NN LV HF5 HDEF;have c1:wc.cell? ⟨wr.heap.size,1,none⟩=some (.string f.arg):=ae HFc.o 1;cases hB:(ud||(!ka||(!kb||(!s1&&decide (kk<0)))))
    ·have HFR2:=aa (show lf Lu (Lv.map ap.name) f=pb f from by
      rw[HFR.o];by_cases hn:kk<0
      ·rw[Le hn]at hB
       first|rw[KT (show¬0<=kk by omega)]|rw[KT (show¬¬kk<0 from fun h=>h hn)]
       revert hB;cases ud<;>cases ka<;>cases kb<;>cases s1<;>simp
      ·rw[KT hn]at hB
       first|rw[Le (show 0<=kk by omega)]|rw[Le (show¬kk<0 from hn)]
       revert hB;cases ud<;>cases ka<;>cases kb<;>cases s1<;>simp)
     clear HFR hB;cases hE1:(f.arg.toList==[105,100])
     ·cases hE2:(f.arg.toList==[102,105,114,115,116])
      ·have HT:=aa (show lf Lu (Lv.map ap.name) f=true from by rw[HFR2.o,HAR.o,hE1,hE2];rfl)
       go_wp2_with fail;go_roundg (d.fields.length-(i+1))
       case measure=>omega
       case rel=>exact⟨i+1,by go_num,Ml,KK _,Mn,L9,ou _ _ _ _ Mb.o HX.o HT.o⟩
      ·cases h91:((f.ty[0].toNat:Int)==91)
       ·have HQF:=aa (show q=false from by rw[<-HQ.o];exact tj HX.o (by rw[HFR2.o,HAR.o,hE1,hE2,h91];rfl))
        go_wp2_with fail;go_ret;exact⟨am (by rw[HQF.o]),L0⟩
       ·have HT:=aa (show lf Lu (Lv.map ap.name) f=true from by rw[HFR2.o,HAR.o,hE1,hE2,h91];rfl)
        go_wp2_with fail;go_roundg (d.fields.length-(i+1))
        case measure=>omega
        case rel=>exact⟨i+1,by go_num,Ml,KK _,Mn,L9,ou _ _ _ _ Mb.o HX.o HT.o⟩
     ·have hE2:(f.arg.toList==[102,105,114,115,116])=false:=by
       rw[bV]at hE1⊢;rw[of_decide_eq_true hE1];decide
      cases h91:((f.ty[0].toNat:Int)==91)
      ·cases s1
       ·have HT:=aa (show lf Lu (Lv.map ap.name) f=true from by rw[HFR2.o,HAR.o,hE1,hE2,h91];rfl)
        go_wp2_with fail;go_roundg (d.fields.length-(i+1))
        case measure=>omega
        case rel=>exact⟨i+1,by go_num,Ml,KK _,Mn,L9,ou _ _ _ _ Mb.o HX.o HT.o⟩
       ·have HQF:=aa (show q=false from by rw[<-HQ.o];exact tj HX.o (by rw[HFR2.o,HAR.o,hE1,h91];rfl))
        go_wp2_with fail;go_ret;exact⟨am (by rw[HQF.o]),L0⟩
      ·have HQF:=aa (show q=false from by rw[<-HQ.o];exact tj HX.o (by rw[HFR2.o,HAR.o,hE1,h91];rfl))
       go_wp2_with fail;go_ret;exact⟨am (by rw[HQF.o]),L0⟩
    ·have HQF:=aa (show q=false from by
      rw[<-HQ.o];refine tj HX.o ?_;rw[HFR.o];by_cases hn:kk<0
      ·rw[Le hn]at hB
       first|rw[KT (show¬0<=kk by omega)]|rw[KT (show¬¬kk<0 from fun h=>h hn)]
       revert hB;cases ud<;>cases ka<;>cases kb<;>cases s1<;>simp
      ·rw[KT hn]at hB
       first|rw[Le (show 0<=kk by omega)]|rw[Le (show¬kk<0 from hn)]
       revert hB;cases ud<;>cases ka<;>cases kb<;>cases s1<;>simp)
     go_wp2_with fail;go_ret;exact⟨am (by rw[HQF.o]),L0⟩
  ·have e:i=d.fields.length:=by omega
   subst e;have Me:((d.fields.map bj.name).take d.fields.length)=d.fields.map bj.name:=KW (by simp);rw[Me]at LJ;have hs:cH wr _ (d.fields.map bj.name):=cH.of_own (base:=w.heap.size+2) (by simpa using LJ);have hc:=ux _ (d.fields.map bj.name) wr hs (by simp;omega);have HF:=aa (show d.fields.all (lf Lu (Lv.map ap.name))=true from by have:=Mb.o;rw[List.take_length]at this;exact this);clear Me hs LJ Mb;generalize hone:jA (d.fields.map bj.name)=one at*;have HONE:=aa hone;clear hone;go_wp2_with fail;refine hc.mono ?_;clear hc;rintro e w1 ⟨rfl,hb1⟩;have Mi:=LN.trans (hb1.mono MM);have Mu:=LP.trans (hb1.mono LP.size);have Nq:=hb1.size;clear LN LP hb1 cd2;have cd3:w1.cell? ⟨w.heap.size+1,3,none⟩=some (.slice aA d.Ly.length cA):=by rw[Mi.cell (by simp)];exact ae (eo _ _ _) 3
   have hc:=ux _ d.Ly w1 (Hd.o.a.below Mu) (by omega);generalize htwo:jA d.Ly=two at*;have HTWO:=aa htwo;clear htwo;go_wp2_with fail;refine hc.mono ?_;clear hc;rintro e w2 ⟨rfl,hb2⟩;have Nk:=Mi.trans (hb2.mono (by omega));have MK:=Mu.trans (hb2.mono Mu.size);have hsz2:=hb2.size;clear Mi Mu hb2 cd3;have HDR:=aa (show lI Lu Lv d=((one&&two)&&(d.Ly.all (jB Lv d)&&(rl d.Lw).all (gX (Lu.map aj.name) d.fields)))from by
    unfold lI;rw[HF.o,HONE.o,HTWO.o,Bool.true_and])
   clear HF HONE HTWO;cases one
   ·have HQF:=aa (show q=false from by rw[<-HQ.o,HDR.o];rfl)
    go_wp2_with fail;go_ret;exact⟨am (by rw[HQF.o]),MK⟩
   ·cases two
    ·have HQF:=aa (show q=false from by rw[<-HQ.o,HDR.o];rfl)
     go_wp2_with fail;go_ret;exact⟨am (by rw[HQF.o]),MK⟩
    ·have HDR2:=aa (show q=(d.Ly.all (jB Lv d)&&(rl d.Lw).all (gX (Lu.map aj.name) d.fields))from by rw[<-HQ.o,HDR.o];rfl)
     clear HDR;go_wp2_with fail;go_loopg [15,16,17,18,19,20] d.Ly.length (fun k v15 v16 v17 v18 v19 v20 wr=>∃i:Nat,v15=.int .i64 i/\i<=d.Ly.length/\d.Ly.length-i<=k/\Below (w.heap.size+2) ((w.alloc (.cells #[.slice aX Lu.length cX,.slice aY Lv.length cY] 62)).alloc (.cells #[.int .i64 d.sort,.string d.name,.slice aF d.fields.length cF,.slice aA d.Ly.length cA,.bool d.LC,.slice aT d.Lw.length cT] 96)) wr/\(d.Ly.take i).all (jB Lv d)=true)
     case atStart=>exact⟨0,rfl,KU _,KK _,Nk,by simp⟩
     case round=>
      clear Nk MK;obtain⟨wo,rfl⟩:∃wo:World,wo=wr:=⟨_,rfl⟩;obtain⟨i,rfl,hil,hik,LN,LZ⟩:=hrel;have Mb:=aa LZ;clear LZ;have cx0:wo.cell? ⟨w.heap.size,0,none⟩=some (.slice aX Lu.length cX):=by rw[LN.cell (by simp)];exact ae (ig _ _ _) 0
      have cx1:wo.cell? ⟨w.heap.size,1,none⟩=some (.slice aY Lv.length cY):=by rw[LN.cell (by simp)];exact ae (ig _ _ _) 1
      have cd3:wo.cell? ⟨w.heap.size+1,3,none⟩=some (.slice aA d.Ly.length cA):=by rw[LN.cell (by simp)];exact ae (eo _ _ _) 3
      have LP:Lt w wo:=(di w _ _).trans (LN.mono (by omega));have hszo:w.heap.size+2<=wo.heap.size:=by have:=LN.size;simp at this;omega
      by_cases hlt:i<d.Ly.length
      ·have hx:=KM hlt
       generalize d.Ly[i]=a at*;obtain⟨gA,offA,ha,ca⟩:=(Hd.o.a.below LP).at hx;subst ha;have HX:=aa hx;clear hx;have Ml:i+1<=d.Ly.length:=hlt;have hc:∀W,Lt wo W->Calls prog 74 #[.agg #[.slice aX Lu.length cX,.slice aY Lv.length cY],.string a] W fun e w'=>e=.returned (.int .i64 (ah (Lv.map ap.name) a))/\Lt W w':=fun W hW=>
        sq aX Lu.length cX _ a (Lv.map ap.name) W ((HD.o.below (LP.trans (hW.mono LP.size))).names) (by simp;omega)
       have HC:=aa hc;clear hc;go_upto_region 23 with fail;go_cut [16] (fun v16 wc=>v16=.int .i64 (ah (Lv.map ap.name) a)/\Lt wo wc)
       case first=>
        go_region_with (go_at_call 74;refine(HC.o _ ?_).mono ?_;(first|exact(KL _ _).drew|exact KL _ _);rintro e w' ⟨rfl,hb'⟩);all_goals(try go_wp2_with fail)
        all_goals(go_meet;exact⟨rfl,(KL _ _).drew.trans hb'⟩)
       case rest=>
        obtain⟨rfl,hbc⟩:=hcut;have L9:=LN.trans (hbc.mono hszo);have L0:Lt w wc:=LP.trans (hbc.mono LP.size);have M8:=hbc.size;clear cx0 cx1 cd3 ca LN LP hbc HC;by_cases hneg:ah (Lv.map ap.name) a<0
        ·have HQF:=aa (show q=false from by rw[HDR2.o,lQ _ _ _ _ HX.o (xe hneg),Bool.false_and])
         generalize ah (Lv.map ap.name) a=kk at*;go_wp2_with fail;go_ret;exact⟨am (by rw[HQF.o]),L0⟩
        ·obtain⟨k,t,hk,ht,_,hkl⟩:=iW ap.name Lv a hneg
         have HAB:=aa (vl (d:=d) hk ht);have hokt:=HOKS.o t (KN ht);have hnt:=hokt.nf;have hst:=hokt.sort;rw[hk];have cx1:wc.cell? ⟨w.heap.size,1,none⟩=some (.slice aY Lv.length cY):=by rw[L9.cell (by simp)];exact ae (ig _ _ _) 1
         have cd0:wc.cell? ⟨w.heap.size+1,0,none⟩=some (.int .i64 d.sort):=by rw[L9.cell (by simp)];exact ae (eo _ _ _) 0
         obtain⟨gY,aF',cF',aA',cA',aT',cT',ha,t0,t1,t2,t3,t4,t5,htd⟩:=(HD.o.below L0).at ht;subst ha;have HTD:=aa htd;have HT:=aa ht;clear hk ht hneg htd hokt;go_upto_region 27 with fail;have HB1:=aa (show(wc.alloc (.cells #[.int .i64 t.sort,.string a,.slice aF' t.fields.length cF',.slice aA' t.Ly.length cA',.bool t.LC,.slice aT' t.Lw.length cT'] 96)).heap[wc.heap.size]?=some (.cells #[.int .i64 t.sort,.string a,.slice aF' t.fields.length cF',.slice aA' t.Ly.length cA',.bool t.LC,.slice aT' t.Lw.length cT'] 96 (0,0))from mX _ _);have Mi:=L9.alloc (show w.heap.size+2<=wc.heap.size by omega) (.cells #[.int .i64 t.sort,.string a,.slice aF' t.fields.length cF',.slice aA' t.Ly.length cA',.bool t.LC,.slice aT' t.Lw.length cT'] 96);have Mu:=L0.alloc L0.size (.cells #[.int .i64 t.sort,.string a,.slice aF' t.fields.length cF',.slice aA' t.Ly.length cA',.bool t.LC,.slice aT' t.Lw.length cT'] 96);have Nq:wc.heap.size+1<=(wc.alloc (.cells #[.int .i64 t.sort,.string a,.slice aF' t.fields.length cF',.slice aA' t.Ly.length cA',.bool t.LC,.slice aT' t.Lw.length cT'] 96)).heap.size:=Nat.le_of_eq (Ak _ _).symm;have HTD1:=aa (HTD.o.below ((KL _ _).alloc (KK _) (.cells #[.int .i64 t.sort,.string a,.slice aF' t.fields.length cF',.slice aA' t.Ly.length cA',.bool t.LC,.slice aT' t.Lw.length cT'] 96)));clear t0 t1 t2 t3 t4 t5 cx1 cd0 L9 L0 HTD;generalize wc.alloc (.cells #[.int .i64 t.sort,.string a,.slice aF' t.fields.length cF',.slice aA' t.Ly.length cA',.bool t.LC,.slice aT' t.Lw.length cT'] 96)=w1 at*;have cd0:w1.cell? ⟨w.heap.size+1,0,none⟩=some (.int .i64 d.sort):=by rw[Mi.cell (by simp)];exact ae (eo _ _ _) 0
         have t0:w1.cell? ⟨wc.heap.size,0,none⟩=some (.int .i64 t.sort):=ae HB1.o 0;by_cases hs2:d.sort=2
         ·have e2:((d.sort:Int)==2)=true:=by simp;omega
          by_cases hs0:t.sort=0
          ·have e0:((t.sort:Int)==0)=true:=by simp;omega
           have HOKA:=aa (show jB Lv d a=true from by rw[HAB.o,K9 hs2,Le hs0]);clear hs2 hs0;go_wp2_with fail;go_roundg (d.Ly.length-(i+1))
           case measure=>omega
           case rel=>exact⟨i+1,by go_num,Ml,KK _,Mi,ou _ _ _ _ Mb.o HX.o HOKA.o⟩
          ·have e0:((t.sort:Int)==0)=false:=by simp;omega
           have HQF:=aa (show q=false from by rw[HDR2.o,lQ _ _ _ _ HX.o (show jB Lv d a=false from by rw[HAB.o,K9 hs2,KT hs0]),Bool.false_and]);clear hs2 hs0;go_wp2_with fail;go_ret;exact⟨am (by rw[HQF.o]),Mu⟩
         ·have e2:((d.sort:Int)==2)=false:=by simp;omega
          have HAB2:=aa (show jB Lv d a=(decide (t.sort=1)&&t.fields.all (kT d.fields))from by rw[HAB.o,K8 hs2]);have HE1:=aa (show((t.sort:Int)==1)=decide (t.sort=1)from by rw[Bool.eq_iff_iff];simp;omega);clear hs2 HAB;go_wp2_with fail;go_loopg [18,19,20] t.fields.length (fun kk v18 v19 v20 wr=>∃(ok:Bool) (j:Nat),v18=.bool ok/\v19=.int .i64 j/\j<=t.fields.length/\t.fields.length-j<=kk/\Lt w1 wr/\ok=(decide (t.sort=1)&&(t.fields.take j).all (kT d.fields)))
          case atStart=>exact⟨_,0,rfl,rfl,KU _,KK _,KL _ _,by first|(rw[HE1.o];simp)|simp⟩
          case round=>
           obtain⟨ok,j,rfl,rfl,hjl,hjk,hbr,hokj⟩:=hrel;have HOJ:=aa hokj;clear hokj cd0 t0;have MQ:=Mi.trans (hbr.mono (by omega));have Nb:=Mu.trans (hbr.mono Mu.size);have HBr:=aa ((hbr.block _ (ag HB1.o)).trans HB1.o);have HTDr:=aa (HTD1.o.below hbr);have t2:wr.cell? ⟨wc.heap.size,2,none⟩=some (.slice aF' t.fields.length cF'):=ae HBr.o 2;have MM:=hbr.size;by_cases hltj:j<t.fields.length
           ·cases ok
            ·have HQF:=aa (show q=false from by
              rw[HDR2.o,lQ _ _ _ _ HX.o (show jB Lv d a=false from by
               rw[HAB2.o];have:=HOJ.o;cases hd1:decide (t.sort=1)
               ·rfl
               ·rw[hd1,Bool.true_and]at this
                rw[JP _ _ _ this.symm];rfl),Bool.false_and])
             go_wp2_with fail;go_ret;exact⟨am (by rw[HQF.o]),Nb⟩
            ·have hgx:=KM hltj
             have hltj2:j+1<=t.fields.length:=hltj;generalize t.fields[j]=g at*;obtain⟨gG,ha,g0,g1,g2,g3,g4⟩:=HTDr.o.f.at hgx;subst ha;have HG:=aa hgx;clear hgx;have cd0:wr.cell? ⟨w.heap.size+1,0,none⟩=some (.int .i64 d.sort):=by rw[MQ.cell (by simp)];exact ae (eo _ _ _) 0
             have cd1:wr.cell? ⟨w.heap.size+1,1,none⟩=some (.string d.name):=by rw[MQ.cell (by simp)];exact ae (eo _ _ _) 1
             have cd2:wr.cell? ⟨w.heap.size+1,2,none⟩=some (.slice aF d.fields.length cF):=by rw[MQ.cell (by simp)];exact ae (eo _ _ _) 2
             have cd3:wr.cell? ⟨w.heap.size+1,3,none⟩=some (.slice (some ⟨gA,offA,none⟩) d.Ly.length cA):=by rw[MQ.cell (by simp)];exact ae (eo _ _ _) 3
             have cd4:wr.cell? ⟨w.heap.size+1,4,none⟩=some (.bool d.LC):=by rw[MQ.cell (by simp)];exact ae (eo _ _ _) 4
             have cd5:wr.cell? ⟨w.heap.size+1,5,none⟩=some (.slice aT d.Lw.length cT):=by rw[MQ.cell (by simp)];exact ae (eo _ _ _) 5
             have hc:∀W,Lt wr W->Calls prog 49 #[.agg #[.int .i64 d.sort,.string d.name,.slice aF d.fields.length cF,.slice (some ⟨gA,offA,none⟩) d.Ly.length cA,.bool d.LC,.slice aT d.Lw.length cT],.string g.name] W fun e w'=>e=.returned (.int .i64 (ah (d.fields.map bj.name) g.name))/\Lt W w':=fun W hW=>
              rt d.sort d.name _ _ _ _ _ _ d.LC _ g.name (d.fields.map bj.name) W ((Hd.o.f.below (Nb.trans (hW.mono Nb.size))).names) (by simp;omega)
             have HC:=aa hc;clear hc;go_upto_region 34 with fail;obtain⟨wq,hwq⟩:∃wq:World,wq=wc:=⟨_,rfl⟩;subst hwq;go_cut [20] (fun v20 wc=>v20=.int .i64 (ah (d.fields.map bj.name) g.name)/\Lt wr wc)
             case first=>
              go_region_with (go_at_call 49;refine(HC.o _ ?_).mono ?_;(first|exact(KL _ _).drew|exact KL _ _);rintro e w' ⟨rfl,hb'⟩);all_goals(try go_wp2_with fail)
              all_goals(go_meet;exact⟨rfl,(KL _ _).drew.trans hb'⟩)
             case rest=>
              obtain⟨rfl,hbc⟩:=hcut;have L9:=MQ.trans (hbc.mono (by omega));have L0:Lt w wc:=Nb.trans (hbc.mono Nb.size);have hbr1:=hbr.trans (hbc.mono hbr.size);have HBc:=aa ((hbc.block _ (ag HBr.o)).trans HBr.o);obtain⟨gG',ha,k0,k1,k2,k3,k4⟩:=(HTDr.o.below hbc).f.at HG.o;cases ha;have HO1:=aa (show decide (t.sort=1)=true/\(t.fields.take j).all (kT d.fields)=true from by
               have:=HOJ.o.symm;rw[Li]at this;exact this)
              clear cd0 cd1 cd2 cd3 cd4 cd5 g0 g1 g2 g3 g4 t2 HC MQ Nb hbr hbc HBr HTDr HOJ;have t2:wc.cell? ⟨wq.heap.size,2,none⟩=some (.slice (some ⟨gG,0,none⟩) t.fields.length cF'):=ae HBc.o 2;have cd2:wc.cell? ⟨w.heap.size+1,2,none⟩=some (.slice aF d.fields.length cF):=by rw[L9.cell (by simp)];exact ae (eo _ _ _) 2
              by_cases hneg:ah (d.fields.map bj.name) g.name<0
              ·have HS:=aa (Dj hneg)
               generalize ah (d.fields.map bj.name) g.name=kk2 at*;have hge:decide ((0:Int)<=kk2)=false:=KT (by omega);go_wp2_with fail;go_quiet (fail);go_wp2_with fail;go_roundg (t.fields.length-(j+1))
               case measure=>omega
               case rel=>exact⟨false,j+1,rfl,by go_num,hltj2,KK _,below_drewN hbr1 _,by rw[Ld,HG.o,List.all_append,HO1.o.1,HO1.o.2];simp[HS.o]⟩
              ·obtain⟨n,f,hn,hf,hfn,hnl⟩:=iW bj.name d.fields g.name hneg
               have HS:=aa (G0 hn hf);obtain⟨gD,ha,f0,f1,f2,f3,f4⟩:=(Hd.o.f.below L0).at hf;subst ha;rw[hn];clear hn hf hneg;have hge:(0:Int)<=(n:Int):=by omega
               go_wp2_with fail;go_quiet (fail);go_wp2_with fail;go_roundg (t.fields.length-(j+1))
               case measure=>omega
               case rel=>exact⟨_,j+1,rfl,by go_num,hltj2,KK _,below_drewN hbr1 _,by rw[Ld,HG.o,List.all_append,HO1.o.1,HO1.o.2];simp[HS.o,IA,hfn]⟩
           ·have HQT:=aa (show ok=jB Lv d a from by
             have:=HOJ.o;rw[KW (by omega)]at this;rw[HAB2.o];exact this)
            cases ok
            ·have HQF:=aa (show q=false from by rw[HDR2.o,lQ _ _ _ _ HX.o HQT.o.symm,Bool.false_and])
             go_wp2_with fail;go_ret;exact⟨am (by rw[HQF.o]),Nb⟩
            ·go_wp2_with fail
             go_roundg (d.Ly.length-(i+1))
             case measure=>omega
             case rel=>exact⟨i+1,by go_num,Ml,KK _,MQ,ou _ _ _ _ Mb.o HX.o HQT.o.symm⟩
      ·have e:i=d.Ly.length:=by omega
       subst e;have HT:=aa (show q=(rl d.Lw).all (gX (Lu.map aj.name) d.fields)from by
        have:=Mb.o;rw[List.take_length]at this;rw[HDR2.o,this,Bool.true_and])
       have hcr:=Ex aY aA Lv.length cY d.Ly.length cA d.sort d.name d.LC _ _ _ Lu d.fields d.Lw wo (HR.o.below LP) (Hd.o.f.below LP) (Hd.o.r.below LP) HOK.o.tys hlR hnf HOK.o.nr HOK.o.tok HOK.o.rul;have cd0:wo.cell? ⟨w.heap.size+1,0,none⟩=some (.int .i64 d.sort):=by rw[LN.cell (by simp)];exact ae (eo _ _ _) 0
       have cd1:wo.cell? ⟨w.heap.size+1,1,none⟩=some (.string d.name):=by rw[LN.cell (by simp)];exact ae (eo _ _ _) 1
       have cd2:wo.cell? ⟨w.heap.size+1,2,none⟩=some (.slice aF d.fields.length cF):=by rw[LN.cell (by simp)];exact ae (eo _ _ _) 2
       have cd4:wo.cell? ⟨w.heap.size+1,4,none⟩=some (.bool d.LC):=by rw[LN.cell (by simp)];exact ae (eo _ _ _) 4
       have cd5:wo.cell? ⟨w.heap.size+1,5,none⟩=some (.slice aT d.Lw.length cT):=by rw[LN.cell (by simp)];exact ae (eo _ _ _) 5
       generalize (rl d.Lw).all (gX (Lu.map aj.name) d.fields)=res at*;go_wp2_with fail;refine hcr.mono ?_;clear hcr;rintro e w3 ⟨rfl,hb3⟩;go_wp2_with fail;go_ret;exact⟨am (by rw[HT.o]),LP.trans (hb3.mono LP.size)⟩
def bQ:Ls:=⟨#[81,117,101,114,121]⟩
def pK(Lv:List ap):Bool:=if ah (Lv.map ap.name) bQ<0 then false else match Lv[(ah (Lv.map ap.name) bQ).toNat]? with
 |some t=>decide (t.sort=0)&&!t.LC
 |none=>false
def mD(Lu:List aj)(Lv:List ap)(d:ap):Bool:=!co d.name&&lI Lu Lv d
def kz(Lu:List aj)(Lv:List ap):Bool:=lE Lu&&(pK Lv&&(Lv.all (mD Lu Lv)&&jA (Lv.map ap.name)))
theorem BC{Lv:List ap}{t:ap}{k:Nat}(h:ah (Lv.map ap.name) bQ=k)(ht:Lv[k]?=some t):pK Lv=(decide (t.sort=0)&&!t.LC):=by
 unfold pK;rw[K8 (by omega),h,Lk,ht]
theorem AF(vX vY:Value)(Lu:List aj)(Lv:List ap)(w:World)
 (hR:gZ w vX Lu) (hD:i5 w vY Lv) (Nr:∀x∈Lv,mx x) (hlR:Lu.length<=801) (hlD:Lv.length<=801) (hU:(fQ Lu).length<=700000):
 Calls prog 40 #[.agg #[vX,vY]] w fun e w'=>e=.returned (.bool (kz Lu Lv))/\Lt w w':=by
 have HR:=aa hR;have HD:=aa hD;have HOKS:=aa Nr;obtain⟨aX,cX,rfl,_⟩:=hR;obtain⟨aY,cY,rfl,_⟩:=hD;clear Nr;obtain⟨i0,hi,hz0,hz1,hz2⟩:=info_parts info9;have HRR:=aa (fun W (hW:Lt w W)=>Kl aY Lv.length cY _ Lu W (HR.o.below hW) hlR hU);have HDF:=aa (fun W (hW:Lt w W)=>sq aX Lu.length cX _ bQ (Lv.map ap.name) W ((HD.o.below hW).names) (by simp;omega));generalize hq:kz Lu Lv=q;have HQ:=aa hq;clear hq;generalize hrr:lE Lu=rr at*;have HRB:=aa hrr;clear hrr;go_enter func40,ntmps40;go_wp2_with fail;refine(HRR.o _ ((KL _ _).alloc (KK _) _)).mono ?_;rintro e w1 ⟨rfl,hb1⟩;have Mi:Below (w.heap.size+1) (w.alloc (.cells #[.slice aX Lu.length cX,.slice aY Lv.length cY] 62)) w1:=hb1.mono (by simp);have Mu:Lt w w1:=((KL _ _).alloc (KK _) _).trans (Mi.mono (by omega));have Nq:w.heap.size+1<=w1.heap.size:=by have:=Mi.size;simp at this;omega
 clear hb1;have cx0:w1.cell? ⟨w.heap.size,0,none⟩=some (.slice aX Lu.length cX):=by rw[Mi.cell (by simp)];simp
 have cx1:w1.cell? ⟨w.heap.size,1,none⟩=some (.slice aY Lv.length cY):=by rw[Mi.cell (by simp)];simp
 go_wp2_with fail;refine(HDF.o _ Mu).mono ?_;rintro e w2 ⟨rfl,hb2⟩;have Nk:=Mi.trans (hb2.mono Nq);have MK:=Mu.trans (hb2.mono Mu.size);have hsz2:=hb2.size;clear hb2 cx0 cx1 Mi Mu;have cx1:w2.cell? ⟨w.heap.size,1,none⟩=some (.slice aY Lv.length cY):=by rw[Nk.cell (by simp)];simp
 cases rr
 ·have HQF:=aa (show q=false from by rw[<-HQ.o];unfold kz;rw[HRB.o];rfl)
  generalize ah (Lv.map ap.name) bQ=kk at*;go_wp2_with fail;go_ret;exact⟨am (by rw[HQF.o]),MK⟩
 ·by_cases hneg:ah (Lv.map ap.name) bQ<0
  ·have HQF:=aa (show q=false from by rw[<-HQ.o];unfold kz pK;rw[K9 hneg,Bool.false_and,Bool.and_false])
   generalize ah (Lv.map ap.name) bQ=kk at*;go_wp2_with fail;go_ret;exact⟨am (by rw[HQF.o]),MK⟩
  ·obtain⟨k,t,hk,ht,_,hkl⟩:=iW ap.name Lv bQ hneg
   have HQR:=aa (BC hk ht);rw[hk];obtain⟨gY,aF',cF',aA',cA',aT',cT',ha,t0,t1,t2,t3,t4,t5,htd⟩:=(HD.o.below MK).at ht;subst ha;clear hk ht hneg htd t1 t2 t3 t5;have hk0:decide ((k:Int)<0)=false:=KT (by omega);by_cases hs0:t.sort=0
   ·have e0:((t.sort:Int)!=0)=false:=by simp;omega
    cases hru:t.LC
    ·rw[hru]at t4
     have HQ2:=aa (show q=(Lv.all (mD Lu Lv)&&jA (Lv.map ap.name))from by
      rw[<-HQ.o];unfold kz;rw[HRB.o,HQR.o,hru,Le hs0];rfl)
     clear hs0 hru HQR;go_wp2_with fail;go_loopg [3,5,6,7] Lv.length (fun k v3 v5 v6 v7 wr=>∃i:Nat,v6=.int .i64 i/\i<=Lv.length/\Lv.length-i<=k/\wr.ownsRow (w.heap.size+1) 9 1 v5 i (bt ((Lv.map ap.name).take i))/\Below (w.heap.size+1) (w.alloc (.cells #[.slice aX Lu.length cX,.slice (some ⟨gY,0,none⟩) Lv.length cY] 62)) wr/\(Lv.take i).all (mD Lu Lv)=true)
     case atStart=>exact⟨0,rfl,KU _,KK _,K7 _ _ _ _,Nk,by simp⟩
     case round=>
      clear Nk MK cx1 t0 t4 e0 hk0;obtain⟨i,rfl,hil,hik,LJ,LN,LZ⟩:=hrel;have Mb:=aa LZ;clear LZ;obtain⟨aL,MN,hvL⟩:=bc LJ;subst hvL;have cx0:wr.cell? ⟨w.heap.size,0,none⟩=some (.slice aX Lu.length cX):=by rw[LN.cell (by simp)];simp
      have cx1:wr.cell? ⟨w.heap.size,1,none⟩=some (.slice (some ⟨gY,0,none⟩) Lv.length cY):=by rw[LN.cell (by simp)];simp
      have LP:Lt w wr:=((KL _ _).alloc (KK _) _).trans (LN.mono (by omega));have MM:w.heap.size+1<=wr.heap.size:=by have:=LN.size;simp at this;omega
      by_cases hlt:i<Lv.length
      ·have hx:=KM hlt
       generalize Lv[i]=d at*;obtain⟨gY',aF,cF,aA,cA,aT,cT,ha,d0,d1,d2,d3,d4,d5,hdd⟩:=(HD.o.below LP).at hx;cases ha;have Ml:i+1<=Lv.length:=hlt;have HX:=aa hx;have HDD:=aa hdd;have HODD:=aa (HOKS.o d (KN hx));clear hx hdd;have hsc:=wH d.name wr;have HONE:=aa (show mD Lu Lv d=(!co d.name&&lI Lu Lv d)from rfl);have hc:∀W,Lt wr W->Calls prog 76 #[.agg #[.slice aX Lu.length cX,.slice (some ⟨gY,0,none⟩) Lv.length cY],.agg #[.int .i64 d.sort,.string d.name,.slice aF d.fields.length cF,.slice aA d.Ly.length cA,.bool d.LC,.slice aT d.Lw.length cT]] W fun e w'=>e=.returned (.bool (lI Lu Lv d))/\Lt W w':=fun W hW=>
        Jv _ _ _ _ _ Lu Lv d W (HR.o.below (LP.trans (hW.mono LP.size))) (HD.o.below (LP.trans (hW.mono LP.size))) (HDD.o.below hW) HODD.o HOKS.o hlR hlD
       have HC:=aa hc;clear hc;generalize co d.name=sb at*;generalize lI Lu Lv d=db at*;go_wp2_with fail;refine hsc.mono ?_;clear hsc;rintro e w' ⟨rfl,hw'⟩;have hw':=hw'.symm;subst hw';go_upto_region 10 with fail;go_cut [3] (fun v3 wc=>v3=.bool db/\Lt wr wc)
       case first=>
        go_region_with (go_at_call 76;refine(HC.o _ ?_).mono ?_;(first|exact(KL _ _).drew|exact KL _ _);rintro e w' ⟨rfl,hb'⟩);all_goals(try go_wp2_with fail)
        all_goals(go_meet;exact⟨rfl,(KL _ _).drew.trans hb'⟩)
       case rest=>
        obtain⟨rfl,hbc⟩:=hcut;have L9:=LN.trans (hbc.mono MM);have L0:Lt w wc:=LP.trans (hbc.mono LP.size);have Mn:=bZ LJ hbc;have M8:=hbc.size;clear cx0 cx1 d0 d1 d2 d3 d4 d5 HC LN LP LJ hbc HDD;have cx1:wc.cell? ⟨w.heap.size,1,none⟩=some (.slice (some ⟨gY,0,none⟩) Lv.length cY):=by rw[L9.cell (by simp)];simp
        obtain⟨gY',aF2,cF2,aA2,cA2,aT2,cT2,ha,_,d1,_⟩:=(HD.o.below L0).at HX.o;cases ha;cases sb
        ·cases db
         ·have HQF:=aa (show q=false from by rw[HQ2.o,lQ _ _ _ _ HX.o HONE.o,Bool.false_and])
          go_wp2_with fail;go_ret;exact⟨am (by rw[HQF.o]),L0⟩
         ·have hgl:∀k,(Value.slice aL i MN).ownBlock=some k->w.heap.size+1<=k:=fun k hk=>(Mn.lt k hk).1
          go_wp2_with (at_builtin;refine wpList_append_own _ rfl _ _ 50 rfl (w.heap.size+1) 9 i0 _ 1 16 underlying50 hi hz0 hz1 hz2 rfl (by decide) _ _ _ rfl (Mn.alloc _) ⟨wc.heap.size,0,none⟩ 1 1 [.string d.name] rfl rfl (cell_one_new _ _ _) (fun u hu=>by simp at hu;subst hu;rfl) (by unfold maxLen;omega) (by omega) (by simp;omega) ?_;intro v' x3 hown' hgrow _);have Mh:Below (w.heap.size+1) (w.alloc (.cells #[.slice aX Lu.length cX,.slice (some ⟨gY,0,none⟩) Lv.length cY] 62)) x3:=Below.grown (L9.alloc (by omega) _) hgrow (by simp;omega) hgl;have Mg:x3.ownsRow (w.heap.size+1) 9 1 v' (i+1) (bt ((Lv.map ap.name).take (i+1))):=by
           rw[Ld,La,HX.o];simpa [bt]using hown'
          go_roundg (Lv.length-(i+1))
          case measure=>omega
          case rel=>exact⟨i+1,by go_num,Ml,KK _,Mg,Mh,ou _ _ _ _ Mb.o HX.o HONE.o⟩
        ·have HQF:=aa (show q=false from by rw[HQ2.o,lQ _ _ _ _ HX.o HONE.o,Bool.false_and])
         go_wp2_with fail;go_ret;exact⟨am (by rw[HQF.o]),L0⟩
      ·have e:i=Lv.length:=by omega
       subst e;have Me:((Lv.map ap.name).take Lv.length)=Lv.map ap.name:=KW (by simp);rw[Me]at LJ;have hs:cH wr _ (Lv.map ap.name):=cH.of_own (base:=w.heap.size+1) (by simpa using LJ);have hc:=ux _ (Lv.map ap.name) wr hs (by simp;omega);have HT:=aa (show q=jA (Lv.map ap.name)from by
        have:=Mb.o;rw[List.take_length]at this;rw[HQ2.o,this,Bool.true_and])
       clear Me;go_wp2_with fail;refine hc.mono ?_;clear hc;rintro e w3 ⟨rfl,hb3⟩;go_wp2_with fail;go_ret;exact⟨am (by rw[HT.o]),LP.trans (hb3.mono LP.size)⟩
    ·rw[hru]at t4
     have HQF:=aa (show q=false from by rw[<-HQ.o];unfold kz;rw[HQR.o,hru];simp);clear hs0 hru HQR;go_wp2_with fail;go_ret;exact⟨am (by rw[HQF.o]),MK⟩
   ·have e0:((t.sort:Int)!=0)=true:=by simp;omega
    have HQF:=aa (show q=false from by rw[<-HQ.o];unfold kz;rw[HQR.o,KT hs0];simp);clear hs0 HQR;go_wp2_with fail;go_ret;exact⟨am (by rw[HQF.o]),MK⟩
end Go.Proofs.YtgbloieahmkcjaaGreat
