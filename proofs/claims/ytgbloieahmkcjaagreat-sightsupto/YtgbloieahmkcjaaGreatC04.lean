import Derived.Test.YtgbloieahmkcjaaGreatC03
import Derived.Test.YtgbloieahmkcjaaGreatC02
import Derived.Lib.Strings
import Derived.Lib.Walk
import Derived.Lib.BufferWrite
import Derived.Lib.UnsafeStr
import Derived.Lib.Hide
import Derived.Laws.MakeOwn
namespace Go.Proofs.YtgbloieahmkcjaaGreat
set_option maxHeartbeats 20000000
set_option maxRecDepth 100000
open Go.RowKit Tryz
theorem cinfo5:(prog.info? 5).map (fun i=>(i.zero,i.size,i.bytes))=some (some (.int .u8 0),1,1):=by kernel_rfl
theorem IF(s:Ls)(w:World)(hs:s.size<=2000000):
 Calls prog 181 #[.string s] w fun e w'=>e=.returned (.string s)/\Lt w w':=by
 by_cases h0:s.size=0
 ·have he:s=⟨#[]⟩:=by
   apply ByteArray.ext;exact Array.eq_empty_of_size_eq_zero h0
  subst he;go_enter func181,ntmps181
  go_wp2
  go_ret;exact⟨rfl,KL _ _⟩
 ·obtain⟨i0,hi,hz0,hz1,hz2⟩:=info_parts cinfo5
  have hinfo:(prog.info? 5).map (·.size)=some 1:=by rw[hi];simp[hz1]
  have hco:prog.cellsOf 5=1:=by simp[Program.cellsOf,hi,hz1]
  obtain⟨M,hM⟩:∃M,M=madeCells (Value.int .u8 0).cells (((s.size:Nat):Int).toNat*i0.size):=⟨_,rfl⟩;have hMs:M.size=s.size:=by rw[hM,size_madeCells,hz1];simp
  have hmk:∀W:World,(Instr.makeSlice 81 (.int .i64 (s.size:Int)) (.int .i64 (s.size:Int))).run prog W=.ok (.slice (some ⟨W.heap.size,0,none⟩) s.size s.size) (W.alloc (.cells M 5)):=fun W=>by
   have h:=run_make (P:=prog) W 81 5 i0 (.int .u8 0) underlying81 hi hz0 .i64 .i64 (s.size:Int) (s.size:Int) (by omega) (by omega) (by rw[hz2];omega) (by omega);rw[<-hM]at h;simpa using h
  clear hM;have hcp:=Lib.run_copy_row_string (P:=prog) (w.alloc (.cells M 5)) 81 9 3 5 w.heap.size 0 s.size s.size s M 5 underlying81 hinfo (KS w _) (KK _) (by omega);obtain⟨Y,hY⟩:∃Y,Y=(M.toList.take 0++Lib.byteCells s.data.toList++M.toList.drop (0+s.size)).toArray:=⟨_,rfl⟩;rw[<-hY]at hcp;have hYl:Y.toList=Lib.byteCells s.data.toList:=by
   rw[hY,List.toList_toArray,List.take_zero,List.nil_append,Lp (by rw[Array.length_toList];omega),List.append_nil]
  have hYs:Y.size=s.size:=by rw[<-Array.length_toList,hYl,Lib.byteCells_length,<-Lib.size_eq]
  have hgY:((w.alloc (.cells M 5)).setRow w.heap.size Y).heap[w.heap.size]?=some (.cells Y 5 (0,0)):=setRow_heap _ _ M _ 5 (0,0) (KS w _);have hne:s.data.toList≠[]:=fun e=>h0 (by rw[Lib.size_eq,e];rfl);have hUS:=Lib.run_unsafeString_row (P:=prog) ((w.alloc (.cells M 5)).setRow w.heap.size Y) 287 3 9 5 underlying287 hco w.heap.size Y.size (by unfold World.shape?;rw[hgY]) s.data.toList hne (by rw[<-Lib.size_eq];omega) (by rw[<-Lib.size_eq];omega)
   (fun j x hx=>Lib.cells_of_row hgY Y.size j _ (by rw[KW (by rw[Array.length_toList];exact KK _),hYl];simp[Lib.byteCells,hx]))
  rw[<-Lib.size_eq]at hUS;clear hY;go_enter func181,ntmps181
  go_wp2
  go_ret;have hb1:Lt w (w.alloc (.cells M 5)):=(KL _ w).alloc (KK _) _;have hb2:Below w.heap.size (w.alloc (.cells M 5)) ((w.alloc (.cells M 5)).setRow w.heap.size Y):=⟨rfl,rfl,rfl,by simp,fun k hk=>setRow_other _ _ _ _ (by omega)⟩;exact⟨rfl,Lib.below_freeze (hb1.trans hb2) (p:=⟨w.heap.size,0,none⟩) (KK _) _⟩
theorem uM(s:Ls)(w:World)(hs:s.size<=2000000):
 Calls prog 148 #[.string s] w fun e w'=>e=.returned (.string s)/\Lt w w':=by
 have hc:=IF s w hs;go_enter func148,ntmps148;go_wp2_with fail;refine hc.mono ?_;rintro e w1 ⟨rfl,hb1⟩;go_wp2_with fail;go_ret;exact⟨rfl,hb1⟩
def fE:Option (Tk×Nat)->Value
 |none=>.tuple #[.agg #[.int .i64 0,.string ⟨#[]⟩,.int .i64 0],.int .i64 0]
 |some (t,k)=>.tuple #[.agg #[.int .i64 t.k,.string t.s,.int .i64 t.n],.int .i64 k]
theorem tN(s:Ls)(x:Value)(w:World)(h:0<s.size)(hs:s.size<=100000)(hn:bF (ch s.data.toList)=x):
 Calls prog 159 #[.string s] w fun e w'=>e=.returned x/\Lt w w':=by
 subst hn;exact Gz s w h hs
theorem xN(s:Ls)(x:Value)(w:World)(h:0<s.size)(hs:s.size<=100000)(hn:eJ (cj (s.data.toList.drop 1) [] 1)=x):
 Calls prog 162 #[.string s] w fun e w'=>e=.returned x/\Lt w w':=by
 subst hn;exact Em s w h hs
theorem u7(c:UInt8):aw fK c=(aw bu c||decide (c=45)):=by
 have h:∀i:Fin 256,aw fK (UInt8.ofFin i)=(aw bu (UInt8.ofFin i)||decide (UInt8.ofFin i=45)):=by decide+kernel
 exact h c.toFin
theorem yR(c:UInt8)(h:aw fK c=true):aw dm c=false:=by
 have k:∀i:Fin 256,aw fK (UInt8.ofFin i)=true->aw dm (UInt8.ofFin i)=false:=by decide+kernel
 exact k c.toFin h
theorem wJ:∀(l:List UInt8) (c:UInt8) (n:Nat),kH l c n=if Lib.indexByte l c= -1 then none else some (n+(Lib.indexByte l c).toNat)
 |[],_,_=>rfl
 |d::l,c,n=>by
  by_cases h:d=c
  ·subst h;simp[kH,Lib.indexByte]
  ·have:=Lib.indexByte_ge l c
   rw[kH,K8 h,wJ l c (n+1)];have e:Lib.indexByte (d::l) c=if Lib.indexByte l c== -1 then -1 else Lib.indexByte l c+1:=by
    rw[Lib.indexByte,K8 (by simpa using h)]
   rw[e];by_cases h2:Lib.indexByte l c= -1
   ·simp[h2]
   ·have h3:(Lib.indexByte l c== -1)=false:=by simpa using h2
    rw[K8 h2,h3,K8 (by simp;omega)];congr 1;simp;omega
def pm(s:Ls):Bool:=decide (s.data.toList.take 3=[46,46,46])
theorem wG(s:Ls)(w:World)(hs:s.size<=100000):
 Calls prog 163 #[.string s,.string ⟨#[46,46,46]⟩] w fun e w'=>e=.returned (.bool (pm s))/\w'=w:=by
 by_cases hd3:3<=s.size
 ·have h3:3<=(s.size:Int):=by omega
  have ht:=ve s 0;rw[Nat.zero_add]at ht;have HT:=aa (show((s.extract 0 3).toList==[46,46,46])=pm s from ht);clear ht;cases hdd:((s.extract 0 3).toList==[46,46,46])
  ·go_enter func163,ntmps163
   go_wp2
   go_ret;exact⟨am (by rw[<-HT.o,hdd]),rfl⟩
  ·go_enter func163,ntmps163
   go_wp2
   go_ret;exact⟨am (by rw[<-HT.o,hdd]),rfl⟩
 ·have h3:¬3<=(s.size:Int):=by omega
  have HT:=aa (show pm s=false from by unfold pm;rw[decide_eq_false_iff_not];intro e;have:=congrArg List.length e;simp at this;have h9:s.data.size=s.size:=rfl;omega);go_enter func163,ntmps163
  go_wp2
  go_ret;exact⟨am (by rw[HT.o]),rfl⟩
theorem yj(s:Ls):s.data.toList.drop 0=s.data.toList:=rfl
theorem za:∀(l:List UInt8) (c:UInt8),Lib.indexByte l c<l.length
 |[],_=>by simp[Lib.indexByte]
 |d::l,c=>by
  have:=za l c;have:=Lib.indexByte_ge l c;unfold Lib.indexByte;split
  ·simp only[Lm];omega
  split<;>(simp only[Lm];omega)
theorem Ki(s:Ls)(w:World)(h:0<s.size)(hs:s.size<=100000):
 Calls prog 124 #[.string s] w fun e w'=>e=.returned (fE (cG s.data.toList))/\Lt w w':=by
 generalize hq:fE (cG s.data.toList)=q;have HQ:=aa hq;clear hq;cases hdg:aw bu s[0]
 ·cases h45:((s[0].toNat:Int)==45)
  ·have hdmf:=aa (show aw fK s[0]=false from by rw[u7,hdg];simpa [pS]using h45)
   have hwc:=sS s[0];rw[hdg,Bool.false_or]at hwc;cases hlet:aw dm s[0]
   ·rw[hlet]at hwc
    cases h34:((s[0].toNat:Int)==34)
    ·have N34:=aa (show¬s[0]=34 from by intro e;rw[e]at h34;simp at h34)
     cases hdd:pm s
     ·have ND2:=aa hdd
      have ND:=aa (show¬(s.data.toList.drop 0).take 3=[46,46,46]from by simpa [pm]using hdd);clear hdd;have HX:=aa (xa s 0 h hlet hdmf.o N34.o ND.o);have hge:=Lib.indexByte_ge dB.data.toList s[0];by_cases hix:Lib.indexByte dB.data.toList s[0]= -1
      ·have HX2:=aa (show cG s.data.toList=none from by have:=HX.o;rw[yj]at this;rw[this,wJ,K9 hix];rfl)
       have HI:=aa hix;clear hix hge;go_enter func124,ntmps124;go_wp2_with fail;refine(fC _ _).mono ?_;rintro e w' ⟨rfl,rfl⟩;go_wp2_with fail;refine(ob _ _).mono ?_;rintro e w' ⟨rfl,rfl⟩;go_wp2_with fail;refine(wG s _ hs).mono ?_;rw[ND2.o];rintro e w' ⟨rfl,rfl⟩;go_wp2_with fail;refine(yM dB s[0] _).mono ?_;rw[HI.o];rintro e w' ⟨rfl,rfl⟩;go_wp2_with fail;refine bodyPost_ret (v:=fE (none)) (by simp[results,results124,go_sem,fE]) rfl ⟨by rw[<-HQ.o,HX2.o],(KL _ _).alloc (KK _) _⟩
      ·obtain⟨i,hi⟩:∃i:Nat,Lib.indexByte dB.data.toList s[0]=i:=⟨(Lib.indexByte dB.data.toList s[0]).toNat,by omega⟩
       have HX2:=aa (show cG s.data.toList=some (⟨5+i,⟨#[]⟩,0⟩,1)from by have:=HX.o;rw[yj]at this;rw[this,wJ,K8 hix,hi];rfl);have hlt:=za dB.data.toList s[0];rw[hi]at hlt;have Ml:(i:Int)<13:=hlt;have HI:=aa hi;clear hix hge hi hlt;go_enter func124,ntmps124;go_wp2_with fail;refine(fC _ _).mono ?_;rintro e w' ⟨rfl,rfl⟩;go_wp2_with fail;refine(ob _ _).mono ?_;rintro e w' ⟨rfl,rfl⟩;go_wp2_with fail;refine(wG s _ hs).mono ?_;rw[ND2.o];rintro e w' ⟨rfl,rfl⟩;go_wp2_with fail;refine(yM dB s[0] _).mono ?_;rw[HI.o];rintro e w' ⟨rfl,rfl⟩;go_wp2_with fail;refine bodyPost_ret (v:=fE (some (⟨5+i,⟨#[]⟩,0⟩,1))) (by simp[results,results124,go_sem,fE]) rfl ⟨by rw[<-HQ.o,HX2.o],(KL _ _).alloc (KK _) _⟩
     ·have ND2:=aa hdd
      have HX:=aa (show cG s.data.toList=some (⟨4,⟨#[]⟩,0⟩,3)from CC s 0 h hlet hdmf.o N34.o (by simpa [pm]using hdd));clear hdd;go_enter func124,ntmps124;go_wp2_with fail;refine(fC _ _).mono ?_;rintro e w' ⟨rfl,rfl⟩;go_wp2_with fail;refine(ob _ _).mono ?_;rintro e w' ⟨rfl,rfl⟩;go_wp2_with fail;refine(wG s _ hs).mono ?_;rw[ND2.o];rintro e w' ⟨rfl,rfl⟩;go_wp2_with fail;refine bodyPost_ret (v:=fE (some (⟨4,⟨#[]⟩,0⟩,3))) (by simp[results,results124,go_sem,fE]) rfl ⟨by rw[<-HQ.o,HX.o],(KL _ _).alloc (KK _) _⟩
    ·have HX:=aa (show cG s.data.toList=(cj (s.data.toList.drop 1) [] 1).map fun x=>(⟨3,aE x.1,0⟩,x.2)from Ci s 0 h hlet hdmf.o (fp (by simpa using h34)))
     cases hn:cj (s.data.toList.drop 1) [] 1 with
     |none=>
      have HN0:=aa (show eJ (cj (s.data.toList.drop 1) [] 1)=.tuple #[.agg #[.int .i64 0,.string ⟨#[]⟩,.int .i64 0],.int .i64 0]from by rw[hn];rfl);have HX2:=aa (show cG s.data.toList=none from by rw[HX.o,hn];rfl);clear hn;go_enter func124,ntmps124;go_wp2_with fail;refine(fC _ _).mono ?_;rintro e w' ⟨rfl,rfl⟩;go_wp2_with fail;refine(ob _ _).mono ?_;rintro e w' ⟨rfl,rfl⟩;go_wp2_with fail;refine(xN s _ _ h hs HN0.o).mono ?_;rintro e w1 ⟨rfl,hb1⟩;have hcx:∀j,w1.cell? ⟨w.heap.size,j,none⟩=(w.alloc cu).cell? ⟨w.heap.size,j,none⟩:=fun j=>hb1.cell (by simp);have hf0:∀j,w1.frozen? ⟨w.heap.size,j,none⟩=false:=fun j=>by rw[hb1.frozen (by simp)];exact jg w _ j
      have hc0:w1.cell? ⟨w.heap.size,0,none⟩=some (.int .i64 0):=by rw[hcx];simp[cu]
      have hc1:w1.cell? ⟨w.heap.size,1,none⟩=some (.string ⟨#[]⟩):=by rw[hcx];simp[cu]
      have hc2:w1.cell? ⟨w.heap.size,2,none⟩=some (.int .i64 0):=by rw[hcx];simp[cu]
      clear hcx;have LP:Lt w w1:=((KL _ _).alloc (KK _) _).trans (hb1.mono (by simp));clear hb1;have ME:∀x y z,Lt w (((w1.setCell ⟨w.heap.size,0,none⟩ x).setCell ⟨w.heap.size,1,none⟩ y).setCell ⟨w.heap.size,2,none⟩ z):=fun x y z=>((LP.setCell (KK _) x).setCell (KK _) y).setCell (KK _) z;go_wp2_with fail;refine bodyPost_ret (v:=fE (none)) (by simp[results,results124,go_sem,fE,hc0,hc1,hc2]) rfl ⟨by rw[<-HQ.o,HX2.o],ME _ _ _⟩
     |some x=>
      obtain⟨l,m⟩:=x;have HN0:=aa (show eJ (cj (s.data.toList.drop 1) [] 1)=.tuple #[.agg #[.int .i64 3,.string (aE l),.int .i64 0],.int .i64 m]from by rw[hn];rfl);have HX2:=aa (show cG s.data.toList=some (⟨3,aE l,0⟩,m)from by rw[HX.o,hn];rfl);clear hn;generalize aE l=lb at*;go_enter func124,ntmps124;go_wp2_with fail;refine(fC _ _).mono ?_;rintro e w' ⟨rfl,rfl⟩;go_wp2_with fail;refine(ob _ _).mono ?_;rintro e w' ⟨rfl,rfl⟩;go_wp2_with fail;refine(xN s _ _ h hs HN0.o).mono ?_;rintro e w1 ⟨rfl,hb1⟩;have hcx:∀j,w1.cell? ⟨w.heap.size,j,none⟩=(w.alloc cu).cell? ⟨w.heap.size,j,none⟩:=fun j=>hb1.cell (by simp);have hf0:∀j,w1.frozen? ⟨w.heap.size,j,none⟩=false:=fun j=>by rw[hb1.frozen (by simp)];exact jg w _ j
      have hc0:w1.cell? ⟨w.heap.size,0,none⟩=some (.int .i64 0):=by rw[hcx];simp[cu]
      have hc1:w1.cell? ⟨w.heap.size,1,none⟩=some (.string ⟨#[]⟩):=by rw[hcx];simp[cu]
      have hc2:w1.cell? ⟨w.heap.size,2,none⟩=some (.int .i64 0):=by rw[hcx];simp[cu]
      clear hcx;have LP:Lt w w1:=((KL _ _).alloc (KK _) _).trans (hb1.mono (by simp));clear hb1;have ME:∀x y z,Lt w (((w1.setCell ⟨w.heap.size,0,none⟩ x).setCell ⟨w.heap.size,1,none⟩ y).setCell ⟨w.heap.size,2,none⟩ z):=fun x y z=>((LP.setCell (KK _) x).setCell (KK _) y).setCell (KK _) z;go_wp2_with fail;refine bodyPost_ret (v:=fE (some (⟨3,lb,0⟩,m))) (by simp[results,results124,go_sem,fE,hc0,hc1,hc2]) rfl ⟨by rw[<-HQ.o,HX2.o],ME _ _ _⟩
   ·rw[hlet]at hwc
    have HX:=aa (show cG s.data.toList=some (⟨1,s.extract 0 (ay s.data.toList bm),0⟩,ay s.data.toList bm)from by have:=BX s 0 h hlet;simpa using this);have hwl:=lK s.data.toList bm;rw[Array.length_toList,show s.data.size=s.size from rfl]at hwl;generalize hm:ay s.data.toList bm=m at*;have HM:=aa hm;clear hm;go_enter func124,ntmps124;go_wp2_with fail;refine(fC _ _).mono ?_;rintro e w' ⟨rfl,rfl⟩;go_wp2_with fail;refine(ob _ _).mono ?_;rintro e w' ⟨rfl,rfl⟩;go_wp2_with fail;refine(wE s _ hs).mono ?_;rw[HM.o];rintro e w' ⟨rfl,rfl⟩;go_wp2_with fail;refine(uM _ _ (by rw[ByteArray.size_extract];omega)).mono ?_;rintro e w1 ⟨rfl,hb1⟩;have hcx:∀j,w1.cell? ⟨w.heap.size,j,none⟩=(w.alloc cu).cell? ⟨w.heap.size,j,none⟩:=fun j=>hb1.cell (by simp);have hf0:∀j,w1.frozen? ⟨w.heap.size,j,none⟩=false:=fun j=>by rw[hb1.frozen (by simp)];exact jg w _ j
    have hc0:w1.cell? ⟨w.heap.size,0,none⟩=some (.int .i64 0):=by rw[hcx];simp[cu]
    have hc1:w1.cell? ⟨w.heap.size,1,none⟩=some (.string ⟨#[]⟩):=by rw[hcx];simp[cu]
    have hc2:w1.cell? ⟨w.heap.size,2,none⟩=some (.int .i64 0):=by rw[hcx];simp[cu]
    clear hcx;have LP:Lt w w1:=((KL _ _).alloc (KK _) _).trans (hb1.mono (by simp));clear hb1;have ME:∀x y z,Lt w (((w1.setCell ⟨w.heap.size,0,none⟩ x).setCell ⟨w.heap.size,1,none⟩ y).setCell ⟨w.heap.size,2,none⟩ z):=fun x y z=>((LP.setCell (KK _) x).setCell (KK _) y).setCell (KK _) z;go_wp2_with fail;refine bodyPost_ret (v:=fE (some (⟨1,s.extract 0 m,0⟩,m))) (by simp[results,results124,go_sem,fE,hc0,hc1,hc2]) rfl ⟨by rw[<-HQ.o,HX.o],ME _ _ _⟩
  ·have hdm:=aa (show aw fK s[0]=true from by rw[u7,hdg];simpa [pS]using h45)
   have HX:=aa (show cG s.data.toList=(ch s.data.toList).map fun x=>(⟨2,⟨#[]⟩,x.1⟩,x.2)from wQ s 0 h (yR _ hdm.o) hdm.o);cases hn:ch s.data.toList with
   |none=>
    have HN0:=aa (show bF (ch s.data.toList)=.tuple #[.agg #[.int .i64 0,.string ⟨#[]⟩,.int .i64 0],.int .i64 0]from by rw[hn];rfl);have HX2:=aa (show cG s.data.toList=none from by rw[HX.o,hn];rfl);clear hn;go_enter func124,ntmps124;go_wp2_with fail;refine(fC _ _).mono ?_;rintro e w' ⟨rfl,rfl⟩;go_wp2_with fail;refine(tN s _ _ h hs HN0.o).mono ?_;rintro e w1 ⟨rfl,hb1⟩;have hcx:∀j,w1.cell? ⟨w.heap.size,j,none⟩=(w.alloc cu).cell? ⟨w.heap.size,j,none⟩:=fun j=>hb1.cell (by simp);have hf0:∀j,w1.frozen? ⟨w.heap.size,j,none⟩=false:=fun j=>by rw[hb1.frozen (by simp)];exact jg w _ j
    have hc0:w1.cell? ⟨w.heap.size,0,none⟩=some (.int .i64 0):=by rw[hcx];simp[cu]
    have hc1:w1.cell? ⟨w.heap.size,1,none⟩=some (.string ⟨#[]⟩):=by rw[hcx];simp[cu]
    have hc2:w1.cell? ⟨w.heap.size,2,none⟩=some (.int .i64 0):=by rw[hcx];simp[cu]
    clear hcx;have LP:Lt w w1:=((KL _ _).alloc (KK _) _).trans (hb1.mono (by simp));clear hb1;have ME:∀x y z,Lt w (((w1.setCell ⟨w.heap.size,0,none⟩ x).setCell ⟨w.heap.size,1,none⟩ y).setCell ⟨w.heap.size,2,none⟩ z):=fun x y z=>((LP.setCell (KK _) x).setCell (KK _) y).setCell (KK _) z;go_wp2_with fail;refine bodyPost_ret (v:=fE (none)) (by simp[results,results124,go_sem,fE,hc0,hc1,hc2]) rfl ⟨by rw[<-HQ.o,HX2.o],ME _ _ _⟩
   |some x=>
    obtain⟨v,m⟩:=x;have HN0:=aa (show bF (ch s.data.toList)=.tuple #[.agg #[.int .i64 2,.string ⟨#[]⟩,.int .i64 v],.int .i64 m]from by rw[hn];rfl);have HX2:=aa (show cG s.data.toList=some (⟨2,⟨#[]⟩,v⟩,m)from by rw[HX.o,hn];rfl);clear hn;go_enter func124,ntmps124;go_wp2_with fail;refine(fC _ _).mono ?_;rintro e w' ⟨rfl,rfl⟩;go_wp2_with fail;refine(tN s _ _ h hs HN0.o).mono ?_;rintro e w1 ⟨rfl,hb1⟩;have hcx:∀j,w1.cell? ⟨w.heap.size,j,none⟩=(w.alloc cu).cell? ⟨w.heap.size,j,none⟩:=fun j=>hb1.cell (by simp);have hf0:∀j,w1.frozen? ⟨w.heap.size,j,none⟩=false:=fun j=>by rw[hb1.frozen (by simp)];exact jg w _ j
    have hc0:w1.cell? ⟨w.heap.size,0,none⟩=some (.int .i64 0):=by rw[hcx];simp[cu]
    have hc1:w1.cell? ⟨w.heap.size,1,none⟩=some (.string ⟨#[]⟩):=by rw[hcx];simp[cu]
    have hc2:w1.cell? ⟨w.heap.size,2,none⟩=some (.int .i64 0):=by rw[hcx];simp[cu]
    clear hcx;have LP:Lt w w1:=((KL _ _).alloc (KK _) _).trans (hb1.mono (by simp));clear hb1;have ME:∀x y z,Lt w (((w1.setCell ⟨w.heap.size,0,none⟩ x).setCell ⟨w.heap.size,1,none⟩ y).setCell ⟨w.heap.size,2,none⟩ z):=fun x y z=>((LP.setCell (KK _) x).setCell (KK _) y).setCell (KK _) z;go_wp2_with fail;refine bodyPost_ret (v:=fE (some (⟨2,⟨#[]⟩,v⟩,m))) (by simp[results,results124,go_sem,fE,hc0,hc1,hc2]) rfl ⟨by rw[<-HQ.o,HX2.o],ME _ _ _⟩
 ·have hdm:=aa (show aw fK s[0]=true from by rw[u7,hdg];rfl)
  have HX:=aa (show cG s.data.toList=(ch s.data.toList).map fun x=>(⟨2,⟨#[]⟩,x.1⟩,x.2)from wQ s 0 h (yR _ hdm.o) hdm.o);cases hn:ch s.data.toList with
  |none=>
   have HN0:=aa (show bF (ch s.data.toList)=.tuple #[.agg #[.int .i64 0,.string ⟨#[]⟩,.int .i64 0],.int .i64 0]from by rw[hn];rfl);have HX2:=aa (show cG s.data.toList=none from by rw[HX.o,hn];rfl);clear hn;go_enter func124,ntmps124;go_wp2_with fail;refine(fC _ _).mono ?_;rintro e w' ⟨rfl,rfl⟩;go_wp2_with fail;refine(tN s _ _ h hs HN0.o).mono ?_;rintro e w1 ⟨rfl,hb1⟩;have hcx:∀j,w1.cell? ⟨w.heap.size,j,none⟩=(w.alloc cu).cell? ⟨w.heap.size,j,none⟩:=fun j=>hb1.cell (by simp);have hf0:∀j,w1.frozen? ⟨w.heap.size,j,none⟩=false:=fun j=>by rw[hb1.frozen (by simp)];exact jg w _ j
   have hc0:w1.cell? ⟨w.heap.size,0,none⟩=some (.int .i64 0):=by rw[hcx];simp[cu]
   have hc1:w1.cell? ⟨w.heap.size,1,none⟩=some (.string ⟨#[]⟩):=by rw[hcx];simp[cu]
   have hc2:w1.cell? ⟨w.heap.size,2,none⟩=some (.int .i64 0):=by rw[hcx];simp[cu]
   clear hcx;have LP:Lt w w1:=((KL _ _).alloc (KK _) _).trans (hb1.mono (by simp));clear hb1;have ME:∀x y z,Lt w (((w1.setCell ⟨w.heap.size,0,none⟩ x).setCell ⟨w.heap.size,1,none⟩ y).setCell ⟨w.heap.size,2,none⟩ z):=fun x y z=>((LP.setCell (KK _) x).setCell (KK _) y).setCell (KK _) z;go_wp2_with fail;refine bodyPost_ret (v:=fE (none)) (by simp[results,results124,go_sem,fE,hc0,hc1,hc2]) rfl ⟨by rw[<-HQ.o,HX2.o],ME _ _ _⟩
  |some x=>
   obtain⟨v,m⟩:=x;have HN0:=aa (show bF (ch s.data.toList)=.tuple #[.agg #[.int .i64 2,.string ⟨#[]⟩,.int .i64 v],.int .i64 m]from by rw[hn];rfl);have HX2:=aa (show cG s.data.toList=some (⟨2,⟨#[]⟩,v⟩,m)from by rw[HX.o,hn];rfl);clear hn;go_enter func124,ntmps124;go_wp2_with fail;refine(fC _ _).mono ?_;rintro e w' ⟨rfl,rfl⟩;go_wp2_with fail;refine(tN s _ _ h hs HN0.o).mono ?_;rintro e w1 ⟨rfl,hb1⟩;have hcx:∀j,w1.cell? ⟨w.heap.size,j,none⟩=(w.alloc cu).cell? ⟨w.heap.size,j,none⟩:=fun j=>hb1.cell (by simp);have hf0:∀j,w1.frozen? ⟨w.heap.size,j,none⟩=false:=fun j=>by rw[hb1.frozen (by simp)];exact jg w _ j
   have hc0:w1.cell? ⟨w.heap.size,0,none⟩=some (.int .i64 0):=by rw[hcx];simp[cu]
   have hc1:w1.cell? ⟨w.heap.size,1,none⟩=some (.string ⟨#[]⟩):=by rw[hcx];simp[cu]
   have hc2:w1.cell? ⟨w.heap.size,2,none⟩=some (.int .i64 0):=by rw[hcx];simp[cu]
   clear hcx;have LP:Lt w w1:=((KL _ _).alloc (KK _) _).trans (hb1.mono (by simp));clear hb1;have ME:∀x y z,Lt w (((w1.setCell ⟨w.heap.size,0,none⟩ x).setCell ⟨w.heap.size,1,none⟩ y).setCell ⟨w.heap.size,2,none⟩ z):=fun x y z=>((LP.setCell (KK _) x).setCell (KK _) y).setCell (KK _) z;go_wp2_with fail;refine bodyPost_ret (v:=fE (some (⟨2,⟨#[]⟩,v⟩,m))) (by simp[results,results124,go_sem,fE,hc0,hc1,hc2]) rfl ⟨by rw[<-HQ.o,HX2.o],ME _ _ _⟩
def CN(t:Tk):List Value:=[.int .i64 t.k,.string t.s,.int .i64 t.n]
def mA(ts:List Tk):List Value:=ts.flatMap CN
theorem DQ(ts:List Tk)(t:Tk):mA (ts++[t])=mA ts++CN t:=by simp[mA]
theorem xi(s:Ls)(x:Value)(w:World)(h:0<s.size)(hs:s.size<=100000)(hn:fE (cG s.data.toList)=x):
 Calls prog 124 #[.string s] w fun e w'=>e=.returned x/\Lt w w':=by
 subst hn;exact Ki s w h hs
theorem info223:(prog.info? 223).map (fun i=>(i.zero,i.size,i.bytes))=some (some (.agg #[.int .i64 0,.string ⟨#[]⟩,.int .i64 0]),3,32):=by kernel_rfl
theorem GN(t:Ls)(h:0<t.size)(hc:sC t)(hx:cG t.data.toList=none):bG t.data.toList=none:=by
 rcases hc with hc|⟨h',h1,h2⟩
 ·omega
 ·exact rT t 0 h h1 h2 hx
theorem IW(t:Ls)(x:Tk)(m:Nat)(h:0<t.size)(hc:sC t)(hx:cG t.data.toList=some (x,m)):bG t.data.toList=(bG (t.extract m t.size).data.toList).map (x:: ·):=by
 rcases hc with hc|⟨h',h1,h2⟩
 ·omega
 ·have:=pt t 0 (x,m) h h1 h2 hx
  simp only[Nat.zero_add]at this;rw[uR,<-this];rfl
theorem GP(s t:Ls)(ts:List Tk)(x:Tk)(r:List UInt8)(h:bG s.data.toList=(bG t.data.toList).map (ts++ ·))(hx:bG t.data.toList=(bG r).map (x:: ·))(hl:ts.length=800):av s=none:=by
 unfold av;rw[h,hx];split
 ·rfl
 ·cases bG r with
  |none=>rfl
  |some l=>simp only[Option.map_some];rw[K8 (by simp;omega)]
theorem KC(s:Ls)(ts:List Tk)(h0:¬4000<s.size)(h:bG s.data.toList=some ts)(hl:ts.length<=800):av s=some ts:=by
 unfold av;rw[K8 h0,h];simp only;rw[K9 hl]
theorem Dz(s t r:Ls)(ts:List Tk)(x:Tk)(h:bG s.data.toList=(bG t.data.toList).map (ts++ ·))(hx:bG t.data.toList=(bG r.data.toList).map (x:: ·)):bG s.data.toList=(bG r.data.toList).map ((ts++[x])++ ·):=by
 rw[h,hx];cases bG r.data.toList<;>simp
theorem DG(s:Ls)(w:World)(hs:s.size<=maxLen):
 Calls prog 92 #[.string s] w fun e w'=>∃v b ts,e=.returned (.tuple #[v,.bool b])/\Lt w w'/\w'.ownsRow w.heap.size 223 3 v ts.length (mA ts)/\av s=(if b=true then some ts else none)/\(b=false->ts=[]/\v=.slice none 0 0):=by
 unfold maxLen at hs;by_cases hbig:4000<s.size
 ·go_enter func92,ntmps92
  go_wp2_with fail;go_ret2;exact⟨_,_,[],rfl,KL _ _,K7 _ _ _ _,by simp[av,hbig],fun _=>⟨rfl,rfl⟩⟩
 obtain⟨i0,hi,hz0,hz1,hz2⟩:=info_parts info223;go_enter func92,ntmps92;go_wp2_with fail;refine(yZ s _ (by omega)).mono ?_;rintro e w1 ⟨t0,rfl,hcl,htz,hlx,hb0⟩;have HC:=aa hcl;have HL:=aa hlx;have HB:=aa hb0;clear hcl hlx hb0;go_wp2_with fail
 go_loopw [4,5] (fun v i wr=>∃(t:Ls) (ts:List Tk),i=.string t/\sC t/\t.size<=s.size/\wr.ownsRow w.heap.size 223 3 v ts.length (mA ts)/\ts.length<=800/\Lt w wr/\bG s.data.toList=(bG t.data.toList).map (ts++ ·)) (fun _ i _=>vc i)
 case atStart=>exact⟨t0,[],rfl,HC.o,htz,K7 _ _ _ _,by simp,HB.o,by rw[HL.o];simp⟩
 case round=>
  obtain⟨t,ts,rfl,hcl,htz,LJ,htl,LN,hrr⟩:=hrel;have HR:=aa hrr;have HC:=aa hcl;clear hrr hcl;have MG:=LN.size;by_cases h0:0<t.size
  ·have hne:=Br t h0
   cases hx:cG t.data.toList with
   |none=>
    have HX:=aa (show fE (cG t.data.toList)=.tuple #[.agg #[.int .i64 0,.string ⟨#[]⟩,.int .i64 0],.int .i64 0]from by rw[hx];rfl);have HE:=aa (show av s=none from rC s (by rw[HR.o,GN t h0 HC.o hx];rfl));clear hx;go_wp2_with fail;refine(xi t _ _ h0 (by omega) HX.o).mono ?_;rintro e w2 ⟨rfl,hb2⟩;have hb3:=LN.trans (hb2.mono MG);have hs3:=hb3.size;clear hb2;go_wp2_with fail;go_ret2;exact⟨_,_,[],rfl,hb3.alloc hs3 _,K7 _ _ _ _,by rw[HE.o];simp,fun _=>⟨rfl,rfl⟩⟩
   |some y=>
    obtain⟨x,m⟩:=y;have hsz:=rK _ _ hx;simp only at hsz;have hm0:0<m:=hsz.1;have hm1:m<=t.size:=hsz.2;have hm2:((m:Int)==0)=false:=by simp;omega
    have HX:=aa (show fE (cG t.data.toList)=.tuple #[.agg #[.int .i64 x.k,.string x.s,.int .i64 x.n],.int .i64 m]from by rw[hx];rfl);have HT:=aa (IW t x m h0 HC.o hx);clear hx hsz;obtain⟨a0,cap,hv⟩:=bc LJ;subst hv;by_cases h8:ts.length=800
    ·have h8':((ts.length:Int)==800)=true:=by simp;omega
     have HE:=aa (GP s t ts x _ HR.o HT.o h8);clear h8;go_wp2_with fail;refine(xi t _ _ h0 (by omega) HX.o).mono ?_;rintro e w2 ⟨rfl,hb2⟩;have hb3:=LN.trans (hb2.mono MG);have hs3:=hb3.size;clear hb2;go_wp2_with fail;go_ret2;exact⟨_,_,[],rfl,hb3.alloc hs3 _,K7 _ _ _ _,by rw[HE.o];simp,fun _=>⟨rfl,rfl⟩⟩
    ·have h8':((ts.length:Int)==800)=false:=by simp;omega
     go_wp2_with fail;refine(xi t _ _ h0 (by omega) HX.o).mono ?_;rintro e w2 ⟨rfl,hb2⟩;have hb3:=LN.trans (hb2.mono MG);have hs3:=hb3.size;have LL:=bZ LJ hb2;have Ml:=LJ.lt;clear hb2;go_wp2_with (at_builtin;refine wpList_append_own _ rfl _ _ 189 rfl w.heap.size 223 i0 _ 3 32 underlying189 hi hz0 hz1 hz2 rfl (by decide) _ _ _ rfl ((LL.alloc _).alloc _) ⟨w2.heap.size+1,0,none⟩ 1 1 [.int .i64 x.k,.string x.s,.int .i64 x.n] rfl rfl (de _ _ _ _ (by simp)) (pi rfl rfl rfl) (by unfold maxLen;omega) (by omega) (by simp;omega) ?_;intro v' w3 hown' hgrow _);have L6:Lt w w3:=Below.grown ((hb3.alloc hs3 _).alloc (by simp;omega) _) hgrow (by simp;omega) (fun k hk=>(Ml k hk).1);have Mg:w3.ownsRow w.heap.size 223 3 v' (ts++[x]).length (mA (ts++[x])):=by
      rw[DQ,Lb];exact hown'
     have HN:=aa (Dz s t _ ts x HR.o HT.o);clear hown' hgrow LJ LL hb3 LN;refine(yZ _ _ (by simp;omega)).mono ?_;rintro e w4 ⟨t2,rfl,hcl2,htz2,hlx2,hb4⟩;have HC2:=aa hcl2;have HL2:=aa hlx2;have htz3:t2.size<t.size:=by simp at htz2;omega
     have L8:=bZ Mg hb4;have hb5:=L6.trans (hb4.mono L6.size);clear hcl2 hlx2 htz2 hb4;go_wp2_with fail
     go_roundw
     case rel=>exact⟨t2,ts++[x],rfl,HC2.o,by omega,L8,by simp;omega,hb5,by rw[HN.o,HL2.o]⟩
     case measure=>simp only[OB];omega
  ·have hne:=Ac t h0
   have HE:=aa (show av s=some ts from KC s ts hbig (by rw[HR.o,KZ (show t.data.toList.length=0 by show t.size=0;omega)];simp[OC]) htl);go_wp2_with fail;go_ret2;exact⟨_,_,ts,rfl,LN,LJ,by rw[HE.o];rfl,fun h=>by cases h⟩
end Go.Proofs.YtgbloieahmkcjaaGreat
