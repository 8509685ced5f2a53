import Derived.Test.YtadneapobijejaaGreatDoorC03
import Derived.Test.YtadneapobijejaaGreatDoorC02
import Derived.Lib.Strings
import Derived.Lib.Walk
import Derived.Lib.BufferWrite
import Derived.Lib.UnsafeStr
import Derived.Lib.Hide
import Derived.Laws.MakeOwn
namespace Go.Proofs.YtadneapobijejaaGreatDoor
set_option maxHeartbeats 20000000
set_option maxRecDepth 100000
open Go.RowKit Tryz
theorem cinfo5:(prog.info? 5).map (fun i=>(i.zero,i.size,i.bytes))=some (some (.int .u8 0),1,1):=by kernel_rfl
theorem jB(s:vD)(w:World)(hs:s.size<=2000000):
 Calls prog 153 #[.string s] w fun e w'=>e=.returned (.string s)/\vE w w':=by
 by_cases h0:s.size=0
 ·have he:s=⟨#[]⟩:=by
   apply ByteArray.ext;exact Array.eq_empty_of_size_eq_zero h0
  subst he;go_enter func153,ntmps153
  go_wp2
  go_ret;exact⟨rfl,tM _ _⟩
 ·obtain⟨i0,hi,hz0,hz1,hz2⟩:=info_parts cinfo5
  have hinfo:(prog.info? 5).map (·.size)=some 1:=by rw[hi];simp[hz1]
  have hco:prog.cellsOf 5=1:=by simp[Program.cellsOf,hi,hz1]
  obtain⟨M,hM⟩:∃M,M=madeCells (Value.int .u8 0).cells (((s.size:Nat):Int).toNat*i0.size):=⟨_,rfl⟩;have hMs:M.size=s.size:=by rw[hM,size_madeCells,hz1];simp
  have hmk:∀W:World,(Instr.makeSlice 84 (.int .i64 (s.size:Int)) (.int .i64 (s.size:Int))).run prog W=.ok (.slice (some ⟨W.heap.size,0,none⟩) s.size s.size) (W.alloc (.cells M 5)):=fun W=>by
   have h:=run_make (P:=prog) W 84 5 i0 (.int .u8 0) underlying84 hi hz0 .i64 .i64 (s.size:Int) (s.size:Int) (by omega) (by omega) (by rw[hz2];omega) (by omega);rw[<-hM]at h;simpa using h
  clear hM;have hcp:=Lib.run_copy_row_string (P:=prog) (w.alloc (.cells M 5)) 84 9 3 5 w.heap.size 0 s.size s.size s M 5 underlying84 hinfo (tS w _) (tL _) (by omega);obtain⟨Y,hY⟩:∃Y,Y=(M.toList.take 0++Lib.byteCells s.data.toList++M.toList.drop (0+s.size)).toArray:=⟨_,rfl⟩;rw[<-hY]at hcp;have hYl:Y.toList=Lib.byteCells s.data.toList:=by
   rw[hY,List.toList_toArray,List.take_zero,List.nil_append,uS (by rw[Array.length_toList];omega),List.append_nil]
  have hYs:Y.size=s.size:=by rw[<-Array.length_toList,hYl,Lib.byteCells_length,<-Lib.size_eq]
  have hgY:((w.alloc (.cells M 5)).setRow w.heap.size Y).heap[w.heap.size]?=some (.cells Y 5 (0,0)):=setRow_heap _ _ M _ 5 (0,0) (tS w _);have hne:s.data.toList≠[]:=fun e=>h0 (by rw[Lib.size_eq,e];rfl);have hUS:=Lib.run_unsafeString_row (P:=prog) ((w.alloc (.cells M 5)).setRow w.heap.size Y) 324 3 9 5 underlying324 hco w.heap.size Y.size (by unfold World.shape?;rw[hgY]) s.data.toList hne (by rw[<-Lib.size_eq];omega) (by rw[<-Lib.size_eq];omega)
   (fun j x hx=>Lib.cells_of_row hgY Y.size j _ (by rw[tW (by rw[Array.length_toList];exact tL _),hYl];simp[Lib.byteCells,hx]))
  rw[<-Lib.size_eq]at hUS;clear hY;go_enter func153,ntmps153
  go_wp2
  go_ret;have hb1:vE w (w.alloc (.cells M 5)):=(tM _ w).alloc (tL _) _;have hb2:Below w.heap.size (w.alloc (.cells M 5)) ((w.alloc (.cells M 5)).setRow w.heap.size Y):=⟨rfl,rfl,rfl,by simp,fun k hk=>setRow_other _ _ _ _ (by omega)⟩;exact⟨rfl,Lib.below_freeze (hb1.trans hb2) (p:=⟨w.heap.size,0,none⟩) (tL _) _⟩
theorem Qn(s:vD)(w:World)(hs:s.size<=2000000):
 Calls prog 107 #[.string s] w fun e w'=>e=.returned (.string s)/\vE w w':=by
 have hc:=jB s w hs;go_enter func107,ntmps107;go_wp2_with fail;refine hc.mono ?_;rintro e w1 ⟨rfl,hb1⟩;go_wp2_with fail;go_ret;exact⟨rfl,hb1⟩
def Dd:Option (Tk×Nat)->Value
 |none=>.tuple #[.agg #[.int .i64 0,.string ⟨#[]⟩,.int .i64 0],.int .i64 0]
 |some (t,k)=>.tuple #[.agg #[.int .i64 t.k,.string t.s,.int .i64 t.n],.int .i64 k]
theorem OT(s:vD)(x:Value)(w:World)(h:0<s.size)(hs:s.size<=100000)(hn:BV (BK s.data.toList)=x):
 Calls prog 162 #[.string s] w fun e w'=>e=.returned x/\vE w w':=by
 subst hn;exact lQ s w h hs
theorem Xh(s:vD)(x:Value)(w:World)(h:0<s.size)(hs:s.size<=100000)(hn:FW (Cp (s.data.toList.drop 1) [] 1)=x):
 Calls prog 165 #[.string s] w fun e w'=>e=.returned x/\vE w w':=by
 subst hn;exact pI s w h hs
theorem Qq(c:UInt8):Ar Gi c=(Ar AP c||decide (c=45)):=by
 have h:∀i:Fin 256,Ar Gi (UInt8.ofFin i)=(Ar AP (UInt8.ofFin i)||decide (UInt8.ofFin i=45)):=by decide+kernel
 exact h c.toFin
theorem TO(c:UInt8)(h:Ar Gi c=true):Ar Dw c=false:=by
 have k:∀i:Fin 256,Ar Gi (UInt8.ofFin i)=true->Ar Dw (UInt8.ofFin i)=false:=by decide+kernel
 exact k c.toFin h
theorem Sf:∀(l:List UInt8) (c:UInt8) (n:Nat),GT l c n=if Lib.indexByte l c= -1 then none else some (n+(Lib.indexByte l c).toNat)
 |[],_,_=>rfl
 |d::l,c,n=>by
  by_cases h:d=c
  ·subst h;simp[GT,Lib.indexByte]
  ·have:=Lib.indexByte_ge l c
   rw[GT,uB h,Sf l c (n+1)];have e:Lib.indexByte (d::l) c=if Lib.indexByte l c== -1 then -1 else Lib.indexByte l c+1:=by
    rw[Lib.indexByte,uB (by simpa using h)]
   rw[e];by_cases h2:Lib.indexByte l c= -1
   ·simp[h2]
   ·have h3:(Lib.indexByte l c== -1)=false:=by simpa using h2
    rw[uB h2,h3,uB (by simp;omega)];congr 1;simp;omega
def KE(s:vD):Bool:=decide (s.data.toList.take 3=[46,46,46])
theorem RJ(s:vD)(w:World)(hs:s.size<=100000):
 Calls prog 166 #[.string s,.string ⟨#[46,46,46]⟩] w fun e w'=>e=.returned (.bool (KE s))/\w'=w:=by
 by_cases hd3:3<=s.size
 ·have h3:3<=(s.size:Int):=by omega
  have ht:=sC s 0;rw[Nat.zero_add]at ht;have HT:=Aa (show((s.extract 0 3).toList==[46,46,46])=KE s from ht);clear ht;cases hdd:((s.extract 0 3).toList==[46,46,46])
  ·go_enter func166,ntmps166
   go_wp2
   go_ret;exact⟨Ak (by rw[<-HT.o,hdd]),rfl⟩
  ·go_enter func166,ntmps166
   go_wp2
   go_ret;exact⟨Ak (by rw[<-HT.o,hdd]),rfl⟩
 ·have h3:¬3<=(s.size:Int):=by omega
  have HT:=Aa (show KE s=false from by unfold KE;rw[decide_eq_false_iff_not];intro e;have:=congrArg List.length e;simp at this;have h9:s.data.size=s.size:=rfl;omega);go_enter func166,ntmps166
  go_wp2
  go_ret;exact⟨Ak (by rw[HT.o]),rfl⟩
theorem TP(s:vD):s.data.toList.drop 0=s.data.toList:=rfl
theorem Uw:∀(l:List UInt8) (c:UInt8),Lib.indexByte l c<l.length
 |[],_=>by simp[Lib.indexByte]
 |d::l,c=>by
  have:=Uw l c;have:=Lib.indexByte_ge l c;unfold Lib.indexByte;split
  ·simp only[uQ];omega
  split<;>(simp only[uQ];omega)
theorem dM(s:vD)(w:World)(h:0<s.size)(hs:s.size<=100000):
 Calls prog 114 #[.string s] w fun e w'=>e=.returned (Dd (Br s.data.toList))/\vE w w':=by
 generalize hq:Dd (Br s.data.toList)=q;have HQ:=Aa hq;clear hq;cases hdg:Ar AP s[0]
 ·cases h45:((s[0].toNat:Int)==45)
  ·have hdmf:=Aa (show Ar Gi s[0]=false from by rw[Qq,hdg];simpa [Oa]using h45)
   have hwc:=PC s[0];rw[hdg,Bool.false_or]at hwc;cases hlet:Ar Dw s[0]
   ·rw[hlet]at hwc
    cases h34:((s[0].toNat:Int)==34)
    ·have N34:=Aa (show¬s[0]=34 from by intro e;rw[e]at h34;simp at h34)
     cases hdd:KE s
     ·have ND2:=Aa hdd
      have ND:=Aa (show¬(s.data.toList.drop 0).take 3=[46,46,46]from by simpa [KE]using hdd);clear hdd;have HX:=Aa (iD s 0 h hlet hdmf.o N34.o ND.o);have hge:=Lib.indexByte_ge Dp.data.toList s[0];by_cases hix:Lib.indexByte Dp.data.toList s[0]= -1
      ·have HX2:=Aa (show Br s.data.toList=none from by have:=HX.o;rw[TP]at this;rw[this,Sf,uC hix];rfl)
       have HI:=Aa hix;clear hix hge;go_enter func114,ntmps114;go_wp2_with fail;refine(Df _ _).mono ?_;rintro e w' ⟨rfl,rfl⟩;go_wp2_with fail;refine(JX _ _).mono ?_;rintro e w' ⟨rfl,rfl⟩;go_wp2_with fail;refine(RJ s _ hs).mono ?_;rw[ND2.o];rintro e w' ⟨rfl,rfl⟩;go_wp2_with fail;refine(XA Dp s[0] _).mono ?_;rw[HI.o];rintro e w' ⟨rfl,rfl⟩;go_wp2_with fail;refine bodyPost_ret (v:=Dd (none)) (by simp[results,results114,go_sem,Dd]) rfl ⟨by rw[<-HQ.o,HX2.o],(tM _ _).alloc (tL _) _⟩
      ·obtain⟨i,hi⟩:∃i:Nat,Lib.indexByte Dp.data.toList s[0]=i:=⟨(Lib.indexByte Dp.data.toList s[0]).toNat,by omega⟩
       have HX2:=Aa (show Br s.data.toList=some (⟨5+i,⟨#[]⟩,0⟩,1)from by have:=HX.o;rw[TP]at this;rw[this,Sf,uB hix,hi];rfl);have hlt:=Uw Dp.data.toList s[0];rw[hi]at hlt;have hlt2:(i:Int)<13:=hlt;have HI:=Aa hi;clear hix hge hi hlt;go_enter func114,ntmps114;go_wp2_with fail;refine(Df _ _).mono ?_;rintro e w' ⟨rfl,rfl⟩;go_wp2_with fail;refine(JX _ _).mono ?_;rintro e w' ⟨rfl,rfl⟩;go_wp2_with fail;refine(RJ s _ hs).mono ?_;rw[ND2.o];rintro e w' ⟨rfl,rfl⟩;go_wp2_with fail;refine(XA Dp s[0] _).mono ?_;rw[HI.o];rintro e w' ⟨rfl,rfl⟩;go_wp2_with fail;refine bodyPost_ret (v:=Dd (some (⟨5+i,⟨#[]⟩,0⟩,1))) (by simp[results,results114,go_sem,Dd]) rfl ⟨by rw[<-HQ.o,HX2.o],(tM _ _).alloc (tL _) _⟩
     ·have ND2:=Aa hdd
      have HX:=Aa (show Br s.data.toList=some (⟨4,⟨#[]⟩,0⟩,3)from iA s 0 h hlet hdmf.o N34.o (by simpa [KE]using hdd));clear hdd;go_enter func114,ntmps114;go_wp2_with fail;refine(Df _ _).mono ?_;rintro e w' ⟨rfl,rfl⟩;go_wp2_with fail;refine(JX _ _).mono ?_;rintro e w' ⟨rfl,rfl⟩;go_wp2_with fail;refine(RJ s _ hs).mono ?_;rw[ND2.o];rintro e w' ⟨rfl,rfl⟩;go_wp2_with fail;refine bodyPost_ret (v:=Dd (some (⟨4,⟨#[]⟩,0⟩,3))) (by simp[results,results114,go_sem,Dd]) rfl ⟨by rw[<-HQ.o,HX.o],(tM _ _).alloc (tL _) _⟩
    ·have HX:=Aa (show Br s.data.toList=(Cp (s.data.toList.drop 1) [] 1).map fun x=>(⟨3,Az x.1,0⟩,x.2)from iE s 0 h hlet hdmf.o (Fe (by simpa using h34)))
     cases hn:Cp (s.data.toList.drop 1) [] 1 with
     |none=>
      have HN0:=Aa (show FW (Cp (s.data.toList.drop 1) [] 1)=.tuple #[.agg #[.int .i64 0,.string ⟨#[]⟩,.int .i64 0],.int .i64 0]from by rw[hn];rfl);have HX2:=Aa (show Br s.data.toList=none from by rw[HX.o,hn];rfl);clear hn;go_enter func114,ntmps114;go_wp2_with fail;refine(Df _ _).mono ?_;rintro e w' ⟨rfl,rfl⟩;go_wp2_with fail;refine(JX _ _).mono ?_;rintro e w' ⟨rfl,rfl⟩;go_wp2_with fail;refine(Xh s _ _ h hs HN0.o).mono ?_;rintro e w1 ⟨rfl,hb1⟩;have hcx:∀j,w1.cell? ⟨w.heap.size,j,none⟩=(w.alloc Bk).cell? ⟨w.heap.size,j,none⟩:=fun j=>hb1.cell (by simp);have hf0:∀j,w1.frozen? ⟨w.heap.size,j,none⟩=false:=fun j=>by rw[hb1.frozen (by simp)];exact Im w _ j
      have hc0:w1.cell? ⟨w.heap.size,0,none⟩=some (.int .i64 0):=by rw[hcx];simp[Bk]
      have hc1:w1.cell? ⟨w.heap.size,1,none⟩=some (.string ⟨#[]⟩):=by rw[hcx];simp[Bk]
      have hc2:w1.cell? ⟨w.heap.size,2,none⟩=some (.int .i64 0):=by rw[hcx];simp[Bk]
      clear hcx;have hlow:vE w w1:=((tM _ _).alloc (tL _) _).trans (hb1.mono (by simp));clear hb1;have hfin:∀x y z,vE w (((w1.setCell ⟨w.heap.size,0,none⟩ x).setCell ⟨w.heap.size,1,none⟩ y).setCell ⟨w.heap.size,2,none⟩ z):=fun x y z=>((hlow.setCell (tL _) x).setCell (tL _) y).setCell (tL _) z;go_wp2_with fail;refine bodyPost_ret (v:=Dd (none)) (by simp[results,results114,go_sem,Dd,hc0,hc1,hc2]) rfl ⟨by rw[<-HQ.o,HX2.o],hfin _ _ _⟩
     |some x=>
      obtain⟨l,m⟩:=x;have HN0:=Aa (show FW (Cp (s.data.toList.drop 1) [] 1)=.tuple #[.agg #[.int .i64 3,.string (Az l),.int .i64 0],.int .i64 m]from by rw[hn];rfl);have HX2:=Aa (show Br s.data.toList=some (⟨3,Az l,0⟩,m)from by rw[HX.o,hn];rfl);clear hn;generalize Az l=lb at*;go_enter func114,ntmps114;go_wp2_with fail;refine(Df _ _).mono ?_;rintro e w' ⟨rfl,rfl⟩;go_wp2_with fail;refine(JX _ _).mono ?_;rintro e w' ⟨rfl,rfl⟩;go_wp2_with fail;refine(Xh s _ _ h hs HN0.o).mono ?_;rintro e w1 ⟨rfl,hb1⟩;have hcx:∀j,w1.cell? ⟨w.heap.size,j,none⟩=(w.alloc Bk).cell? ⟨w.heap.size,j,none⟩:=fun j=>hb1.cell (by simp);have hf0:∀j,w1.frozen? ⟨w.heap.size,j,none⟩=false:=fun j=>by rw[hb1.frozen (by simp)];exact Im w _ j
      have hc0:w1.cell? ⟨w.heap.size,0,none⟩=some (.int .i64 0):=by rw[hcx];simp[Bk]
      have hc1:w1.cell? ⟨w.heap.size,1,none⟩=some (.string ⟨#[]⟩):=by rw[hcx];simp[Bk]
      have hc2:w1.cell? ⟨w.heap.size,2,none⟩=some (.int .i64 0):=by rw[hcx];simp[Bk]
      clear hcx;have hlow:vE w w1:=((tM _ _).alloc (tL _) _).trans (hb1.mono (by simp));clear hb1;have hfin:∀x y z,vE w (((w1.setCell ⟨w.heap.size,0,none⟩ x).setCell ⟨w.heap.size,1,none⟩ y).setCell ⟨w.heap.size,2,none⟩ z):=fun x y z=>((hlow.setCell (tL _) x).setCell (tL _) y).setCell (tL _) z;go_wp2_with fail;refine bodyPost_ret (v:=Dd (some (⟨3,lb,0⟩,m))) (by simp[results,results114,go_sem,Dd,hc0,hc1,hc2]) rfl ⟨by rw[<-HQ.o,HX2.o],hfin _ _ _⟩
   ·rw[hlet]at hwc
    have HX:=Aa (show Br s.data.toList=some (⟨1,s.extract 0 (Av s.data.toList AN),0⟩,Av s.data.toList AN)from by have:=iG s 0 h hlet;simpa using this);have hwl:=Kf s.data.toList AN;rw[Array.length_toList,show s.data.size=s.size from rfl]at hwl;generalize hm:Av s.data.toList AN=m at*;have HM:=Aa hm;clear hm;go_enter func114,ntmps114;go_wp2_with fail;refine(Df _ _).mono ?_;rintro e w' ⟨rfl,rfl⟩;go_wp2_with fail;refine(JX _ _).mono ?_;rintro e w' ⟨rfl,rfl⟩;go_wp2_with fail;refine(Sw s _ hs).mono ?_;rw[HM.o];rintro e w' ⟨rfl,rfl⟩;go_wp2_with fail;refine(Qn _ _ (by rw[ByteArray.size_extract];omega)).mono ?_;rintro e w1 ⟨rfl,hb1⟩;have hcx:∀j,w1.cell? ⟨w.heap.size,j,none⟩=(w.alloc Bk).cell? ⟨w.heap.size,j,none⟩:=fun j=>hb1.cell (by simp);have hf0:∀j,w1.frozen? ⟨w.heap.size,j,none⟩=false:=fun j=>by rw[hb1.frozen (by simp)];exact Im w _ j
    have hc0:w1.cell? ⟨w.heap.size,0,none⟩=some (.int .i64 0):=by rw[hcx];simp[Bk]
    have hc1:w1.cell? ⟨w.heap.size,1,none⟩=some (.string ⟨#[]⟩):=by rw[hcx];simp[Bk]
    have hc2:w1.cell? ⟨w.heap.size,2,none⟩=some (.int .i64 0):=by rw[hcx];simp[Bk]
    clear hcx;have hlow:vE w w1:=((tM _ _).alloc (tL _) _).trans (hb1.mono (by simp));clear hb1;have hfin:∀x y z,vE w (((w1.setCell ⟨w.heap.size,0,none⟩ x).setCell ⟨w.heap.size,1,none⟩ y).setCell ⟨w.heap.size,2,none⟩ z):=fun x y z=>((hlow.setCell (tL _) x).setCell (tL _) y).setCell (tL _) z;go_wp2_with fail;refine bodyPost_ret (v:=Dd (some (⟨1,s.extract 0 m,0⟩,m))) (by simp[results,results114,go_sem,Dd,hc0,hc1,hc2]) rfl ⟨by rw[<-HQ.o,HX.o],hfin _ _ _⟩
  ·have hdm:=Aa (show Ar Gi s[0]=true from by rw[Qq,hdg];simpa [Oa]using h45)
   have HX:=Aa (show Br s.data.toList=(BK s.data.toList).map fun x=>(⟨2,⟨#[]⟩,x.1⟩,x.2)from UR s 0 h (TO _ hdm.o) hdm.o);cases hn:BK s.data.toList with
   |none=>
    have HN0:=Aa (show BV (BK s.data.toList)=.tuple #[.agg #[.int .i64 0,.string ⟨#[]⟩,.int .i64 0],.int .i64 0]from by rw[hn];rfl);have HX2:=Aa (show Br s.data.toList=none from by rw[HX.o,hn];rfl);clear hn;go_enter func114,ntmps114;go_wp2_with fail;refine(Df _ _).mono ?_;rintro e w' ⟨rfl,rfl⟩;go_wp2_with fail;refine(OT s _ _ h hs HN0.o).mono ?_;rintro e w1 ⟨rfl,hb1⟩;have hcx:∀j,w1.cell? ⟨w.heap.size,j,none⟩=(w.alloc Bk).cell? ⟨w.heap.size,j,none⟩:=fun j=>hb1.cell (by simp);have hf0:∀j,w1.frozen? ⟨w.heap.size,j,none⟩=false:=fun j=>by rw[hb1.frozen (by simp)];exact Im w _ j
    have hc0:w1.cell? ⟨w.heap.size,0,none⟩=some (.int .i64 0):=by rw[hcx];simp[Bk]
    have hc1:w1.cell? ⟨w.heap.size,1,none⟩=some (.string ⟨#[]⟩):=by rw[hcx];simp[Bk]
    have hc2:w1.cell? ⟨w.heap.size,2,none⟩=some (.int .i64 0):=by rw[hcx];simp[Bk]
    clear hcx;have hlow:vE w w1:=((tM _ _).alloc (tL _) _).trans (hb1.mono (by simp));clear hb1;have hfin:∀x y z,vE w (((w1.setCell ⟨w.heap.size,0,none⟩ x).setCell ⟨w.heap.size,1,none⟩ y).setCell ⟨w.heap.size,2,none⟩ z):=fun x y z=>((hlow.setCell (tL _) x).setCell (tL _) y).setCell (tL _) z;go_wp2_with fail;refine bodyPost_ret (v:=Dd (none)) (by simp[results,results114,go_sem,Dd,hc0,hc1,hc2]) rfl ⟨by rw[<-HQ.o,HX2.o],hfin _ _ _⟩
   |some x=>
    obtain⟨v,m⟩:=x;have HN0:=Aa (show BV (BK s.data.toList)=.tuple #[.agg #[.int .i64 2,.string ⟨#[]⟩,.int .i64 v],.int .i64 m]from by rw[hn];rfl);have HX2:=Aa (show Br s.data.toList=some (⟨2,⟨#[]⟩,v⟩,m)from by rw[HX.o,hn];rfl);clear hn;go_enter func114,ntmps114;go_wp2_with fail;refine(Df _ _).mono ?_;rintro e w' ⟨rfl,rfl⟩;go_wp2_with fail;refine(OT s _ _ h hs HN0.o).mono ?_;rintro e w1 ⟨rfl,hb1⟩;have hcx:∀j,w1.cell? ⟨w.heap.size,j,none⟩=(w.alloc Bk).cell? ⟨w.heap.size,j,none⟩:=fun j=>hb1.cell (by simp);have hf0:∀j,w1.frozen? ⟨w.heap.size,j,none⟩=false:=fun j=>by rw[hb1.frozen (by simp)];exact Im w _ j
    have hc0:w1.cell? ⟨w.heap.size,0,none⟩=some (.int .i64 0):=by rw[hcx];simp[Bk]
    have hc1:w1.cell? ⟨w.heap.size,1,none⟩=some (.string ⟨#[]⟩):=by rw[hcx];simp[Bk]
    have hc2:w1.cell? ⟨w.heap.size,2,none⟩=some (.int .i64 0):=by rw[hcx];simp[Bk]
    clear hcx;have hlow:vE w w1:=((tM _ _).alloc (tL _) _).trans (hb1.mono (by simp));clear hb1;have hfin:∀x y z,vE w (((w1.setCell ⟨w.heap.size,0,none⟩ x).setCell ⟨w.heap.size,1,none⟩ y).setCell ⟨w.heap.size,2,none⟩ z):=fun x y z=>((hlow.setCell (tL _) x).setCell (tL _) y).setCell (tL _) z;go_wp2_with fail;refine bodyPost_ret (v:=Dd (some (⟨2,⟨#[]⟩,v⟩,m))) (by simp[results,results114,go_sem,Dd,hc0,hc1,hc2]) rfl ⟨by rw[<-HQ.o,HX2.o],hfin _ _ _⟩
 ·have hdm:=Aa (show Ar Gi s[0]=true from by rw[Qq,hdg];rfl)
  have HX:=Aa (show Br s.data.toList=(BK s.data.toList).map fun x=>(⟨2,⟨#[]⟩,x.1⟩,x.2)from UR s 0 h (TO _ hdm.o) hdm.o);cases hn:BK s.data.toList with
  |none=>
   have HN0:=Aa (show BV (BK s.data.toList)=.tuple #[.agg #[.int .i64 0,.string ⟨#[]⟩,.int .i64 0],.int .i64 0]from by rw[hn];rfl);have HX2:=Aa (show Br s.data.toList=none from by rw[HX.o,hn];rfl);clear hn;go_enter func114,ntmps114;go_wp2_with fail;refine(Df _ _).mono ?_;rintro e w' ⟨rfl,rfl⟩;go_wp2_with fail;refine(OT s _ _ h hs HN0.o).mono ?_;rintro e w1 ⟨rfl,hb1⟩;have hcx:∀j,w1.cell? ⟨w.heap.size,j,none⟩=(w.alloc Bk).cell? ⟨w.heap.size,j,none⟩:=fun j=>hb1.cell (by simp);have hf0:∀j,w1.frozen? ⟨w.heap.size,j,none⟩=false:=fun j=>by rw[hb1.frozen (by simp)];exact Im w _ j
   have hc0:w1.cell? ⟨w.heap.size,0,none⟩=some (.int .i64 0):=by rw[hcx];simp[Bk]
   have hc1:w1.cell? ⟨w.heap.size,1,none⟩=some (.string ⟨#[]⟩):=by rw[hcx];simp[Bk]
   have hc2:w1.cell? ⟨w.heap.size,2,none⟩=some (.int .i64 0):=by rw[hcx];simp[Bk]
   clear hcx;have hlow:vE w w1:=((tM _ _).alloc (tL _) _).trans (hb1.mono (by simp));clear hb1;have hfin:∀x y z,vE w (((w1.setCell ⟨w.heap.size,0,none⟩ x).setCell ⟨w.heap.size,1,none⟩ y).setCell ⟨w.heap.size,2,none⟩ z):=fun x y z=>((hlow.setCell (tL _) x).setCell (tL _) y).setCell (tL _) z;go_wp2_with fail;refine bodyPost_ret (v:=Dd (none)) (by simp[results,results114,go_sem,Dd,hc0,hc1,hc2]) rfl ⟨by rw[<-HQ.o,HX2.o],hfin _ _ _⟩
  |some x=>
   obtain⟨v,m⟩:=x;have HN0:=Aa (show BV (BK s.data.toList)=.tuple #[.agg #[.int .i64 2,.string ⟨#[]⟩,.int .i64 v],.int .i64 m]from by rw[hn];rfl);have HX2:=Aa (show Br s.data.toList=some (⟨2,⟨#[]⟩,v⟩,m)from by rw[HX.o,hn];rfl);clear hn;go_enter func114,ntmps114;go_wp2_with fail;refine(Df _ _).mono ?_;rintro e w' ⟨rfl,rfl⟩;go_wp2_with fail;refine(OT s _ _ h hs HN0.o).mono ?_;rintro e w1 ⟨rfl,hb1⟩;have hcx:∀j,w1.cell? ⟨w.heap.size,j,none⟩=(w.alloc Bk).cell? ⟨w.heap.size,j,none⟩:=fun j=>hb1.cell (by simp);have hf0:∀j,w1.frozen? ⟨w.heap.size,j,none⟩=false:=fun j=>by rw[hb1.frozen (by simp)];exact Im w _ j
   have hc0:w1.cell? ⟨w.heap.size,0,none⟩=some (.int .i64 0):=by rw[hcx];simp[Bk]
   have hc1:w1.cell? ⟨w.heap.size,1,none⟩=some (.string ⟨#[]⟩):=by rw[hcx];simp[Bk]
   have hc2:w1.cell? ⟨w.heap.size,2,none⟩=some (.int .i64 0):=by rw[hcx];simp[Bk]
   clear hcx;have hlow:vE w w1:=((tM _ _).alloc (tL _) _).trans (hb1.mono (by simp));clear hb1;have hfin:∀x y z,vE w (((w1.setCell ⟨w.heap.size,0,none⟩ x).setCell ⟨w.heap.size,1,none⟩ y).setCell ⟨w.heap.size,2,none⟩ z):=fun x y z=>((hlow.setCell (tL _) x).setCell (tL _) y).setCell (tL _) z;go_wp2_with fail;refine bodyPost_ret (v:=Dd (some (⟨2,⟨#[]⟩,v⟩,m))) (by simp[results,results114,go_sem,Dd,hc0,hc1,hc2]) rfl ⟨by rw[<-HQ.o,HX2.o],hfin _ _ _⟩
def WI(t:Tk):List Value:=[.int .i64 t.k,.string t.s,.int .i64 t.n]
def IU(ts:List Tk):List Value:=ts.flatMap WI
theorem oB(ts:List Tk)(t:Tk):IU (ts++[t])=IU ts++WI t:=by simp[IU]
theorem QC(s:vD)(x:Value)(w:World)(h:0<s.size)(hs:s.size<=100000)(hn:Dd (Br s.data.toList)=x):
 Calls prog 114 #[.string s] w fun e w'=>e=.returned x/\vE w w':=by
 subst hn;exact dM s w h hs
theorem info103:(prog.info? 103).map (fun i=>(i.zero,i.size,i.bytes))=some (some (.agg #[.int .i64 0,.string ⟨#[]⟩,.int .i64 0]),3,32):=by kernel_rfl
theorem iM(t:vD)(h:0<t.size)(hc:Oc t)(hx:Br t.data.toList=none):Bb t.data.toList=none:=by
 rcases hc with hc|⟨h',h1,h2⟩
 ·omega
 ·exact iJ t 0 h h1 h2 hx
theorem iO(t:vD)(x:Tk)(m:Nat)(h:0<t.size)(hc:Oc t)(hx:Br t.data.toList=some (x,m)):Bb t.data.toList=(Bb (t.extract m t.size).data.toList).map (x:: ·):=by
 rcases hc with hc|⟨h',h1,h2⟩
 ·omega
 ·have:=iK t 0 (x,m) h h1 h2 hx
  simp only[Nat.zero_add]at this;rw[Qv,<-this];rfl
theorem aJ(s t:vD)(ts:List Tk)(x:Tk)(r:List UInt8)(h:Bb s.data.toList=(Bb t.data.toList).map (ts++ ·))(hx:Bb t.data.toList=(Bb r).map (x:: ·))(hl:ts.length=800):Af s=none:=by
 unfold Af;rw[h,hx];split
 ·rfl
 ·cases Bb r with
  |none=>rfl
  |some l=>simp only[Option.map_some];rw[uB (by simp;omega)]
theorem aT(s:vD)(ts:List Tk)(h0:¬4000<s.size)(h:Bb s.data.toList=some ts)(hl:ts.length<=800):Af s=some ts:=by
 unfold Af;rw[uB h0,h];simp only;rw[uC hl]
theorem qD(s t r:vD)(ts:List Tk)(x:Tk)(h:Bb s.data.toList=(Bb t.data.toList).map (ts++ ·))(hx:Bb t.data.toList=(Bb r.data.toList).map (x:: ·)):Bb s.data.toList=(Bb r.data.toList).map ((ts++[x])++ ·):=by
 rw[h,hx];cases Bb r.data.toList<;>simp
theorem oA(s:vD)(w:World)(hs:s.size<=maxLen):
 Calls prog 63 #[.string s] w fun e w'=>∃v b ts,e=.returned (.tuple #[v,.bool b])/\vE w w'/\w'.ownsRow w.heap.size 103 3 v ts.length (IU ts)/\Af s=(if b=true then some ts else none)/\(b=false->ts=[]/\v=.slice none 0 0):=by
 unfold maxLen at hs;by_cases hbig:4000<s.size
 ·go_enter func63,ntmps63
  go_wp2_with fail;go_ret2;exact⟨_,_,[],rfl,tM _ _,uA _ _ _ _,by simp[Af,hbig],fun _=>⟨rfl,rfl⟩⟩
 obtain⟨i0,hi,hz0,hz1,hz2⟩:=info_parts info103;go_enter func63,ntmps63;go_wp2_with fail;refine(XL s _ (by omega)).mono ?_;rintro e w1 ⟨t0,rfl,hcl,htz,hlx,hb0⟩;have HC:=Aa hcl;have HL:=Aa hlx;have HB:=Aa hb0;clear hcl hlx hb0;go_wp2_with fail
 go_loopw [4,5] (fun v i wr=>∃(t:vD) (ts:List Tk),i=.string t/\Oc t/\t.size<=s.size/\wr.ownsRow w.heap.size 103 3 v ts.length (IU ts)/\ts.length<=800/\vE w wr/\Bb s.data.toList=(Bb t.data.toList).map (ts++ ·)) (fun _ i _=>Si i)
 case atStart=>exact⟨t0,[],rfl,HC.o,htz,uA _ _ _ _,by simp,HB.o,by rw[HL.o];simp⟩
 case round=>
  obtain⟨t,ts,rfl,hcl,htz,hown,htl,hbel,hrr⟩:=hrel;have HR:=Aa hrr;have HC:=Aa hcl;clear hrr hcl;have hwsz:=hbel.size;by_cases h0:0<t.size
  ·have hne:=VV t h0
   cases hx:Br t.data.toList with
   |none=>
    have HX:=Aa (show Dd (Br t.data.toList)=.tuple #[.agg #[.int .i64 0,.string ⟨#[]⟩,.int .i64 0],.int .i64 0]from by rw[hx];rfl);have HE:=Aa (show Af s=none from aK s (by rw[HR.o,iM t h0 HC.o hx];rfl));clear hx;go_wp2_with fail;refine(QC t _ _ h0 (by omega) HX.o).mono ?_;rintro e w2 ⟨rfl,hb2⟩;have hb3:=hbel.trans (hb2.mono hwsz);have hs3:=hb3.size;clear hb2;go_wp2_with fail;go_ret2;exact⟨_,_,[],rfl,hb3.alloc hs3 _,uA _ _ _ _,by rw[HE.o];simp,fun _=>⟨rfl,rfl⟩⟩
   |some y=>
    obtain⟨x,m⟩:=y;have hsz:=Oz _ _ hx;simp only at hsz;have hm0:0<m:=hsz.1;have hm1:m<=t.size:=hsz.2;have hm2:((m:Int)==0)=false:=by simp;omega
    have HX:=Aa (show Dd (Br t.data.toList)=.tuple #[.agg #[.int .i64 x.k,.string x.s,.int .i64 x.n],.int .i64 m]from by rw[hx];rfl);have HT:=Aa (iO t x m h0 HC.o hx);clear hx hsz;obtain⟨a0,cap,hv⟩:=An hown;subst hv;by_cases h8:ts.length=800
    ·have h8':((ts.length:Int)==800)=true:=by simp;omega
     have HE:=Aa (aJ s t ts x _ HR.o HT.o h8);clear h8;go_wp2_with fail;refine(QC t _ _ h0 (by omega) HX.o).mono ?_;rintro e w2 ⟨rfl,hb2⟩;have hb3:=hbel.trans (hb2.mono hwsz);have hs3:=hb3.size;clear hb2;go_wp2_with fail;go_ret2;exact⟨_,_,[],rfl,hb3.alloc hs3 _,uA _ _ _ _,by rw[HE.o];simp,fun _=>⟨rfl,rfl⟩⟩
    ·have h8':((ts.length:Int)==800)=false:=by simp;omega
     go_wp2_with fail;refine(QC t _ _ h0 (by omega) HX.o).mono ?_;rintro e w2 ⟨rfl,hb2⟩;have hb3:=hbel.trans (hb2.mono hwsz);have hs3:=hb3.size;have vM:=AT hown hb2;have hlt2:=hown.lt;clear hb2;go_wp2_with (at_builtin;refine wpList_append_own _ rfl _ _ 151 rfl w.heap.size 103 i0 _ 3 32 underlying151 hi hz0 hz1 hz2 rfl (by decide) _ _ _ rfl ((vM.alloc _).alloc _) ⟨w2.heap.size+1,0,none⟩ 1 1 [.int .i64 x.k,.string x.s,.int .i64 x.n] rfl rfl (Cs _ _ _ _ (by simp)) (mD rfl rfl rfl) (by unfold maxLen;omega) (by omega) (by simp;omega) ?_;intro v' w3 hown' hgrow _);have wX:vE w w3:=Below.grown ((hb3.alloc hs3 _).alloc (by simp;omega) _) hgrow (by simp;omega) (fun k hk=>(hlt2 k hk).1);have wC:w3.ownsRow w.heap.size 103 3 v' (ts++[x]).length (IU (ts++[x])):=by
      rw[oB,uE];exact hown'
     have HN:=Aa (qD s t _ ts x HR.o HT.o);clear hown' hgrow hown vM hb3 hbel;refine(XL _ _ (by simp;omega)).mono ?_;rintro e w4 ⟨t2,rfl,hcl2,htz2,hlx2,hb4⟩;have HC2:=Aa hcl2;have HL2:=Aa hlx2;have htz3:t2.size<t.size:=by simp at htz2;omega
     have wG:=AT wC hb4;have hb5:=wX.trans (hb4.mono wX.size);clear hcl2 hlx2 htz2 hb4;go_wp2_with fail
     go_roundw
     case rel=>exact⟨t2,ts++[x],rfl,HC2.o,by omega,wG,by simp;omega,hb5,by rw[HN.o,HL2.o]⟩
     case measure=>simp only[Ld];omega
  ·have hne:=TQ t h0
   have HE:=Aa (show Af s=some ts from aT s ts hbig (by rw[HR.o,tZ (show t.data.toList.length=0 by show t.size=0;omega)];simp[iU]) htl);go_wp2_with fail;go_ret2;exact⟨_,_,ts,rfl,hbel,hown,by rw[HE.o];rfl,fun h=>by cases h⟩
def Ku(w:World)(v:Value)(G:Nat)(l:List Tk):Prop:=(l=[]/\∃a cap,v=.slice a 0 cap)\/∃off cap cur,v=.slice (some ⟨G,off,none⟩) l.length cap/\l.length<=cap/\w.heap[G]?=some (.cells cur 103 (0,0))/\(cur.toList.drop off).take (l.length*3)=IU l
structure PS(w:World)(b G:Nat)(s:St):Prop where
 st:∃v,w.heap[b]?=some (.cells #[v,.bool s.isNone] 155 (0,0))/\Ku w v G (s.getD [])/\(s=none->v=.slice none 0 0)
 len:ln s<=801
 wf:∀t∈s.getD [],KU t
 glt:G<w.heap.size
def Cf(s:St):Bool:=(s.getD []).isEmpty
theorem Ku.move{w w':World}{v:Value}{G:Nat}{l:List Tk}(h:Ku w v G l)(hb:w'.heap[G]?=w.heap[G]?):Ku w' v G l:=by
 rcases h with h|⟨off,cap,cur,h1,h1',h2,h3⟩
 ·exact Or.inl h
 ·exact Or.inr ⟨off,cap,cur,h1,h1',by rw[hb];exact h2,h3⟩
theorem Ku.slice{w:World}{v:Value}{G:Nat}{l:List Tk}(h:Ku w v G l):∃a cap,v=.slice a l.length cap:=by
 rcases h with⟨rfl,a,cap,h⟩|⟨off,cap,cur,h1,_⟩
 ·exact⟨a,cap,h⟩
 ·exact⟨_,_,h1⟩
theorem PS.lt{w:World}{b G:Nat}{s:St}(h:PS w b G s):b<w.heap.size:=by
 obtain⟨v,h1,_⟩:=h.st;exact Ab h1
theorem PS.ty{w:World}{b G:Nat}{s:St}(h:PS w b G s):∃cs,w.heap[b]?=some (.cells cs 155 (0,0)):=by
 obtain⟨v,h1,_⟩:=h.st;exact⟨_,h1⟩
theorem PS.move{X Y:World}{b G:Nat}{s:St}(hX:PS X b G s)(hb:Y.heap[b]?=X.heap[b]?)(hG:Y.heap[G]?=X.heap[G]?)(hs:X.heap.size<=Y.heap.size):PS Y b G s:=by
 obtain⟨v,h1,h2,h3⟩:=hX.st;exact⟨⟨v,by rw[hb];exact h1,h2.move hG,h3⟩,hX.len,hX.wf,tV hX.glt hs⟩
theorem PS.below{w w':World}{b G:Nat}{s:St}(h:PS w b G s)(hb:vE w w'):PS w' b G s:=
 h.move (hb.block b h.lt) (hb.block G h.glt) hb.size
theorem PS.keep{w w':World}{b G F:Nat}{s:St}(h:PS w b G s)(hk:Ag F w w')(h1:b≠F)(h2:G≠F):PS w' b G s:=
 h.move (hk.block b h.lt h1) (hk.block G h.glt h2) hk.size
theorem PS.alloc{w:World}{b G:Nat}{s:St}(h:PS w b G s)(o:Obj):PS (w.alloc o) b G s:=h.below ((tM _ _).alloc (tL _) _)
theorem PS.set{w:World}{b G F:Nat}{s:St}(h:PS w b G s)(h1:b≠F)(h2:G≠F)(i:Nat)(v:Value):PS (w.setCell ⟨F,i,none⟩ v) b G s:=
 h.keep ((Ag.refl F w).setCell i v) h1 h2
theorem Jq(w:World)(b G:Nat)(s:St)(h:PS w b G s):
 Calls prog 34 #[.pointer (some ⟨b,0,none⟩)] w fun e w'=>e=.returned (.bool (Cf s))/\w'=w:=by
 obtain⟨v,h1,h2,h3⟩:=h.st;obtain⟨a,cap,rfl⟩:=h2.slice;have c0:w.cell? ⟨b,0,none⟩=some (.slice a (s.getD []).length cap):=Ac h1 0;have HQ:=Aa (show Cf s=decide ((s.getD []).length=0)from by unfold Cf;cases s.getD []<;>simp);clear h1 h2 h3;generalize (s.getD []).length=n at*;by_cases hn:n=0
 ·have t:((n:Int)==0)=true:=by simp;omega
  go_enter func34,ntmps34
  go_wp2
  go_ret;exact⟨Ak (by rw[HQ.o,uH hn]),rfl⟩
 ·have t:((n:Int)==0)=false:=by simp;omega
  go_enter func34,ntmps34
  go_wp2
  go_ret;exact⟨Ak (by rw[HQ.o,tT hn]),rfl⟩
def Eb(s:St):Bool:=Cf s&&!s.isNone
theorem MQ(w:World)(b G:Nat)(s:St)(h:PS w b G s):
 Calls prog 35 #[.pointer (some ⟨b,0,none⟩)] w fun e w'=>e=.returned (.bool (Eb s))/\w'=w:=by
 have hc:=Jq w b G s h;obtain⟨v,h1,h2,h3⟩:=h.st;have c1:w.cell? ⟨b,1,none⟩=some (.bool s.isNone):=Ac h1 1;have HQ:=Aa (show Eb s=(Cf s&&!s.isNone)from rfl);clear h1 h2 h3;generalize s.isNone=q1 at*;cases hq:Cf s
 ·rw[hq]at hc
  go_enter func35,ntmps35;go_wp2_with fail;refine hc.mono ?_;rintro e w' ⟨rfl,rfl⟩;go_wp2_with fail;go_ret;exact⟨Ak (by rw[HQ.o,hq];rfl),rfl⟩
 ·rw[hq]at hc
  go_enter func35,ntmps35;go_wp2_with fail;refine hc.mono ?_;rintro e w' ⟨rfl,rfl⟩;go_wp2_with fail;go_ret;exact⟨Ak (by rw[HQ.o,hq];simp),rfl⟩
theorem PS.failed{w:World}{b G:Nat}{s:St}(h:PS w b G s):PS ((w.setCell ⟨b,0,none⟩ (.slice none 0 0)).setCell ⟨b,1,none⟩ (.bool true)) b G none:=by
 obtain⟨v,h1,h2,h3⟩:=h.st;refine⟨⟨.slice none 0 0,?_,Or.inl ⟨rfl,_,_,rfl⟩,fun _=>rfl⟩,by simp[ln],fun t ht=>by simp at ht,by simpa [World.setCell]using h.glt⟩;rw[AI (AI h1 0 _) 1 _];rfl
theorem FO(w:World)(b G:Nat)(s:St)(h:PS w b G s):
 Calls prog 68 #[.pointer (some ⟨b,0,none⟩)] w fun e w'=>e=.returned (.tuple #[])/\PS w' b G none/\Ag b w w':=by
 have HF:=Aa h.failed;obtain⟨v,h1,h2,h3⟩:=h.st;obtain⟨a,cap,rfl⟩:=h2.slice;have c0:w.cell? ⟨b,0,none⟩=some (.slice a (s.getD []).length cap):=Ac h1 0;have c1:w.cell? ⟨b,1,none⟩=some (.bool s.isNone):=Ac h1 1;have f0:=Am h1 0;have f1:=Am h1 1;clear h1 h2 h3 h;go_enter func68,ntmps68;go_wp2_with fail;go_end0;exact⟨rfl,HF.o,((Ag.refl b w).setCell 0 _).setCell 1 _⟩
theorem WJ{w:World}{v:Value}{g:Nat}{t:Tk}{l:List Tk}(h:Ku w v g (t::l)):∃off cap cur,v=.slice (some ⟨g,off,none⟩) (l.length+1) cap/\l.length+1<=cap/\w.heap[g]?=some (.cells cur 103 (0,0))/\w.cell? ⟨g,off,none⟩=some (.int .i64 t.k)/\w.cell? ⟨g,off+1,none⟩=some (.string t.s)/\w.cell? ⟨g,off+2,none⟩=some (.int .i64 t.n)/\(cur.toList.drop (off+3)).take (l.length*3)=IU l:=by
 rcases h with⟨e,_⟩|⟨off,cap,cur,h1,h1',h2,h3⟩
 ·cases e
 ·refine⟨off,cap,cur,h1,h1',h2,?_⟩
  have e:IU (t::l)=.int .i64 t.k::.string t.s::.int .i64 t.n::IU l:=rfl;rw[e,uQ,show(l.length+1)*3=l.length*3+1+1+1 by omega]at h3;have key:∀j,(cur.toList.drop off)[j]?=cur[off+j]?:=fun j=>by rw[List.getElem?_drop];simp
  have g0:cur[off+0]?=some (.int .i64 t.k):=by
   rw[<-key 0];have:=congrArg (fun x=>x[0]?) h3;simpa [List.getElem?_take]using this
  have g1:cur[off+1]?=some (.string t.s):=by
   rw[<-key 1];have:=congrArg (fun x=>x[1]?) h3;simpa [List.getElem?_take]using this
  have g2:cur[off+2]?=some (.int .i64 t.n):=by
   rw[<-key 2];have:=congrArg (fun x=>x[2]?) h3;simpa [List.getElem?_take]using this
  refine⟨by rw[Ac h2];exact g0,by rw[Ac h2];exact g1,by rw[Ac h2];exact g2,?_⟩;have:=congrArg (fun x=>x.drop 3) h3;simp only[List.drop_take,List.drop_drop]at this;simpa using this
theorem Pb(w:World)(b G:Nat)(s:St)(h:PS w b G s):
 Calls prog 70 #[.pointer (some ⟨b,0,none⟩)] w fun e w'=>e=.returned (.agg #[.int .i64 (hd s).k,.string (hd s).s,.int .i64 (hd s).n])/\vE w w':=by
 have hlt:=h.lt;have hc:=Jq (w.alloc (.cells #[.int .i64 0,.string ⟨#[]⟩,.int .i64 0] 103)) b G s (h.below ((tM _ _).alloc (tL _) _));obtain⟨v,h1,h2,h3⟩:=h.st
 match s,h1,h2,h3,hc with
 |none,h1,h2,h3,hc=>
  clear h h1 h2 h3;go_enter func70,ntmps70;go_wp2_with fail;refine hc.mono ?_;rw[show Cf none=true from rfl];rintro e w' ⟨rfl,rfl⟩;go_wp2_with fail;exact bodyPost_ret (v:=.agg #[.int .i64 0,.string ⟨#[]⟩,.int .i64 0]) (by simp[results,results70,go_sem]) rfl ⟨rfl,(tM _ _).alloc (tL _) _⟩
 |some [],h1,h2,h3,hc=>
  clear h h1 h2 h3;go_enter func70,ntmps70;go_wp2_with fail;refine hc.mono ?_;rw[show Cf (some [])=true from rfl];rintro e w' ⟨rfl,rfl⟩;go_wp2_with fail;exact bodyPost_ret (v:=.agg #[.int .i64 0,.string ⟨#[]⟩,.int .i64 0]) (by simp[results,results70,go_sem]) rfl ⟨rfl,(tM _ _).alloc (tL _) _⟩
 |some (t::l),h1,h2,h3,hc=>
  obtain⟨off,cap,cur,rfl,hcap,hg,d0,d1,d2,_⟩:=WJ h2;have c0:w.cell? ⟨b,0,none⟩=some (.slice (some ⟨G,off,none⟩) (l.length+1) cap):=Ac h1 0;have hgl:=Ab hg;show Calls _ _ _ _ fun e w'=>e=.returned (.agg #[.int .i64 t.k,.string t.s,.int .i64 t.n])/\vE w w';clear h h1 h2 h3 hg;go_enter func70,ntmps70;go_wp2_with fail;refine hc.mono ?_;rw[show Cf (some (t::l))=false from rfl];rintro e w' ⟨rfl,rfl⟩;go_wp2_with fail;exact bodyPost_ret (v:=.agg #[.int .i64 t.k,.string t.s,.int .i64 t.n]) (by simp[results,results70,go_sem]) rfl ⟨rfl,(tM _ _).alloc (tL _) _⟩
end Go.Proofs.YtadneapobijejaaGreatDoor
