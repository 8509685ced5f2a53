import Derived.Test.YtogdodlibkckkaaGreatDoorZ03
import Derived.Test.YtogdodlibkckkaaGreatDoorZ02
import Derived.Lib.Strings
import Derived.Lib.Walk
import Derived.Lib.BufferWrite
import Derived.Lib.UnsafeStr
import Derived.Lib.Hide
import Derived.Laws.MakeOwn
namespace Go.Proofs.YtogdodlibkckkaaGreatDoor
set_option maxHeartbeats 20000000
set_option maxRecDepth 100000
open Go.RowKit Tryz
theorem cinfo5:(prog.info? 5).map (fun i=>(i.zero,i.size,i.bytes))=some (some (.int .u8 0),1,1):=by kernel_rfl
theorem mG(s:yF)(w:World)(hs:s.size<=2000000):
 Calls prog 189 #[.string s] w fun e w'=>e=.returned (.string s)/\yG w w':=by
 by_cases h:s.size=0
 ·have v:s=⟨#[]⟩:=by
   apply ByteArray.ext;exact Array.eq_empty_of_size_eq_zero h
  subst v;go_enter func189,ntmps189
  go_wp2
  go_ret;exact⟨rfl,wR _ _⟩
 ·obtain⟨m,d,B,f,C⟩:=info_parts cinfo5
  have y:(prog.info? 5).map (·.size)=some 1:=by rw[d];simp[f]
  have t:prog.cellsOf 5=1:=by simp[Program.cellsOf,d,f]
  obtain⟨a,b⟩:∃a,a=madeCells (Value.int .u8 0).cells (((s.size:Nat):Int).toNat*m.size):=⟨_,rfl⟩;have D:a.size=s.size:=by rw[b,size_madeCells,f];simp
  have G:∀W:World,(Instr.makeSlice 69 (.int .i64 (s.size:Int)) (.int .i64 (s.size:Int))).run prog W=.ok (.slice (some ⟨W.heap.size,0,none⟩) s.size s.size) (W.alloc (.cells a 5)):=fun W=>by
   have g:=run_make (P:=prog) W 69 5 m (.int .u8 0) underlying69 d B .i64 .i64 (s.size:Int) (s.size:Int) (by omega) (by omega) (by rw[C];omega) (by omega);rw[<-b]at g;simpa using g
  clear b;have u:=Lib.run_copy_row_string (P:=prog) (w.alloc (.cells a 5)) 69 9 3 5 w.heap.size 0 s.size s.size s a 5 underlying69 y (wX w _) (wQ _) (by omega);obtain⟨Y,c⟩:∃Y,Y=(a.toList.take 0++Lib.byteCells s.data.toList++a.toList.drop (0+s.size)).toArray:=⟨_,rfl⟩;rw[<-c]at u;have i:Y.toList=Lib.byteCells s.data.toList:=by
   rw[c,List.toList_toArray,List.take_zero,List.nil_append,xW (by rw[Array.length_toList];omega),List.append_nil]
  have E:Y.size=s.size:=by rw[<-Array.length_toList,i,Lib.byteCells_length,<-Lib.size_eq]
  have l:((w.alloc (.cells a 5)).setRow w.heap.size Y).heap[w.heap.size]?=some (.cells Y 5 (0,0)):=setRow_heap _ _ a _ 5 (0,0) (wX w _);have z:s.data.toList≠[]:=fun e=>h (by rw[Lib.size_eq,e];rfl);have n:=Lib.run_unsafeString_row (P:=prog) ((w.alloc (.cells a 5)).setRow w.heap.size Y) 351 3 9 5 underlying351 t w.heap.size Y.size (by unfold World.shape?;rw[l]) s.data.toList z (by rw[<-Lib.size_eq];omega) (by rw[<-Lib.size_eq];omega)
   (fun j x A=>Lib.cells_of_row l Y.size j _ (by rw[xB (by rw[Array.length_toList];exact wQ _),i];simp[Lib.byteCells,A]))
  rw[<-Lib.size_eq]at n;clear c;go_enter func189,ntmps189
  go_wp2
  go_ret;have q:yG w (w.alloc (.cells a 5)):=(wR _ w).alloc (wQ _) _;have r:Below w.heap.size (w.alloc (.cells a 5)) ((w.alloc (.cells a 5)).setRow w.heap.size Y):=⟨rfl,rfl,rfl,by simp,fun k F=>setRow_other _ _ _ _ (by omega)⟩;exact⟨rfl,Lib.below_freeze (q.trans r) (p:=⟨w.heap.size,0,none⟩) (wQ _) _⟩
theorem Re(s:yF)(w:World)(hs:s.size<=2000000):
 Calls prog 141 #[.string s] w fun e w'=>e=.returned (.string s)/\yG w w':=by
 have b:=mG s w hs;go_enter func141,ntmps141;go_wp2_with fail;refine b.mono ?_;rintro e w1 ⟨rfl,a⟩;go_wp2;go_ret;exact⟨rfl,a⟩
def Dm:Option (Tk×Nat)->Value
 |none=>.tuple #[.agg #[.int .i64 0,.string ⟨#[]⟩,.int .i64 0],.int .i64 0]
 |some (t,k)=>.tuple #[.agg #[.int .i64 t.k,.string t.s,.int .i64 t.n],.int .i64 k]
theorem PH(s:yF)(x:Value)(w:World)(a:0<s.size)(hs:s.size<=100000)(b:Ca (BJ s.data.toList)=x):
 Calls prog 199 #[.string s] w fun e w'=>e=.returned x/\yG w w':=by
 subst b;exact oV s w a hs
theorem Ym(s:yF)(x:Value)(w:World)(a:0<s.size)(hs:s.size<=100000)(b:Gg (Cm (s.data.toList.drop 1) [] 1)=x):
 Calls prog 202 #[.string s] w fun e w'=>e=.returned x/\yG w w':=by
 subst b;exact sA s w a hs
theorem Rj(c:UInt8):Ar Gx c=(Ar AP c||decide (c=45)):=by
 have a:∀i:Fin 256,Ar Gx (UInt8.ofFin i)=(Ar AP (UInt8.ofFin i)||decide (UInt8.ofFin i=45)):=by decide+kernel
 exact a c.toFin
theorem UL(c:UInt8)(a:Ar Gx c=true):Ar DK c=false:=by
 have k:∀i:Fin 256,Ar Gx (UInt8.ofFin i)=true->Ar DK (UInt8.ofFin i)=false:=by decide+kernel
 exact k c.toFin a
theorem ST:∀(l:List UInt8) (c:UInt8) (n:Nat),GJ l c n=if Lib.indexByte l c= -1 then none else some (n+(Lib.indexByte l c).toNat)
 |[],_,_=>rfl
 |d::l,c,n=>by
  by_cases a:d=c
  ·subst a;simp[GJ,Lib.indexByte]
  ·have:=Lib.indexByte_ge l c
   rw[GJ,xG a,ST l c (n+1)];have e:Lib.indexByte (d::l) c=if Lib.indexByte l c== -1 then -1 else Lib.indexByte l c+1:=by
    rw[Lib.indexByte,xG (by simpa using a)]
   rw[e];by_cases b:Lib.indexByte l c= -1
   ·simp[b]
   ·have f:(Lib.indexByte l c== -1)=false:=by simpa using b
    rw[xG b,f,xG (by simp;omega)];congr 1;simp;omega
def KY(s:yF):Bool:=decide (s.data.toList.take 3=[46,46,46])
theorem Sv(s:yF)(w:World)(hs:s.size<=100000):
 Calls prog 203 #[.string s,.string ⟨#[46,46,46]⟩] w fun e w'=>e=.returned (.bool (KY s))/\w'=w:=by
 by_cases g:3<=s.size
 ·have d:3<=(s.size:Int):=by omega
  have b:=uR s 0;rw[Nat.zero_add]at b;have a:=Aa (show((s.extract 0 3).toList==[46,46,46])=KY s from b);clear b;cases c:((s.extract 0 3).toList==[46,46,46])
  ·go_enter func203,ntmps203
   go_wp2
   go_ret;exact⟨Al (by rw[<-a.o,c]),rfl⟩
  ·go_enter func203,ntmps203
   go_wp2
   go_ret;exact⟨Al (by rw[<-a.o,c]),rfl⟩
 ·have d:¬3<=(s.size:Int):=by omega
  have a:=Aa (show KY s=false from by unfold KY;rw[decide_eq_false_iff_not];intro e;have:=congrArg List.length e;simp at this;have f:s.data.size=s.size:=rfl;omega);go_enter func203,ntmps203
  go_wp2
  go_ret;exact⟨Al (by rw[a.o]),rfl⟩
theorem UM(s:yF):s.data.toList.drop 0=s.data.toList:=rfl
theorem Vu:∀(l:List UInt8) (c:UInt8),Lib.indexByte l c<l.length
 |[],_=>by simp[Lib.indexByte]
 |d::l,c=>by
  have:=Vu l c;have:=Lib.indexByte_ge l c;unfold Lib.indexByte;split
  ·simp only[xU];omega
  split<;>(simp only[xU];omega)
theorem gK(s:yF)(w:World)(r:0<s.size)(hs:s.size<=100000):
 Calls prog 150 #[.string s] w fun e w'=>e=.returned (Dm (Bm s.data.toList))/\yG w w':=by
 generalize R:Dm (Bm s.data.toList)=q;have u:=Aa R;clear R;cases G:Ar AP s[0]
 ·cases O:((s[0].toNat:Int)==45)
  ·have K:=Aa (show Ar Gx s[0]=false from by rw[Rj,G];simpa [OH]using O)
   have M:=Qv s[0];rw[G,Bool.false_or]at M;cases C:Ar DK s[0]
   ·rw[C]at M
    cases J:((s[0].toNat:Int)==34)
    ·have N:=Aa (show¬s[0]=34 from by intro e;rw[e]at J;simp at J)
     cases A:KY s
     ·have F:=Aa A
      have T:=Aa (show¬(s.data.toList.drop 0).take 3=[46,46,46]from by simpa [KY]using A);clear A;have d:=Aa (lB s 0 r C K.o N.o T.o);have P:=Lib.indexByte_ge Du.data.toList s[0];by_cases E:Lib.indexByte Du.data.toList s[0]= -1
      ·have f:=Aa (show Bm s.data.toList=none from by have:=d.o;rw[UM]at this;rw[this,ST,xH E];rfl)
       have I:=Aa E;clear E P;go_enter func150,ntmps150;go_wp2_with fail;refine(Do _ _).mono ?_;rintro e w' ⟨rfl,rfl⟩;go_wp2_with fail;refine(Kl _ _).mono ?_;rintro e w' ⟨rfl,rfl⟩;go_wp2_with fail;refine(Sv s _ hs).mono ?_;rw[F.o];rintro e w' ⟨rfl,rfl⟩;go_wp2_with fail;refine(YH Du s[0] _).mono ?_;rw[I.o];rintro e w' ⟨rfl,rfl⟩;go_wp2;refine bodyPost_ret (v:=Dm (none)) (by simp[results,results150,go_sem,Dm]) rfl ⟨by rw[<-u.o,f.o],(wR _ _).alloc (wQ _) _⟩
      ·obtain⟨i,H⟩:∃i:Nat,Lib.indexByte Du.data.toList s[0]=i:=⟨(Lib.indexByte Du.data.toList s[0]).toNat,by omega⟩
       have f:=Aa (show Bm s.data.toList=some (⟨5+i,⟨#[]⟩,0⟩,1)from by have:=d.o;rw[UM]at this;rw[this,ST,xG E,H];rfl);have L:=Vu Du.data.toList s[0];rw[H]at L;have W:(i:Int)<13:=L;have I:=Aa H;clear E P H L;go_enter func150,ntmps150;go_wp2_with fail;refine(Do _ _).mono ?_;rintro e w' ⟨rfl,rfl⟩;go_wp2_with fail;refine(Kl _ _).mono ?_;rintro e w' ⟨rfl,rfl⟩;go_wp2_with fail;refine(Sv s _ hs).mono ?_;rw[F.o];rintro e w' ⟨rfl,rfl⟩;go_wp2_with fail;refine(YH Du s[0] _).mono ?_;rw[I.o];rintro e w' ⟨rfl,rfl⟩;go_wp2;refine bodyPost_ret (v:=Dm (some (⟨5+i,⟨#[]⟩,0⟩,1))) (by simp[results,results150,go_sem,Dm]) rfl ⟨by rw[<-u.o,f.o],(wR _ _).alloc (wQ _) _⟩
     ·have F:=Aa A
      have d:=Aa (show Bm s.data.toList=some (⟨4,⟨#[]⟩,0⟩,3)from kY s 0 r C K.o N.o (by simpa [KY]using A));clear A;go_enter func150,ntmps150;go_wp2_with fail;refine(Do _ _).mono ?_;rintro e w' ⟨rfl,rfl⟩;go_wp2_with fail;refine(Kl _ _).mono ?_;rintro e w' ⟨rfl,rfl⟩;go_wp2_with fail;refine(Sv s _ hs).mono ?_;rw[F.o];rintro e w' ⟨rfl,rfl⟩;go_wp2;refine bodyPost_ret (v:=Dm (some (⟨4,⟨#[]⟩,0⟩,3))) (by simp[results,results150,go_sem,Dm]) rfl ⟨by rw[<-u.o,d.o],(wR _ _).alloc (wQ _) _⟩
    ·have d:=Aa (show Bm s.data.toList=(Cm (s.data.toList.drop 1) [] 1).map fun x=>(⟨3,Az x.1,0⟩,x.2)from lD s 0 r C K.o (Fa (by simpa using J)))
     cases c:Cm (s.data.toList.drop 1) [] 1 with
     |none=>
      have t:=Aa (show Gg (Cm (s.data.toList.drop 1) [] 1)=.tuple #[.agg #[.int .i64 0,.string ⟨#[]⟩,.int .i64 0],.int .i64 0]from by rw[c];rfl);have f:=Aa (show Bm s.data.toList=none from by rw[d.o,c];rfl);clear c;go_enter func150,ntmps150;go_wp2_with fail;refine(Do _ _).mono ?_;rintro e w' ⟨rfl,rfl⟩;go_wp2_with fail;refine(Kl _ _).mono ?_;rintro e w' ⟨rfl,rfl⟩;go_wp2_with fail;refine(Ym s _ _ r hs t.o).mono ?_;rintro e w1 ⟨rfl,a⟩;have b:∀j,w1.cell? ⟨w.heap.size,j,none⟩=(w.alloc Bp).cell? ⟨w.heap.size,j,none⟩:=fun j=>a.cell (by simp);have B:∀j,w1.frozen? ⟨w.heap.size,j,none⟩=false:=fun j=>by rw[a.frozen (by simp)];exact Iz w _ j
      have g:w1.cell? ⟨w.heap.size,0,none⟩=some (.int .i64 0):=by rw[b];simp[Bp]
      have h:w1.cell? ⟨w.heap.size,1,none⟩=some (.string ⟨#[]⟩):=by rw[b];simp[Bp]
      have k:w1.cell? ⟨w.heap.size,2,none⟩=some (.int .i64 0):=by rw[b];simp[Bp]
      clear b;have p:yG w w1:=((wR _ _).alloc (wQ _) _).trans (a.mono (by simp));clear a;have n:∀x y z,yG w (((w1.setCell ⟨w.heap.size,0,none⟩ x).setCell ⟨w.heap.size,1,none⟩ y).setCell ⟨w.heap.size,2,none⟩ z):=fun x y z=>((p.setCell (wQ _) x).setCell (wQ _) y).setCell (wQ _) z;go_wp2;refine bodyPost_ret (v:=Dm (none)) (by simp[results,results150,go_sem,Dm,g,h,k]) rfl ⟨by rw[<-u.o,f.o],n _ _ _⟩
     |some x=>
      obtain⟨l,m⟩:=x;have t:=Aa (show Gg (Cm (s.data.toList.drop 1) [] 1)=.tuple #[.agg #[.int .i64 3,.string (Az l),.int .i64 0],.int .i64 m]from by rw[c];rfl);have f:=Aa (show Bm s.data.toList=some (⟨3,Az l,0⟩,m)from by rw[d.o,c];rfl);clear c;generalize Az l=V at*;go_enter func150,ntmps150;go_wp2_with fail;refine(Do _ _).mono ?_;rintro e w' ⟨rfl,rfl⟩;go_wp2_with fail;refine(Kl _ _).mono ?_;rintro e w' ⟨rfl,rfl⟩;go_wp2_with fail;refine(Ym s _ _ r hs t.o).mono ?_;rintro e w1 ⟨rfl,a⟩;have b:∀j,w1.cell? ⟨w.heap.size,j,none⟩=(w.alloc Bp).cell? ⟨w.heap.size,j,none⟩:=fun j=>a.cell (by simp);have B:∀j,w1.frozen? ⟨w.heap.size,j,none⟩=false:=fun j=>by rw[a.frozen (by simp)];exact Iz w _ j
      have g:w1.cell? ⟨w.heap.size,0,none⟩=some (.int .i64 0):=by rw[b];simp[Bp]
      have h:w1.cell? ⟨w.heap.size,1,none⟩=some (.string ⟨#[]⟩):=by rw[b];simp[Bp]
      have k:w1.cell? ⟨w.heap.size,2,none⟩=some (.int .i64 0):=by rw[b];simp[Bp]
      clear b;have p:yG w w1:=((wR _ _).alloc (wQ _) _).trans (a.mono (by simp));clear a;have n:∀x y z,yG w (((w1.setCell ⟨w.heap.size,0,none⟩ x).setCell ⟨w.heap.size,1,none⟩ y).setCell ⟨w.heap.size,2,none⟩ z):=fun x y z=>((p.setCell (wQ _) x).setCell (wQ _) y).setCell (wQ _) z;go_wp2;refine bodyPost_ret (v:=Dm (some (⟨3,V,0⟩,m))) (by simp[results,results150,go_sem,Dm,g,h,k]) rfl ⟨by rw[<-u.o,f.o],n _ _ _⟩
   ·rw[C]at M
    have d:=Aa (show Bm s.data.toList=some (⟨1,s.extract 0 (Av s.data.toList AL),0⟩,Av s.data.toList AL)from by have:=lE s 0 r C;simpa using this);have U:=Kv s.data.toList AL;rw[Array.length_toList,show s.data.size=s.size from rfl]at U;generalize Q:Av s.data.toList AL=m at*;have S:=Aa Q;clear Q;go_enter func150,ntmps150;go_wp2_with fail;refine(Do _ _).mono ?_;rintro e w' ⟨rfl,rfl⟩;go_wp2_with fail;refine(Kl _ _).mono ?_;rintro e w' ⟨rfl,rfl⟩;go_wp2_with fail;refine(Tn s _ hs).mono ?_;rw[S.o];rintro e w' ⟨rfl,rfl⟩;go_wp2_with fail;refine(Re _ _ (by rw[ByteArray.size_extract];omega)).mono ?_;rintro e w1 ⟨rfl,a⟩;have b:∀j,w1.cell? ⟨w.heap.size,j,none⟩=(w.alloc Bp).cell? ⟨w.heap.size,j,none⟩:=fun j=>a.cell (by simp);have B:∀j,w1.frozen? ⟨w.heap.size,j,none⟩=false:=fun j=>by rw[a.frozen (by simp)];exact Iz w _ j
    have g:w1.cell? ⟨w.heap.size,0,none⟩=some (.int .i64 0):=by rw[b];simp[Bp]
    have h:w1.cell? ⟨w.heap.size,1,none⟩=some (.string ⟨#[]⟩):=by rw[b];simp[Bp]
    have k:w1.cell? ⟨w.heap.size,2,none⟩=some (.int .i64 0):=by rw[b];simp[Bp]
    clear b;have p:yG w w1:=((wR _ _).alloc (wQ _) _).trans (a.mono (by simp));clear a;have n:∀x y z,yG w (((w1.setCell ⟨w.heap.size,0,none⟩ x).setCell ⟨w.heap.size,1,none⟩ y).setCell ⟨w.heap.size,2,none⟩ z):=fun x y z=>((p.setCell (wQ _) x).setCell (wQ _) y).setCell (wQ _) z;go_wp2;refine bodyPost_ret (v:=Dm (some (⟨1,s.extract 0 m,0⟩,m))) (by simp[results,results150,go_sem,Dm,g,h,k]) rfl ⟨by rw[<-u.o,d.o],n _ _ _⟩
  ·have D:=Aa (show Ar Gx s[0]=true from by rw[Rj,G];simpa [OH]using O)
   have d:=Aa (show Bm s.data.toList=(BJ s.data.toList).map fun x=>(⟨2,⟨#[]⟩,x.1⟩,x.2)from VX s 0 r (UL _ D.o) D.o);cases c:BJ s.data.toList with
   |none=>
    have t:=Aa (show Ca (BJ s.data.toList)=.tuple #[.agg #[.int .i64 0,.string ⟨#[]⟩,.int .i64 0],.int .i64 0]from by rw[c];rfl);have f:=Aa (show Bm s.data.toList=none from by rw[d.o,c];rfl);clear c;go_enter func150,ntmps150;go_wp2_with fail;refine(Do _ _).mono ?_;rintro e w' ⟨rfl,rfl⟩;go_wp2_with fail;refine(PH s _ _ r hs t.o).mono ?_;rintro e w1 ⟨rfl,a⟩;have b:∀j,w1.cell? ⟨w.heap.size,j,none⟩=(w.alloc Bp).cell? ⟨w.heap.size,j,none⟩:=fun j=>a.cell (by simp);have B:∀j,w1.frozen? ⟨w.heap.size,j,none⟩=false:=fun j=>by rw[a.frozen (by simp)];exact Iz w _ j
    have g:w1.cell? ⟨w.heap.size,0,none⟩=some (.int .i64 0):=by rw[b];simp[Bp]
    have h:w1.cell? ⟨w.heap.size,1,none⟩=some (.string ⟨#[]⟩):=by rw[b];simp[Bp]
    have k:w1.cell? ⟨w.heap.size,2,none⟩=some (.int .i64 0):=by rw[b];simp[Bp]
    clear b;have p:yG w w1:=((wR _ _).alloc (wQ _) _).trans (a.mono (by simp));clear a;have n:∀x y z,yG w (((w1.setCell ⟨w.heap.size,0,none⟩ x).setCell ⟨w.heap.size,1,none⟩ y).setCell ⟨w.heap.size,2,none⟩ z):=fun x y z=>((p.setCell (wQ _) x).setCell (wQ _) y).setCell (wQ _) z;go_wp2;refine bodyPost_ret (v:=Dm (none)) (by simp[results,results150,go_sem,Dm,g,h,k]) rfl ⟨by rw[<-u.o,f.o],n _ _ _⟩
   |some x=>
    obtain⟨v,m⟩:=x;have t:=Aa (show Ca (BJ s.data.toList)=.tuple #[.agg #[.int .i64 2,.string ⟨#[]⟩,.int .i64 v],.int .i64 m]from by rw[c];rfl);have f:=Aa (show Bm s.data.toList=some (⟨2,⟨#[]⟩,v⟩,m)from by rw[d.o,c];rfl);clear c;go_enter func150,ntmps150;go_wp2_with fail;refine(Do _ _).mono ?_;rintro e w' ⟨rfl,rfl⟩;go_wp2_with fail;refine(PH s _ _ r hs t.o).mono ?_;rintro e w1 ⟨rfl,a⟩;have b:∀j,w1.cell? ⟨w.heap.size,j,none⟩=(w.alloc Bp).cell? ⟨w.heap.size,j,none⟩:=fun j=>a.cell (by simp);have B:∀j,w1.frozen? ⟨w.heap.size,j,none⟩=false:=fun j=>by rw[a.frozen (by simp)];exact Iz w _ j
    have g:w1.cell? ⟨w.heap.size,0,none⟩=some (.int .i64 0):=by rw[b];simp[Bp]
    have h:w1.cell? ⟨w.heap.size,1,none⟩=some (.string ⟨#[]⟩):=by rw[b];simp[Bp]
    have k:w1.cell? ⟨w.heap.size,2,none⟩=some (.int .i64 0):=by rw[b];simp[Bp]
    clear b;have p:yG w w1:=((wR _ _).alloc (wQ _) _).trans (a.mono (by simp));clear a;have n:∀x y z,yG w (((w1.setCell ⟨w.heap.size,0,none⟩ x).setCell ⟨w.heap.size,1,none⟩ y).setCell ⟨w.heap.size,2,none⟩ z):=fun x y z=>((p.setCell (wQ _) x).setCell (wQ _) y).setCell (wQ _) z;go_wp2;refine bodyPost_ret (v:=Dm (some (⟨2,⟨#[]⟩,v⟩,m))) (by simp[results,results150,go_sem,Dm,g,h,k]) rfl ⟨by rw[<-u.o,f.o],n _ _ _⟩
 ·have D:=Aa (show Ar Gx s[0]=true from by rw[Rj,G];rfl)
  have d:=Aa (show Bm s.data.toList=(BJ s.data.toList).map fun x=>(⟨2,⟨#[]⟩,x.1⟩,x.2)from VX s 0 r (UL _ D.o) D.o);cases c:BJ s.data.toList with
  |none=>
   have t:=Aa (show Ca (BJ s.data.toList)=.tuple #[.agg #[.int .i64 0,.string ⟨#[]⟩,.int .i64 0],.int .i64 0]from by rw[c];rfl);have f:=Aa (show Bm s.data.toList=none from by rw[d.o,c];rfl);clear c;go_enter func150,ntmps150;go_wp2_with fail;refine(Do _ _).mono ?_;rintro e w' ⟨rfl,rfl⟩;go_wp2_with fail;refine(PH s _ _ r hs t.o).mono ?_;rintro e w1 ⟨rfl,a⟩;have b:∀j,w1.cell? ⟨w.heap.size,j,none⟩=(w.alloc Bp).cell? ⟨w.heap.size,j,none⟩:=fun j=>a.cell (by simp);have B:∀j,w1.frozen? ⟨w.heap.size,j,none⟩=false:=fun j=>by rw[a.frozen (by simp)];exact Iz w _ j
   have g:w1.cell? ⟨w.heap.size,0,none⟩=some (.int .i64 0):=by rw[b];simp[Bp]
   have h:w1.cell? ⟨w.heap.size,1,none⟩=some (.string ⟨#[]⟩):=by rw[b];simp[Bp]
   have k:w1.cell? ⟨w.heap.size,2,none⟩=some (.int .i64 0):=by rw[b];simp[Bp]
   clear b;have p:yG w w1:=((wR _ _).alloc (wQ _) _).trans (a.mono (by simp));clear a;have n:∀x y z,yG w (((w1.setCell ⟨w.heap.size,0,none⟩ x).setCell ⟨w.heap.size,1,none⟩ y).setCell ⟨w.heap.size,2,none⟩ z):=fun x y z=>((p.setCell (wQ _) x).setCell (wQ _) y).setCell (wQ _) z;go_wp2;refine bodyPost_ret (v:=Dm (none)) (by simp[results,results150,go_sem,Dm,g,h,k]) rfl ⟨by rw[<-u.o,f.o],n _ _ _⟩
  |some x=>
   obtain⟨v,m⟩:=x;have t:=Aa (show Ca (BJ s.data.toList)=.tuple #[.agg #[.int .i64 2,.string ⟨#[]⟩,.int .i64 v],.int .i64 m]from by rw[c];rfl);have f:=Aa (show Bm s.data.toList=some (⟨2,⟨#[]⟩,v⟩,m)from by rw[d.o,c];rfl);clear c;go_enter func150,ntmps150;go_wp2_with fail;refine(Do _ _).mono ?_;rintro e w' ⟨rfl,rfl⟩;go_wp2_with fail;refine(PH s _ _ r hs t.o).mono ?_;rintro e w1 ⟨rfl,a⟩;have b:∀j,w1.cell? ⟨w.heap.size,j,none⟩=(w.alloc Bp).cell? ⟨w.heap.size,j,none⟩:=fun j=>a.cell (by simp);have B:∀j,w1.frozen? ⟨w.heap.size,j,none⟩=false:=fun j=>by rw[a.frozen (by simp)];exact Iz w _ j
   have g:w1.cell? ⟨w.heap.size,0,none⟩=some (.int .i64 0):=by rw[b];simp[Bp]
   have h:w1.cell? ⟨w.heap.size,1,none⟩=some (.string ⟨#[]⟩):=by rw[b];simp[Bp]
   have k:w1.cell? ⟨w.heap.size,2,none⟩=some (.int .i64 0):=by rw[b];simp[Bp]
   clear b;have p:yG w w1:=((wR _ _).alloc (wQ _) _).trans (a.mono (by simp));clear a;have n:∀x y z,yG w (((w1.setCell ⟨w.heap.size,0,none⟩ x).setCell ⟨w.heap.size,1,none⟩ y).setCell ⟨w.heap.size,2,none⟩ z):=fun x y z=>((p.setCell (wQ _) x).setCell (wQ _) y).setCell (wQ _) z;go_wp2;refine bodyPost_ret (v:=Dm (some (⟨2,⟨#[]⟩,v⟩,m))) (by simp[results,results150,go_sem,Dm,g,h,k]) rfl ⟨by rw[<-u.o,f.o],n _ _ _⟩
def XN(t:Tk):List Value:=[.int .i64 t.k,.string t.s,.int .i64 t.n]
def Ji(a:List Tk):List Value:=a.flatMap XN
theorem qW(a:List Tk)(t:Tk):Ji (a++[t])=Ji a++XN t:=by simp[Ji]
theorem Rt(s:yF)(x:Value)(w:World)(a:0<s.size)(hs:s.size<=100000)(b:Dm (Bm s.data.toList)=x):
 Calls prog 150 #[.string s] w fun e w'=>e=.returned x/\yG w w':=by
 subst b;exact gK s w a hs
theorem info174:(prog.info? 174).map (fun i=>(i.zero,i.size,i.bytes))=some (some (.agg #[.int .i64 0,.string ⟨#[]⟩,.int .i64 0]),3,32):=by kernel_rfl
theorem lU(t:yF)(b:0<t.size)(a:OK t)(e:Bm t.data.toList=none):Bf t.data.toList=none:=by
 rcases a with a|⟨f,c,d⟩
 ·omega
 ·exact lP t 0 b c d e
theorem lV(t:yF)(x:Tk)(m:Nat)(b:0<t.size)(a:OK t)(e:Bm t.data.toList=some (x,m)):Bf t.data.toList=(Bf (t.extract m t.size).data.toList).map (x:: ·):=by
 rcases a with a|⟨f,c,d⟩
 ·omega
 ·have:=lQ t 0 (x,m) b c d e
  simp only[Nat.zero_add]at this;rw[Ro,<-this];rfl
theorem dT(s t:yF)(a:List Tk)(x:Tk)(r:List UInt8)(b:Bf s.data.toList=(Bf t.data.toList).map (a++ ·))(c:Bf t.data.toList=(Bf r).map (x:: ·))(d:a.length=800):Ad s=none:=by
 unfold Ad;rw[b,c];split
 ·rfl
 ·cases Bf r with
  |none=>rfl
  |some l=>simp only[Option.map_some];rw[xG (by simp;omega)]
theorem dV(s:yF)(a:List Tk)(c:¬4000<s.size)(b:Bf s.data.toList=some a)(d:a.length<=800):Ad s=some a:=by
 unfold Ad;rw[xG c,b];simp only;rw[xH d]
theorem sU(s t r:yF)(a:List Tk)(x:Tk)(b:Bf s.data.toList=(Bf t.data.toList).map (a++ ·))(c:Bf t.data.toList=(Bf r.data.toList).map (x:: ·)):Bf s.data.toList=(Bf r.data.toList).map ((a++[x])++ ·):=by
 rw[b,c];cases Bf r.data.toList<;>simp
theorem qV(s:yF)(w:World)(hs:s.size<=maxLen):
 Calls prog 99 #[.string s] w fun e w'=>∃v b a,e=.returned (.tuple #[v,.bool b])/\yG w w'/\w'.ownsRow w.heap.size 174 3 v a.length (Ji a)/\Ad s=(if b=true then some a else none)/\(b=false->a=[]/\v=.slice none 0 0):=by
 unfold maxLen at hs;by_cases H:4000<s.size
 ·go_enter func99,ntmps99
  go_wp2;go_ret2;exact⟨_,_,[],rfl,wR _ _,xF _ _ _ _,by simp[Ad,H],fun _=>⟨rfl,rfl⟩⟩
 obtain⟨am,aa,aj,ak,al⟩:=info_parts info174;go_enter func99,ntmps99;go_wp2_with fail;refine(YS s _ (by omega)).mono ?_;rintro e w1 ⟨ao,rfl,l,P,K,F⟩;have r:=Aa l;have U:=Aa K;have S:=Aa F;clear l K F;go_wp2
 go_loopw [4,5] (fun v i wr=>∃(t:yF) (a:List Tk),i=.string t/\OK t/\t.size<=s.size/\wr.ownsRow w.heap.size 174 3 v a.length (Ji a)/\a.length<=800/\yG w wr/\Bf s.data.toList=(Bf t.data.toList).map (a++ ·)) (fun _ i _=>SW i)
 case atStart=>exact⟨ao,[],rfl,r.o,P,xF _ _ _ _,by simp,S.o,by rw[U.o];simp⟩
 case round=>
  obtain⟨t,a,rfl,l,P,p,ah,h,O⟩:=hrel;have u:=Aa O;have r:=Aa l;clear O l;have C:=h.size;by_cases f:0<t.size
  ·have ae:=Xc t f
   cases g:Bm t.data.toList with
   |none=>
    have z:=Aa (show Dm (Bm t.data.toList)=.tuple #[.agg #[.int .i64 0,.string ⟨#[]⟩,.int .i64 0],.int .i64 0]from by rw[g];rfl);have j:=Aa (show Ad s=none from dU s (by rw[u.o,lU t f r.o g];rfl));clear g;go_wp2_with fail;refine(Rt t _ _ f (by omega) z.o).mono ?_;rintro e w2 ⟨rfl,c⟩;have d:=h.trans (c.mono C);have q:=d.size;clear c;go_wp2;go_ret2;exact⟨_,_,[],rfl,d.alloc q _,xF _ _ _ _,by rw[j.o];simp,fun _=>⟨rfl,rfl⟩⟩
   |some y=>
    obtain⟨x,m⟩:=y;have A:=Pk _ _ g;simp only at A;have aq:0<m:=A.1;have ar:m<=t.size:=A.2;have au:((m:Int)==0)=false:=by simp;omega
    have z:=Aa (show Dm (Bm t.data.toList)=.tuple #[.agg #[.int .i64 x.k,.string x.s,.int .i64 x.n],.int .i64 m]from by rw[g];rfl);have D:=Aa (lV t x m f r.o g);clear g A;obtain⟨ap,cap,ai⟩:=An p;subst ai;by_cases E:a.length=800
    ·have Y:((a.length:Int)==800)=true:=by simp;omega
     have j:=Aa (dT s t a x _ u.o D.o E);clear E;go_wp2_with fail;refine(Rt t _ _ f (by omega) z.o).mono ?_;rintro e w2 ⟨rfl,c⟩;have d:=h.trans (c.mono C);have q:=d.size;clear c;go_wp2;go_ret2;exact⟨_,_,[],rfl,d.alloc q _,xF _ _ _ _,by rw[j.o];simp,fun _=>⟨rfl,rfl⟩⟩
    ·have Y:((a.length:Int)==800)=false:=by simp;omega
     go_wp2_with fail;refine(Rt t _ _ f (by omega) z.o).mono ?_;rintro e w2 ⟨rfl,c⟩;have d:=h.trans (c.mono C);have q:=d.size;have N:=AT p c;have ad:=p.lt;clear c;go_wp2_with (at_builtin;refine wpList_append_own _ rfl _ _ 211 rfl w.heap.size 174 am _ 3 32 underlying211 aa aj ak al rfl (by decide) _ _ _ rfl ((N.alloc _).alloc _) ⟨w2.heap.size+1,0,none⟩ 1 1 [.int .i64 x.k,.string x.s,.int .i64 x.n] rfl rfl (Cz _ _ _ _ (by simp)) (pH rfl rfl rfl) (by unfold maxLen;omega) (by omega) (by simp;omega) ?_;intro v' w3 M J _);have G:yG w w3:=Below.grown ((d.alloc q _).alloc (by simp;omega) _) J (by simp;omega) (fun k ab=>(ad k ab).1);have af:w3.ownsRow w.heap.size 174 3 v' (a++[x]).length (Ji (a++[x])):=by
      rw[qW,xJ];exact M
     have W:=Aa (sU s t _ a x u.o D.o);clear M J p N d h;refine(YS _ _ (by simp;omega)).mono ?_;rintro e w4 ⟨R,rfl,I,Q,L,B⟩;have T:=Aa I;have V:=Aa L;have av:R.size<t.size:=by simp at Q;omega
     have ag:=AT af B;have Z:=G.trans (B.mono G.size);clear I L Q B;go_wp2
     go_roundw
     case rel=>exact⟨R,a++[x],rfl,T.o,by omega,ag,by simp;omega,Z,by rw[W.o,V.o]⟩
     case measure=>simp only[Lu];omega
  ·have ae:=UN t f
   have j:=Aa (show Ad s=some a from dV s a H (by rw[u.o,xE (show t.data.toList.length=0 by show t.size=0;omega)];simp[lZ]) ah);go_wp2;go_ret2;exact⟨_,_,a,rfl,h,p,by rw[j.o];rfl,fun X=>by cases X⟩
def KO(w:World)(v:Value)(G:Nat)(l:List Tk):Prop:=(l=[]/\∃a cap,v=.slice a 0 cap)\/∃c cap b,v=.slice (some ⟨G,c,none⟩) l.length cap/\l.length<=cap/\w.heap[G]?=some (.cells b 174 (0,0))/\(b.toList.drop c).take (l.length*3)=Ji l
structure PS(w:World)(b G:Nat)(s:St):Prop where
 st:∃v,w.heap[b]?=some (.cells #[v,.bool s.isNone] 215 (0,0))/\KO w v G (s.getD [])/\(s=none->v=.slice none 0 0)
 len:ln s<=801
 wf:∀t∈s.getD [],Lm t
 glt:G<w.heap.size
def Co(s:St):Bool:=(s.getD []).isEmpty
theorem KO.move{w w':World}{v:Value}{G:Nat}{l:List Tk}(a:KO w v G l)(hb:w'.heap[G]?=w.heap[G]?):KO w' v G l:=by
 rcases a with a|⟨g,cap,b,c,d,e,f⟩
 ·exact Or.inl a
 ·exact Or.inr ⟨g,cap,b,c,d,by rw[hb];exact e,f⟩
theorem KO.slice{w:World}{v:Value}{G:Nat}{l:List Tk}(b:KO w v G l):∃a cap,v=.slice a l.length cap:=by
 rcases b with⟨rfl,a,cap,b⟩|⟨e,cap,d,c,_⟩
 ·exact⟨a,cap,b⟩
 ·exact⟨_,_,c⟩
theorem PS.lt{w:World}{b G:Nat}{s:St}(a:PS w b G s):b<w.heap.size:=by
 obtain⟨v,c,_⟩:=a.st;exact Ab c
theorem PS.ty{w:World}{b G:Nat}{s:St}(a:PS w b G s):∃cs,w.heap[b]?=some (.cells cs 215 (0,0)):=by
 obtain⟨v,c,_⟩:=a.st;exact⟨_,c⟩
theorem PS.move{a Y:World}{b G:Nat}{s:St}(c:PS a b G s)(hb:Y.heap[b]?=a.heap[b]?)(g:Y.heap[G]?=a.heap[G]?)(hs:a.heap.size<=Y.heap.size):PS Y b G s:=by
 obtain⟨v,d,e,f⟩:=c.st;exact⟨⟨v,by rw[hb];exact d,e.move g,f⟩,c.len,c.wf,xA c.glt hs⟩
theorem PS.below{w w':World}{b G:Nat}{s:St}(a:PS w b G s)(hb:yG w w'):PS w' b G s:=
 a.move (hb.block b a.lt) (hb.block G a.glt) hb.size
theorem PS.keep{w w':World}{b G F:Nat}{s:St}(a:PS w b G s)(c:Ag F w w')(d:b≠F)(e:G≠F):PS w' b G s:=
 a.move (c.block b a.lt d) (c.block G a.glt e) c.size
theorem PS.alloc{w:World}{b G:Nat}{s:St}(a:PS w b G s)(o:Obj):PS (w.alloc o) b G s:=a.below ((wR _ _).alloc (wQ _) _)
theorem PS.set{w:World}{b G F:Nat}{s:St}(a:PS w b G s)(c:b≠F)(d:G≠F)(i:Nat)(v:Value):PS (w.setCell ⟨F,i,none⟩ v) b G s:=
 a.keep ((Ag.refl F w).setCell i v) c d
theorem JA(w:World)(b G:Nat)(s:St)(h:PS w b G s):
 Calls prog 63 #[.pointer (some ⟨b,0,none⟩)] w fun e w'=>e=.returned (.bool (Co s))/\w'=w:=by
 obtain⟨v,d,f,i⟩:=h.st;obtain⟨a,cap,rfl⟩:=f.slice;have c0:w.cell? ⟨b,0,none⟩=some (.slice a (s.getD []).length cap):=Ac d 0;have c:=Aa (show Co s=decide ((s.getD []).length=0)from by unfold Co;cases s.getD []<;>simp);clear d f i;generalize (s.getD []).length=n at*;by_cases g:n=0
 ·have t:((n:Int)==0)=true:=by simp;omega
  go_enter func63,ntmps63
  go_wp2
  go_ret;exact⟨Al (by rw[c.o,xM g]),rfl⟩
 ·have t:((n:Int)==0)=false:=by simp;omega
  go_enter func63,ntmps63
  go_wp2
  go_ret;exact⟨Al (by rw[c.o,wY g]),rfl⟩
def Ec(s:St):Bool:=Co s&&!s.isNone
theorem Nq(w:World)(b G:Nat)(s:St)(f:PS w b G s):
 Calls prog 64 #[.pointer (some ⟨b,0,none⟩)] w fun e w'=>e=.returned (.bool (Ec s))/\w'=w:=by
 have a:=JA w b G s f;obtain⟨v,g,h,i⟩:=f.st;have c1:w.cell? ⟨b,1,none⟩=some (.bool s.isNone):=Ac g 1;have d:=Aa (show Ec s=(Co s&&!s.isNone)from rfl);clear g h i;generalize s.isNone=j at*;cases c:Co s
 ·rw[c]at a
  go_enter func64,ntmps64;go_wp2_with fail;refine a.mono ?_;rintro e w' ⟨rfl,rfl⟩;go_wp2;go_ret;exact⟨Al (by rw[d.o,c];rfl),rfl⟩
 ·rw[c]at a
  go_enter func64,ntmps64;go_wp2_with fail;refine a.mono ?_;rintro e w' ⟨rfl,rfl⟩;go_wp2;go_ret;exact⟨Al (by rw[d.o,c];simp),rfl⟩
theorem PS.failed{w:World}{b G:Nat}{s:St}(a:PS w b G s):PS ((w.setCell ⟨b,0,none⟩ (.slice none 0 0)).setCell ⟨b,1,none⟩ (.bool true)) b G none:=by
 obtain⟨v,c,e,f⟩:=a.st;refine⟨⟨.slice none 0 0,?_,Or.inl ⟨rfl,_,_,rfl⟩,fun _=>rfl⟩,by simp[ln],fun t d=>by simp at d,by simpa [World.setCell]using a.glt⟩;rw[AI (AI c 0 _) 1 _];rfl
theorem Gc(w:World)(b G:Nat)(s:St)(d:PS w b G s):
 Calls prog 104 #[.pointer (some ⟨b,0,none⟩)] w fun e w'=>e=.returned (.tuple #[])/\PS w' b G none/\Ag b w w':=by
 have g:=Aa d.failed;obtain⟨v,c,f,h⟩:=d.st;obtain⟨a,cap,rfl⟩:=f.slice;have c0:w.cell? ⟨b,0,none⟩=some (.slice a (s.getD []).length cap):=Ac c 0;have c1:w.cell? ⟨b,1,none⟩=some (.bool s.isNone):=Ac c 1;have i:=Ak c 0;have f1:=Ak c 1;clear c f h d;go_enter func104,ntmps104;go_wp2;go_end0;exact⟨rfl,g.o,((Ag.refl b w).setCell 0 _).setCell 1 _⟩
theorem XO{w:World}{v:Value}{g:Nat}{t:Tk}{l:List Tk}(m:KO w v g (t::l)):∃a cap b,v=.slice (some ⟨g,a,none⟩) (l.length+1) cap/\l.length+1<=cap/\w.heap[g]?=some (.cells b 174 (0,0))/\w.cell? ⟨g,a,none⟩=some (.int .i64 t.k)/\w.cell? ⟨g,a+1,none⟩=some (.string t.s)/\w.cell? ⟨g,a+2,none⟩=some (.int .i64 t.n)/\(b.toList.drop (a+3)).take (l.length*3)=Ji l:=by
 rcases m with⟨e,_⟩|⟨a,cap,b,p,q,d,c⟩
 ·cases e
 ·refine⟨a,cap,b,p,q,d,?_⟩
  have e:Ji (t::l)=.int .i64 t.k::.string t.s::.int .i64 t.n::Ji l:=rfl;rw[e,xU,show(l.length+1)*3=l.length*3+1+1+1 by omega]at c;have key:∀j,(b.toList.drop a)[j]?=b[a+j]?:=fun j=>by rw[List.getElem?_drop];simp
  have f:b[a+0]?=some (.int .i64 t.k):=by
   rw[<-key 0];have:=congrArg (fun x=>x[0]?) c;simpa [List.getElem?_take]using this
  have h:b[a+1]?=some (.string t.s):=by
   rw[<-key 1];have:=congrArg (fun x=>x[1]?) c;simpa [List.getElem?_take]using this
  have i:b[a+2]?=some (.int .i64 t.n):=by
   rw[<-key 2];have:=congrArg (fun x=>x[2]?) c;simpa [List.getElem?_take]using this
  refine⟨by rw[Ac d];exact f,by rw[Ac d];exact h,by rw[Ac d];exact i,?_⟩;have:=congrArg (fun x=>x.drop 3) c;simp only[List.drop_take,List.drop_drop]at this;simpa using this
theorem PW(w:World)(b G:Nat)(s:St)(g:PS w b G s):
 Calls prog 106 #[.pointer (some ⟨b,0,none⟩)] w fun e w'=>e=.returned (.agg #[.int .i64 (hd s).k,.string (hd s).s,.int .i64 (hd s).n])/\yG w w':=by
 have x:=g.lt;have f:=JA (w.alloc (.cells #[.int .i64 0,.string ⟨#[]⟩,.int .i64 0] 174)) b G s (g.below ((wR _ _).alloc (wQ _) _));obtain⟨v,a,c,d⟩:=g.st
 match s,a,c,d,f with
 |none,a,c,d,f=>
  clear g a c d;go_enter func106,ntmps106;go_wp2_with fail;refine f.mono ?_;rw[show Co none=true from rfl];rintro e w' ⟨rfl,rfl⟩;go_wp2_with fail;exact bodyPost_ret (v:=.agg #[.int .i64 0,.string ⟨#[]⟩,.int .i64 0]) (by simp[results,results106,go_sem]) rfl ⟨rfl,(wR _ _).alloc (wQ _) _⟩
 |some [],a,c,d,f=>
  clear g a c d;go_enter func106,ntmps106;go_wp2_with fail;refine f.mono ?_;rw[show Co (some [])=true from rfl];rintro e w' ⟨rfl,rfl⟩;go_wp2_with fail;exact bodyPost_ret (v:=.agg #[.int .i64 0,.string ⟨#[]⟩,.int .i64 0]) (by simp[results,results106,go_sem]) rfl ⟨rfl,(wR _ _).alloc (wQ _) _⟩
 |some (t::l),a,c,d,f=>
  obtain⟨i,cap,j,rfl,r,h,m,p,q,_⟩:=XO c;have c0:w.cell? ⟨b,0,none⟩=some (.slice (some ⟨G,i,none⟩) (l.length+1) cap):=Ac a 0;have u:=Ab h;show Calls _ _ _ _ fun e w'=>e=.returned (.agg #[.int .i64 t.k,.string t.s,.int .i64 t.n])/\yG w w';clear g a c d h;go_enter func106,ntmps106;go_wp2_with fail;refine f.mono ?_;rw[show Co (some (t::l))=false from rfl];rintro e w' ⟨rfl,rfl⟩;go_wp2_with fail;exact bodyPost_ret (v:=.agg #[.int .i64 t.k,.string t.s,.int .i64 t.n]) (by simp[results,results106,go_sem]) rfl ⟨rfl,(wR _ _).alloc (wQ _) _⟩
end Go.Proofs.YtogdodlibkckkaaGreatDoor
