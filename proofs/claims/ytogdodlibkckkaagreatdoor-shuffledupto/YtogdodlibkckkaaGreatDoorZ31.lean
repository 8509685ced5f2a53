import Derived.Test.YtogdodlibkckkaaGreatDoorZ30
import Derived.Lib.SliceRun
namespace Go.Proofs.YtogdodlibkckkaaGreatDoor
set_option maxHeartbeats 20000000
set_option maxRecDepth 100000
open Go.RowKit Tryz
theorem RO{parts:List Ai}(h:BP parts){i:Nat}(p:i<parts.length):Bi parts i≠[]:=by
 unfold Bi;rw[BN];rw[xG (by rw[List.getD_eq_getElem?_getD,List.getElem?_replicate];split<;>simp)];have key:∀(f:Nat) (r:List As) (l:List Nat) (s:List Bool),(∀x∈r,∀i,x.part=some i->i<parts.length)->s.length=parts.length->l≠[]->(CV (BN parts f) r l s).1≠[]:=by
  intro f
  induction f with
  |zero=>
   intro r
   induction r with
   |nil=>intro l s _ _ a;exact a
   |cons x r e=>
    intro l s c hs a;rw[CV];split
    ·exact e l s (fun y b=>c y (yA _ b)) hs a
    ·exact e _ _ (fun y b=>c y (yA _ b)) hs a
  |succ f n=>
   intro r
   induction r with
   |nil=>intro l s _ _ a;exact a
   |cons x r e=>
    intro l s c hs a;rw[CV];split
    ·exact e l s (fun y b=>c y (yA _ b)) hs a
    ·rename_i j g
     have m:x.part=some j:=by
      by_cases k:x.kind=0
      ·rw[xH k]at g;cases g
      ·rw[xG k]at g;exact g
     refine e _ _ (fun y b=>c y (yA _ b)) (NG h (f+1) j l s (c x yB j m) hs).1 ?_;rw[BN];split
     ·exact a
     ·exact n _ _ _ (h.d j) (by simpa using hs) (by simp)
 exact key _ _ _ _ (h.d i) (by simp) (by simp)
theorem NQ{w:World}{B e:Nat}{v:Value}{l:List Nat}{pp:List Nat}(b:w.ownsRow B e 1 v l.length (Bz pp l))(d:l≠[]):∃g c,v=.slice (some ⟨g,0,none⟩) l.length c:=by
 rcases b.2 with⟨_,q⟩|⟨g,cap,f,a,_⟩
 ·exact absurd (xE q) d
 ·exact⟨g,cap,a⟩
section
variable {w w0:World} {B0 B1 G Mb Lb:Nat} {pp:List Nat} {parts:List Ai} {g:Bc} {vo:Value}
theorem AG.setL(d:AG w B1 G Mb Lb pp parts g vo){i:Nat}(x:i<pp.length){a:Addr}{c:Nat}(h:w.ownsRow B1 120 1 (.slice (some a) (Bi parts i).length c) (Bi parts i).length (Bz pp (Bi parts i))):AG (w.setCell ⟨Lb,i,none⟩ (.slice (some a) (Bi parts i).length c)) B1 G Mb Lb pp parts g vo/\AF G Mb Lb w vo (w.setCell ⟨Lb,i,none⟩ (.slice (some a) (Bi parts i).length c)) vo:=by
 obtain⟨cs,f,s,t⟩:=d.l;have r:∀{e:TypeId} {size n:Nat} {v:Value} {xs:List Value},w.ownsRow B1 e size v n xs->e≠110->(w.setCell ⟨Lb,i,none⟩ (.slice (some a) (Bi parts i).length c)).ownsRow B1 e size v n xs:=fun h u=>IF h (fun j p _=>xC _ _ _ _ (show j≠Lb from fun e=>By h f (fun q=>u q.symm) (by rw[<-e];exact p)));refine⟨⟨Ed d.b (Eg d.b f (by decide)) _,r d.o (by decide),Ed d.m (Eg d.m f (by decide)) _,⟨_,AI f i _,by simpa using s,fun j p=>?_⟩,d.lg,d.lm,d.ll⟩,rfl,rfl,rfl,by simp[World.setCell],fun k _ _ _ y _=>xC _ _ _ _ y,fun _ q=>.inl q⟩;by_cases e:i=j
 ·subst e
  exact .inr ⟨a,c,by rw[Array.getElem?_setIfInBounds_self];simp[s,x],r h (by decide)⟩
 ·rw[xV e]
  exact(t j p).imp (fun e=>e) (fun⟨a,c,e,o⟩=>⟨a,c,e,r o (by decide)⟩)
theorem kO(C:Bl w0 B0 pp 0 parts)(I:pp.length=parts.length)(K:BP parts)(aR:pp.length<=2000)(x:yG w0 w)(aC:B1<=w.heap.size)(u:AG w B1 G Mb Lb pp parts g vo){i k:Nat}(Y:pp[i]?=some k):
 Calls prog 159 #[.pointer (some ⟨G,0,none⟩),.pointer (some ⟨k,0,none⟩)] w fun e w'=>∃a c,e=.returned (.slice (some a) (Bi parts i).length c)/\w'.ownsRow B1 120 1 (.slice (some a) (Bi parts i).length c) (Bi parts i).length (Bz pp (Bi parts i))/\AG w' B1 G Mb Lb pp parts g vo/\AF G Mb Lb w vo w' vo:=by
 have Z:i<pp.length:=FC Y;obtain⟨P,T⟩:∃P,parts[i]?=some P:=⟨_,wS (by omega)⟩;have J:=C i P T;rw[Nat.zero_add]at J;obtain⟨aI,cap,H, -⟩:=J.rd Y;have A:=(x.block _ (Ab H)).trans H;have ae:w.cell? ⟨k,1,none⟩=some (.int .i64 i):=Ac A 1;have ad:=Ab A;obtain⟨cs,v,aB,S⟩:=u.l;have ax:=Ac u.b;have aj:=Ab u.b;have cL:=Ac v i;have az:=Ak v;have L:=Ab v;have r:=Aa u;have aP:(i:Int)<pp.length:=by omega
 have aO:=fun(W:World) (a:Option Addr) (n c:Nat)=>Lib.run_eql_slice_nil (P:=prog) W 110 120 a n c 0 0 underlying110;rcases S i Z with e|⟨a,c,e,p⟩
 ·have O:w.cell? ⟨Lb,i,none⟩=some (.slice none 0 0):=cL.trans e
  have aQ:=run_make_row' (P:=prog) 142 4 (.bool false) 1 underlying142 info4 rfl .i64 .i64 pp.length (by omega) (by omega);have af:=Aa (fun(W:World) (z:yG w W) (Sb:Nat) (X:w.heap.size<=Sb) (U:W.heap[Sb]?=some (.cells (madeCells #[.bool false] pp.length) 4 (0,0)))=>(show Calls prog 213 #[.pointer (some ⟨k,0,none⟩),.slice none 0 0,.slice (some ⟨Sb,0,none⟩) pp.length pp.length] W fun e w'=>∃v',e=.returned v'/\w'.ownsRow B1 120 1 v' (Bi parts i).length (Bz pp (Bi parts i))/\Below w.heap.size W w' from by
   have q:=kU (B1:=w.heap.size) (Sb:=Sb) C I K x.size X (parts.length+1) W i k [] (.slice none 0 0) (List.replicate pp.length false) (x.trans (z.mono x.size)) z.size Y (xF _ _ _ _) (by rw[<-NK];exact U) (by simp) (by rw[Jl];omega) (by rw[Jl];simp;omega);refine q.mono ?_;rintro e w' ⟨v',aF,ak,_,aG⟩;have ay:(BN parts (parts.length+1) i [] (List.replicate pp.length false)).1=Bi parts i:=by unfold Bi;rw[I]
   rw[ay]at ak;exact⟨v',aF,FE ak aC,aG⟩))
  have ah:=RO K (show i<parts.length by omega);generalize ag:Bi parts i=d at*;have y:=Aa A;have M:=Aa v;clear C I K x J H A u v S cL e T;go_enter func159,ntmps159;go_wp2;go_quiet (fail);obtain⟨t,B⟩:∃t,t=nq:=⟨_,rfl⟩;rw[<-B];clear B nq;go_wp2_with fail;have aH:=Aa (below_drewN (wR w.heap.size w) t);go_cut [] (fun wc=>AG wc B1 G Mb Lb pp parts g vo/\AF G Mb Lb w vo wc vo/\∃a c,wc.cell? ⟨Lb,i,none⟩=some (.slice (some a) d.length c)/\wc.ownsRow B1 120 1 (.slice (some a) d.length c) d.length (Bz pp d))
  case first=>
   have ap:=Aa (fun(W:World) (z:yG w W) (Sb:Nat) (X:w.heap.size<=Sb) (U:W.heap[Sb]?=some (.cells (madeCells #[.bool false] pp.length) 4 (0,0)))=>(af.o W z Sb X U).mono (show∀e w',_->(∃h c2,e=.returned (.slice (some ⟨h,0,none⟩) d.length c2)/\(∀j,w'.cell? ⟨G,j,none⟩=(#[vo,.slice (some ⟨Mb,0,none⟩) (pp.length*pp.length) (pp.length*pp.length),.slice (some ⟨Lb,0,none⟩) pp.length pp.length]:Array Value)[j]?)/\w'.cell? ⟨k,1,none⟩=some (.int .i64 i)/\w'.cell? ⟨Lb,i,none⟩=some (.slice none 0 0)/\(∀j,w'.frozen? ⟨Lb,j,none⟩=false)/\G<w'.heap.size/\k<w'.heap.size/\Lb<w'.heap.size/\Hi (w'.ownsRow B1 120 1 (.slice (some ⟨h,0,none⟩) d.length c2) d.length (Bz pp d)/\yG w w'))from by
    rintro e w' ⟨v',rfl,p,aw⟩;obtain⟨h,c2,rfl⟩:=NQ p ah;have s:=z.trans aw;exact⟨h,c2,rfl,Ac (r.o.below s).b,Ah s ae,Ah s O,Ak ((s.block _ L).trans M.o),xA aj s.size,xA ad s.size,xA L s.size,Aa ⟨p,s⟩⟩))
   clear af;have aZ:=fun(m:Nat) (o:Obj)=>Ah (bA (below_drewN (wR w.heap.size w) m) o) ae;have aK:=fun(m:Nat) (o:Obj)=>Ac (r.o.below (bA (below_drewN (wR w.heap.size w) m) o)).b;go_region_with (go_at_call 213;refine(ap.o _ (by first|exact bA (below_drewN (wR _ _) _) _|exact bA (wR _ _) _) w.heap.size (wQ _) (by first|exact wX (w.drewN _) _|exact wX w _)).mono ?_;rintro _ w2 ⟨h,c2,rfl,aJ,aY,aM,aN,aS,aW,aU,av⟩);all_goals(
    obtain⟨p,f⟩:=av.o;obtain⟨V,D⟩:=(r.o.below f).setL Z (by rw[ag];exact p);rw[ag]at V D;have ar:=Aa V;have au:=Aa ((AF.of_below f).trans D);have am:=Aa (show(w2.setCell ⟨Lb,i,none⟩ (.slice (some ⟨h,0,none⟩) d.length c2)).cell? ⟨Lb,i,none⟩=some (.slice (some ⟨h,0,none⟩) d.length c2)from by
     rw[Ac (AI ((f.block _ L).trans M.o) i _) i,Array.getElem?_setIfInBounds_self];simp[aB,Z])
    have aq:=Aa (show(w2.setCell ⟨Lb,i,none⟩ (.slice (some ⟨h,0,none⟩) d.length c2)).ownsRow B1 120 1 (.slice (some ⟨h,0,none⟩) d.length c2) d.length (Bz pp d)from D.pts (r.o.below f) p);clear V D p f;go_wp2;go_meet;exact⟨ar.o,au.o,_,_,am.o,aq.o⟩)
  case rest=>
  obtain⟨E,F,a,c,aE,ab⟩:=hcut;obtain⟨h,c2,ai⟩:=NQ ab ah;obtain⟨rfl⟩:=xD (Value.slice.inj ai).1;have al:=Aa E;have ao:=Aa F;have N:=Aa ab;have aL:=Ac E.b;have aT:=Ab E.b;have aD:=F.below r.o;have aa:=(F.blk k ad (Eg y.o r.o.b (by decide)) (Eg y.o r.o.m (by decide)) (Eg y.o M.o (by decide)) (fun e=>By r.o.o y.o (by decide) e)).trans y.o;have a0:wc.cell? ⟨k,1,none⟩=some (.int .i64 i):=Ac aa 1;have aX:=Ab aa;have aV:=wW wc _ aE;clear E F ab aD aa ai ax aj ae ad O L az;go_wp2;go_quiet (fail);go_wp2;go_ret;have f:=below_drewN (wR wc.heap.size wc) nq;exact⟨_,_,rfl,AT N.o f,al.o.below f,ao.o.trans (AF.of_below f)⟩
 ·obtain⟨R,rfl⟩:∃R,a=⟨R,0,none⟩:=by
   rcases p.2 with⟨Q,_⟩|⟨aA,_,_,Q,_⟩
   ·cases Q
   ·exact⟨aA,xD (Value.slice.inj Q).1⟩
  have O:w.cell? ⟨Lb,i,none⟩=some (.slice (some ⟨R,0,none⟩) (Bi parts i).length c):=cL.trans e;have N:=Aa p;generalize Bi parts i=d at*;clear C I K x J H A u v S cL e p T;go_enter func159,ntmps159;go_wp2;go_quiet (fail);obtain⟨t,B⟩:∃t,t=nq:=⟨_,rfl⟩;rw[<-B];clear B nq;go_wp2;go_quiet (fail);go_wp2;go_ret;have f:=below_drewN (below_drewN (wR w.heap.size w) t) nq;exact⟨_,_,rfl,AT N.o f,r.o.below f,AF.of_below f⟩
end
end Go.Proofs.YtogdodlibkckkaaGreatDoor
