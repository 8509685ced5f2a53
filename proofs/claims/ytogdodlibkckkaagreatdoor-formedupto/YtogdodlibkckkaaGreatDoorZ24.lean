import Derived.Test.YtogdodlibkckkaaGreatDoorZ23
namespace Go.Proofs.YtogdodlibkckkaaGreatDoor
set_option maxHeartbeats 20000000
set_option maxRecDepth 100000
open Go.RowKit Tryz

structure MQ(w:World)(S:Nat)(c:Be):Prop where
 ex:∃vR vO vI vU vN LR LO LI LU,SV w S vR vO vI vU vN LR LO LI LU c.names/\LR.map Prod.fst=c.roles/\LO.map Prod.fst=c.objs/\LI.map Prod.fst=c.ifs/\LU.map Prod.fst=c.uns
theorem MQ.below{w w':World}{S:Nat}{c:Be}(a:MQ w S c)(hb:yG w w'):MQ w' S c:=by
 obtain⟨vR,vO,vI,vU,vN,LR,LO,LI,LU,b,d⟩:=a.ex;exact⟨vR,vO,vI,vU,vN,LR,LO,LI,LU,b.below hb,d⟩
theorem Ff.v{w:World}{S:Nat}{c:Be}(j:Ff w S c)(r:Ko c 804):MQ w S c:=by
 obtain⟨vR,vO,vI,vU,vN,LR,LO,LI,LU,p,n,m,k,q,l,h,g,f,i⟩:=j.ex;obtain⟨a,b,d,e,s⟩:=r;rw[<-h]at a;rw[<-g]at b;rw[<-f]at d;rw[<-i]at e;exact⟨vR,vO,vI,vU,vN,LR,LO,LI,LU,⟨p,n,m,k,q,l,by simpa using a,by simpa using b,by simpa using d,by simpa using e,s⟩,h,g,f,i⟩
theorem sO(x:yF)(w:World)(p:x.size<=maxLen):
 Calls prog 34 #[.string x] w fun e w'=>∃q,e=.returned (.tuple #[.pointer q,.int .i64 (Fj x)])/\yG w w'/\(Fj x=0->∃S,q=some ⟨S,0,none⟩/\MQ w' S (Ao (Ad x)).1):=by
 have b:=qH x w p;have m:Kx (Ao (Ad x)).1:=Ob _ (MH x);have a:=Aa (show Fj x=if Ec (Ao (Ad x)).2=true then(if He (Ao (Ad x)).1=true then 0 else 2)else 1 from rfl);generalize Fj x=r at*;generalize Ao (Ad x)=j at*;have l:=Aa m;clear m;cases hd:Ec j.2
 ·rw[hd]at b a
  go_enter func34,ntmps34;go_wp2_with fail;refine b.mono ?_;clear b;rintro e w1 ⟨S,rfl,d,g,c⟩;go_wp2;go_ret2;exact⟨_,by rw[a.o];rfl,c,fun i=>by rw[a.o]at i;cases i⟩
 ·rw[hd]at b a
  cases h:He j.1
  ·rw[h]at a
   go_enter func34,ntmps34;go_wp2_with fail;refine b.mono ?_;clear b;rintro e w1 ⟨S,rfl,d,g,c⟩;have f:=Ys w1 S j.1 d g l.o;rw[h]at f;clear d g h;go_wp2_with fail;refine f.mono ?_;clear f;rintro e w2 ⟨rfl,k⟩;go_wp2;go_ret2;exact⟨_,by rw[a.o];rfl,c.trans (k.mono c.size),fun i=>by rw[a.o]at i;cases i⟩
  ·rw[h]at a
   go_enter func34,ntmps34;go_wp2_with fail;refine b.mono ?_;clear b;rintro e w1 ⟨S,rfl,d,g,c⟩;have f:=Ys w1 S j.1 d g l.o;rw[h]at f;have n:=Aa (d.v g);clear d g h;go_wp2_with fail;refine f.mono ?_;clear f;rintro e w2 ⟨rfl,k⟩;go_wp2;go_ret2;exact⟨_,by rw[a.o];rfl,c.trans (k.mono c.size),fun _=>⟨S,rfl,n.o.below k⟩⟩
structure IV(w:World)(v:Nat)(id:yF)(roles:List yF):Prop where
 b:∃a c B,w.heap[v]?=some (.cells #[.string id,.slice a roles.length c] 92 (0,0))/\w.ownsRow B 9 1 (.slice a roles.length c) roles.length (Bn roles)
 l:roles.length<=1000000
theorem IV.at{w:World}{v:Nat}{id:yF}{roles:List yF}(b:IV w v id roles):DV w v id roles:=by
 obtain⟨⟨a,c,B,d,e⟩,f⟩:=b;exact⟨⟨a,c,d,DU.of_own e⟩,f⟩
section
variable {w:World} {S:Nat} {vR vO vI vU vN:Value} {LR:List (Au×Value)} {LO:List AX} {LI:List (At×Value)} {LU:List (Aw×Value)} {names:List yF}
theorem vM(g:SV w S vR vO vI vU vN LR LO LI LU names)(k:(LR.map rN).Nodup)(j:∀x∈LR,∀y∈x.1.inc,y∈LR.map rN/\y.size<=4000)(l:∀y∈LR.map rN,y.size<=4000)(b vid:yF)(s:b.size<=2000000):
 Calls prog 21 #[.pointer (some ⟨S,0,none⟩),.agg #[.string b,.string vid]] w fun e w'=>∃q,e=.returned (.tuple #[.pointer q,.int .i64 (if Ef (LR.map Prod.fst) b=[]then 4 else 0)])/\yG w w'/\(Ef (LR.map Prod.fst) b≠[]->∃V,q=some ⟨V,0,none⟩/\IV w' V vid (Ef (LR.map Prod.fst) b)):=by
 have i:=Aa (fun p (r:yG w p)=>iJ (g.below r) k j l b s);generalize Ef (LR.map Prod.fst) b=rs at*;clear g k j l;by_cases d:rs=[]
 ·subst d
  rw[xH rfl];go_enter func21,ntmps21;go_wp2_with fail;refine(i.o _ (bA (wR _ _) _)).mono ?_;rintro _ w1 ⟨v,rfl,⟨B,f⟩, -,c⟩;obtain⟨a,cap,rfl⟩:=An f;go_wp2;go_ret2;exact⟨_,rfl,bT (bA (wR _ _) _) c,fun g=>absurd rfl g⟩
 ·rw[xG d]
  have A:¬(rs.length:Int)=0:=fun e=>d (xE (by omega));have t:=Aa d;clear d;go_enter func21,ntmps21;go_wp2_with fail;refine(i.o _ (bA (wR _ _) _)).mono ?_;rintro _ w1 ⟨v,rfl,⟨B,f⟩,C,c⟩;have n:=Aa f;have h:=KW c (wX w (.cells #[.string b,.string vid] 24));have m:=Aa (bT (bA (wR _ _) _) c);have u:=Ac h;have z:=Ab h;obtain⟨a,cap,rfl⟩:=An f;clear f;clear h c;go_wp2;go_ret2;exact⟨_,rfl,bA m.o _,fun _=>⟨w1.heap.size,rfl,⟨⟨a,cap,B,wX w1 _,AT n.o (bA (wR _ _) _)⟩,by omega⟩⟩⟩
end
end Go.Proofs.YtogdodlibkckkaaGreatDoor
