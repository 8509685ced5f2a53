import Derived.Test.YtogdodlibkckkaaGreatDoorZ23
namespace Go.Proofs.YtogdodlibkckkaaGreatDoor
set_option maxHeartbeats 20000000
set_option maxRecDepth 100000
open Go.RowKit Tryz
def ACD(roles:List yF)(f:Am):Bool:=DW roles f.auth&&DW roles f.hide_
def ABw(roles:List yF)(l:List BU):List IN:=(l.filter (fun c=>ACD roles c.f)).map (fun c=>(c.f.name,c.t))
structure ACS(w:World)(gR j:Nat)(id:yF)(roles:List yF)(z:Option AY):Prop where
 ex:∃(gO k B:Nat) (nm rid:yF) (vC u:Value) (l:List BU) (rl:Option (List Cx)) (t:Br),w.cell? ⟨gR,j*3,none⟩=some (.pointer (some ⟨gO,k,none⟩))/\w.cell? ⟨gR,j*3+1,none⟩=some (.string rid)/\w.cell? ⟨gR,j*3+2,none⟩=some vC/\w.cell? ⟨gO,k,none⟩=some (.string nm)/\w.cell? ⟨gO,k+3,none⟩=some u/\Gn w vC l/\l.length<=1000000/\Ho w B u rl t/\z=if RH roles id l rl t=true then none else some (nm,rid,ABw roles l)
theorem Ho.below{w w':World}{B:Nat}{v:Value}{o:Option (List Cx)}{t:Br}(a:Ho w B v o t)(hb:yG w w'):Ho w' B v o t:=a.stays (Ap.of_below hb) (Ap.of_below hb)
theorem ACS.below{w w':World}{a j:Nat}{id:yF}{roles:List yF}{z:Option AY}(c:ACS w a j id roles z)(hb:yG w w'):ACS w' a j id roles z:=by
 obtain⟨b,k,B,nm,q,r,u,l,rl,t,d,e,f,g,h,i,m,n,p⟩:=c;exact⟨b,k,B,nm,q,r,u,l,rl,t,Ah hb d,Ah hb e,Ah hb f,Ah hb g,Ah hb h,i.below hb,m,n.below hb,p⟩
structure MQ(w:World)(S:Nat)(c:Be):Prop where
 ex:∃vR vO vI vU vN LR LO LI LU,SV w S vR vO vI vU vN LR LO LI LU c.names/\LR.map Prod.fst=c.roles/\LO.map Prod.fst=c.objs/\LI.map Prod.fst=c.ifs/\LU.map Prod.fst=c.uns
theorem MQ.below{w w':World}{S:Nat}{c:Be}(a:MQ w S c)(hb:yG w w'):MQ w' S c:=by
 obtain⟨vR,vO,vI,vU,vN,LR,LO,LI,LU,b,d⟩:=a.ex;exact⟨vR,vO,vI,vU,vN,LR,LO,LI,LU,b.below hb,d⟩
theorem Ff.v{w:World}{S:Nat}{c:Be}(j:Ff w S c)(r:Ko c 804):MQ w S c:=by
 obtain⟨vR,vO,vI,vU,vN,LR,LO,LI,LU,p,n,m,k,q,l,h,g,f,i⟩:=j.ex;obtain⟨a,b,d,e,s⟩:=r;rw[<-h]at a;rw[<-g]at b;rw[<-f]at d;rw[<-i]at e;exact⟨vR,vO,vI,vU,vN,LR,LO,LI,LU,⟨p,n,m,k,q,l,by simpa using a,by simpa using b,by simpa using d,by simpa using e,s⟩,h,g,f,i⟩
theorem sO(x:yF)(w:World)(hs:x.size<=maxLen):
 Calls prog 34 #[.string x] w fun e w'=>∃q,e=.returned (.tuple #[.pointer q,.int .i64 (Fj x)])/\yG w w'/\(Fj x=0->∃S,q=some ⟨S,0,none⟩/\MQ w' S (Ao (Ad x)).1):=by
 have b:=qH x w hs;have l:Kx (Ao (Ad x)).1:=Ob _ (MH x);have a:=Aa (show Fj x=if Ec (Ao (Ad x)).2=true then(if He (Ao (Ad x)).1=true then 0 else 2)else 1 from rfl);generalize Fj x=n at*;generalize Ao (Ad x)=cs at*;have k:=Aa l;clear l;cases hd:Ec cs.2
 ·rw[hd]at b a
  go_enter func34,ntmps34;go_wp2_with fail;refine b.mono ?_;clear b;rintro e w1 ⟨S,rfl,d,g,c⟩;go_wp2;go_ret2;exact⟨_,by rw[a.o];rfl,c,fun i=>by rw[a.o]at i;cases i⟩
 ·rw[hd]at b a
  cases h:He cs.1
  ·rw[h]at a
   go_enter func34,ntmps34;go_wp2_with fail;refine b.mono ?_;clear b;rintro e w1 ⟨S,rfl,d,g,c⟩;have f:=Ys w1 S cs.1 d g k.o;rw[h]at f;clear d g h;go_wp2_with fail;refine f.mono ?_;clear f;rintro e w2 ⟨rfl,j⟩;go_wp2;go_ret2;exact⟨_,by rw[a.o];rfl,c.trans (j.mono c.size),fun i=>by rw[a.o]at i;cases i⟩
  ·rw[h]at a
   go_enter func34,ntmps34;go_wp2_with fail;refine b.mono ?_;clear b;rintro e w1 ⟨S,rfl,d,g,c⟩;have f:=Ys w1 S cs.1 d g k.o;rw[h]at f;have m:=Aa (d.v g);clear d g h;go_wp2_with fail;refine f.mono ?_;clear f;rintro e w2 ⟨rfl,j⟩;go_wp2;go_ret2;exact⟨_,by rw[a.o];rfl,c.trans (j.mono c.size),fun _=>⟨S,rfl,m.o.below j⟩⟩
structure IV(w:World)(v:Nat)(id:yF)(roles:List yF):Prop where
 b:∃a c B,w.heap[v]?=some (.cells #[.string id,.slice a roles.length c] 92 (0,0))/\w.ownsRow B 9 1 (.slice a roles.length c) roles.length (Bn roles)
 l:roles.length<=1000000
theorem IV.at{w:World}{v:Nat}{id:yF}{roles:List yF}(b:IV w v id roles):DV w v id roles:=by
 obtain⟨⟨a,c,B,d,e⟩,f⟩:=b;exact⟨⟨a,c,d,DU.of_own e⟩,f⟩
section
variable {w:World} {S:Nat} {vR vO vI vU vN:Value} {LR:List (Au×Value)} {LO:List AX} {LI:List (At×Value)} {LU:List (Aw×Value)} {names:List yF}
theorem vM(f:SV w S vR vO vI vU vN LR LO LI LU names)(j:(LR.map rN).Nodup)(i:∀x∈LR,∀y∈x.1.inc,y∈LR.map rN/\y.size<=4000)(k:∀y∈LR.map rN,y.size<=4000)(role vid:yF)(r:role.size<=2000000):
 Calls prog 21 #[.pointer (some ⟨S,0,none⟩),.agg #[.string role,.string vid]] w fun e w'=>∃q,e=.returned (.tuple #[.pointer q,.int .i64 (if Ef (LR.map Prod.fst) role=[]then 4 else 0)])/\yG w w'/\(Ef (LR.map Prod.fst) role≠[]->∃V,q=some ⟨V,0,none⟩/\IV w' V vid (Ef (LR.map Prod.fst) role)):=by
 have h:=Aa (fun n (p:yG w n)=>iJ (f.below p) j i k role r);generalize Ef (LR.map Prod.fst) role=rs at*;clear f j i k;by_cases c:rs=[]
 ·subst c
  rw[xH rfl];go_enter func21,ntmps21;go_wp2_with fail;refine(h.o _ (bA (wR _ _) _)).mono ?_;rintro _ w1 ⟨v,rfl,⟨B,d⟩, -,b⟩;obtain⟨a,cap,rfl⟩:=An d;go_wp2;go_ret2;exact⟨_,rfl,bT (bA (wR _ _) _) b,fun f=>absurd rfl f⟩
 ·rw[xG c]
  have z:¬(rs.length:Int)=0:=fun e=>c (xE (by omega));have s:=Aa c;clear c;go_enter func21,ntmps21;go_wp2_with fail;refine(h.o _ (bA (wR _ _) _)).mono ?_;rintro _ w1 ⟨v,rfl,⟨B,d⟩,A,b⟩;have m:=Aa d;have g:=KW b (wX w (.cells #[.string role,.string vid] 24));have l:=Aa (bT (bA (wR _ _) _) b);have t:=Ac g;have u:=Ab g;obtain⟨a,cap,rfl⟩:=An d;clear d;clear g b;go_wp2;go_ret2;exact⟨_,rfl,bA l.o _,fun _=>⟨w1.heap.size,rfl,⟨⟨a,cap,B,wX w1 _,AT m.o (bA (wR _ _) _)⟩,by omega⟩⟩⟩
end
end Go.Proofs.YtogdodlibkckkaaGreatDoor
