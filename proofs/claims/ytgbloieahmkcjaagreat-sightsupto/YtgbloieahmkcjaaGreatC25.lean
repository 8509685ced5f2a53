import Derived.Test.YtgbloieahmkcjaaGreatC24
import Derived.BigQuiet
namespace Go.Proofs.YtgbloieahmkcjaaGreat
set_option maxHeartbeats 20000000
set_option maxRecDepth 100000
open Go.RowKit Tryz
def lk(w:World)(n:Nat)(v:Value)(L:List (Option Addr×Nat×Nat)):Prop:=∃a cap,v=.slice a L.length cap/\(L=[]\/∃g off,a=some ⟨g,off,none⟩/\∀i s,L[i]?=some s->w.cell? ⟨g,off+i,none⟩=some (.slice s.1 s.2.1 s.2.2)/\s.2.1<=2000000/\(s.2.1=0\/∃g' Mw,s.1=some ⟨g',Mw,none⟩/\∀k,k<s.2.1->w.cell? ⟨g',Mw+k*2,none⟩=some (.string (dM (i/n)))/\w.cell? ⟨g',Mw+k*2+1,none⟩=some (.string ⟨#[]⟩)))
theorem lk.below{w w':World}{n:Nat}{v:Value}{L:List (Option Addr×Nat×Nat)}(h:lk w n v L)(hb:Lt w w'):lk w' n v L:=by
 obtain⟨a,cap,h1,h2⟩:=h;refine⟨a,cap,h1,h2.imp (fun e=>e) ?_⟩;rintro⟨g,off,ha,hh⟩;refine⟨g,off,ha,fun i s hs=>?_⟩;obtain⟨c0,hl,hr⟩:=hh i s hs;refine⟨ao hb c0,hl,hr.imp (fun e=>e) ?_⟩;rintro⟨g',Mw,ha',hk⟩;refine⟨g',Mw,ha',fun k hkl=>?_⟩;exact⟨ao hb (hk k hkl).1,ao hb (hk k hkl).2⟩
theorem lk.at{w:World}{n i cap:Nat}{a:Option Addr}{L:List (Option Addr×Nat×Nat)}{s:Option Addr×Nat×Nat}(h:lk w n (.slice a L.length cap) L)(hi:L[i]?=some s):∃g off,a=some ⟨g,off,none⟩/\w.cell? ⟨g,off+i,none⟩=some (.slice s.1 s.2.1 s.2.2)/\s.2.1<=2000000/\∀k,k<s.2.1->∃g' Mw,s.1=some ⟨g',Mw,none⟩/\w.cell? ⟨g',Mw+k*2,none⟩=some (.string (dM (i/n)))/\w.cell? ⟨g',Mw+k*2+1,none⟩=some (.string ⟨#[]⟩):=by
 obtain⟨a1,c1,e,h2⟩:=h;cases e;rcases h2 with e|⟨g,off,ha,hh⟩
 ·rw[e]at hi;simp at hi
 ·obtain⟨c0,hl,hr⟩:=hh i s hi
  refine⟨g,off,ha,c0,hl,fun k hk=>?_⟩;rcases hr with e|⟨g',Mw,ha',hk'⟩
  ·omega
  ·exact⟨g',Mw,ha',(hk' k hk).1,(hk' k hk).2⟩
theorem Jb(v:Value)(L:List (Option Addr×Nat×Nat))(w:World)(h:lk w 1 v L)(hl:L.length<=2000000):
 Calls prog 20 #[v,.int .i64 1] w fun e w'=>e=.returned (.bool true)/\Lt w w':=by
 have H:=aa h;have hq34:=t8;have hg34:=eg34;obtain⟨aV,cV,rfl,_⟩:=h;go_enter func20,ntmps20;go_wp2_with fail;go_loopg [5,6,7] L.length (fun m v5 v6 v7 wr=>∃i:Nat,v5=.int .i64 i/\i<=L.length/\L.length-i<=m/\Lt w wr)
 case atStart=>exact⟨0,rfl,KU _,KK _,KL _ _⟩
 case round=>
  obtain⟨i,rfl,hil,hm,hb⟩:=hrel;by_cases hlt:i<L.length
  ·obtain⟨⟨sa,sn,sc⟩,hs⟩:∃s,L[i]?=some s:=⟨_,KM hlt⟩
   have HB:=aa hb;clear hb;have HM:=aa (fun W (hW:Lt w W)=>(H.o.below hW).at hs);simp only at HM;obtain⟨gV,oV,e,_,hsl,_⟩:=HM.o w (KL _ _);subst e;go_wp2_with fail;refine(ox i wr (by omega)).mono ?_;rintro _ w1 ⟨rfl,b1⟩;have HB1:=aa (bT HB.o b1);obtain⟨g2,o2,e,c0,_,_⟩:=HM.o w1 HB1.o;cases e;have hgV:gV<w1.heap.size:=KQ w1 _ c0;clear b1;go_wp2_with fail;go_loopg [7] sn (fun m v7 wr=>∃k nn:Nat,v7=.int .i64 k/\k<=sn/\sn-k<=m/\wr=(w1.alloc (.cells #[.string (dM i),.string ⟨#[]⟩] 34)).drewN nn)
   case atStart=>exact⟨0,0,rfl,KU _,KK _,rfl⟩
   case round=>
    obtain⟨k,nn,rfl,hkl,hm2,rfl⟩:=hrel;by_cases Ml:k<sn
    ·obtain⟨g3,o3,e,c0,_,hk⟩:=HM.o w1 HB1.o
     cases e;obtain⟨g',Mw,e,k0,k1⟩:=hk k Ml;subst e;rw[Nat.div_one]at k0;have hg':g'<w1.heap.size:=KQ w1 _ k0;clear hk;go_wp2_with fail;go_quiet (fail);go_wp2_with fail;go_roundg (sn-(k+1))
     case measure=>omega
     case rel=>exact⟨k+1,_,by go_num,by omega,KK _,by first|exact World.drewN_drewN _ _ _|rfl⟩
    ·go_wp2_with fail
     go_roundg (L.length-(i+1))
     case measure=>omega
     case rel=>exact⟨i+1,by go_num,by omega,KK _,below_drewN (bA HB1.o _) _⟩
  ·go_wp2_with fail
   go_ret;exact⟨rfl,hb⟩
theorem Hz(v:Value)(L:List (Option Addr×Nat×Nat))(w:World)(h:lk w 4 v L)(hl:L.length<=2000000):
 Calls prog 20 #[v,.int .i64 4] w fun e w'=>e=.returned (.bool true)/\Lt w w':=by
 have H:=aa h;have hq34:=t8;have hg34:=eg34;obtain⟨aV,cV,rfl,_⟩:=h;go_enter func20,ntmps20;go_wp2_with fail;go_loopg [5,6,7] L.length (fun m v5 v6 v7 wr=>∃i:Nat,v5=.int .i64 i/\i<=L.length/\L.length-i<=m/\Lt w wr)
 case atStart=>exact⟨0,rfl,KU _,KK _,KL _ _⟩
 case round=>
  obtain⟨i,rfl,hil,hm,hb⟩:=hrel;by_cases hlt:i<L.length
  ·obtain⟨⟨sa,sn,sc⟩,hs⟩:∃s,L[i]?=some s:=⟨_,KM hlt⟩
   have HB:=aa hb;clear hb;have HM:=aa (fun W (hW:Lt w W)=>(H.o.below hW).at hs);simp only at HM;obtain⟨gV,oV,e,_,hsl,_⟩:=HM.o w (KL _ _);subst e;go_wp2_with fail;rw[show((i:Int)/4)=((i/4:Nat):Int)from by omega];refine(ox (i/4) wr (by omega)).mono ?_;rintro _ w1 ⟨rfl,b1⟩;have HB1:=aa (bT HB.o b1);obtain⟨g2,o2,e,c0,_,_⟩:=HM.o w1 HB1.o;cases e;have hgV:gV<w1.heap.size:=KQ w1 _ c0;clear b1;go_wp2_with fail;go_loopg [7] sn (fun m v7 wr=>∃k nn:Nat,v7=.int .i64 k/\k<=sn/\sn-k<=m/\wr=(w1.alloc (.cells #[.string (dM (i/4)),.string ⟨#[]⟩] 34)).drewN nn)
   case atStart=>exact⟨0,0,rfl,KU _,KK _,rfl⟩
   case round=>
    obtain⟨k,nn,rfl,hkl,hm2,rfl⟩:=hrel;by_cases Ml:k<sn
    ·obtain⟨g3,o3,e,c0,_,hk⟩:=HM.o w1 HB1.o
     cases e;obtain⟨g',Mw,e,k0,k1⟩:=hk k Ml;subst e;have hg':g'<w1.heap.size:=KQ w1 _ k0;clear hk;go_wp2_with fail;go_quiet (fail);go_wp2_with fail;go_roundg (sn-(k+1))
     case measure=>omega
     case rel=>exact⟨k+1,_,by go_num,by omega,KK _,by first|exact World.drewN_drewN _ _ _|rfl⟩
    ·go_wp2_with fail
     go_roundg (L.length-(i+1))
     case measure=>omega
     case rel=>exact⟨i+1,by go_num,by omega,KK _,below_drewN (bA HB1.o _) _⟩
  ·go_wp2_with fail
   go_ret;exact⟨rfl,hb⟩
abbrev SL:=Option Addr×Nat×Nat
structure qK(w:World)(b:Nat)(l1 l2 l4 l5 wr rr:Value)(L1 L2 L4 L5:List SL):Prop where
 b:w.heap[b]?=some (.cells #[l1,l2,.slice none 0 0,l4,l5,wr,rr,.slice none 0 0,.slice none 0 0] 31 (0,0))
 m1:lw w 4 l1 L1
 m2:lk w 4 l2 L2
 m4:lw w 1 l4 L4
 m5:lk w 1 l5 L5
 n1:L1.length<=2000000
 n2:L2.length<=2000000
 n4:L4.length<=2000000
 n5:L5.length<=2000000
theorem qK.below{w w':World}{b:Nat}{l1 l2 l4 l5 wr rr:Value}{L1 L2 L4 L5:List SL}(h:qK w b l1 l2 l4 l5 wr rr L1 L2 L4 L5)(hb:Lt w w'):qK w' b l1 l2 l4 l5 wr rr L1 L2 L4 L5:=
 ⟨(hb.block _ (ag h.b)).trans h.b,h.m1.below hb,h.m2.below hb,h.m4.below hb,h.m5.below hb,h.n1,h.n2,h.n4,h.n5⟩
theorem D7(w:World)(b:Nat)(l1 l2 l4 l5 wr rr:Value)(L1 L2 L4 L5:List SL)(h:qK w b l1 l2 l4 l5 wr rr L1 L2 L4 L5):
 Calls prog 8 #[.pointer (some ⟨b,0,none⟩)] w fun e w'=>e=.returned (.bool true)/\Lt w w':=by
 have H:=aa h;obtain⟨a1,c1,rfl,_⟩:=id h.m1;obtain⟨a2,c2,rfl,_⟩:=id h.m2;obtain⟨a4,c4,rfl,_⟩:=id h.m4;obtain⟨a5,c5,rfl,_⟩:=id h.m5;have c:=ae h.b;have hl:=ag h.b;clear h;go_enter func8,ntmps8;go_wp2_with fail;refine(Bw 4 (Or.inr rfl) _ L1 w H.o.m1 H.o.n1).mono ?_;rintro _ w1 ⟨rfl,b1⟩;have c:=ae (H.o.below b1).b;have hl1:=ag (H.o.below b1).b;go_wp2_with fail;refine(Bw 1 (Or.inl rfl) _ L4 w1 (H.o.below b1).m4 H.o.n4).mono ?_;rintro _ w2 ⟨rfl,b2⟩;have b2:=bT b1 b2;have c:=ae (H.o.below b2).b;go_wp2_with fail;refine(Hz _ L2 w2 (H.o.below b2).m2 H.o.n2).mono ?_;rintro _ w3 ⟨rfl,b3⟩;have b3:=bT b2 b3;have c:=ae (H.o.below b3).b;go_wp2_with fail;refine(Jb _ L5 w3 (H.o.below b3).m5 H.o.n5).mono ?_;rintro _ w4 ⟨rfl,b4⟩;have b4:=bT b3 b4;have c:=ae (H.o.below b4).b;have HB4:=aa b4;clear b1 b2 b3 b4;go_wp2_with fail;go_loopg [7,8,9] 0 (fun m v7 v8 v9 wr=>v7=.int .i64 0/\∃nn,wr=w4.drewN nn)
 case atStart=>exact⟨rfl,0,rfl⟩
 case round=>
  obtain⟨rfl,nn,rfl⟩:=hrel;go_wp2_with fail;go_ret;exact⟨rfl,below_drewN HB4.o _⟩
end Go.Proofs.YtgbloieahmkcjaaGreat
