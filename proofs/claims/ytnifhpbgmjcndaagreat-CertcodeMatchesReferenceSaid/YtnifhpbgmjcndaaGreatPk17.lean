import Derived.Test.YtnifhpbgmjcndaaGreatCkVal
set_option linter.unusedVariables false
set_option linter.unusedSimpArgs false
set_option maxRecDepth 100000
set_option maxHeartbeats 8000000
namespace Go.Proofs.YtnifhpbgmjcndaaGreat
open Go.RowKit
theorem zhN{W1 W3:World}{s0 f0 f1 f2 g:Array Value}{ts t:TypeId}(hb:Below (((((W1.alloc (.cells s0 ts)).alloc (.cells f0 t)).alloc (.cells f1 t)).alloc (.cells f2 t)).alloc (.cells g t)).heap.size (((((W1.alloc (.cells s0 ts)).alloc (.cells f0 t)).alloc (.cells f1 t)).alloc (.cells f2 t)).alloc (.cells g t)) W3):
  Row W3 (W1.heap.size+1) t f0∧Row W3 (W1.heap.size+1+1) t f1∧Row W3 (W1.heap.size+1+1+1) t f2∧Below W1.heap.size W1 W3:=by
 have r0:=((((Row.new' (W:=W1.alloc (.cells s0 ts)) (p:=W1.heap.size+1) (by simp) t f0).alloc (.cells f1 t)).alloc (.cells f2 t)).alloc (.cells g t)).below hb (by simp)
 have r1:=(((Row.new' (W:=(W1.alloc (.cells s0 ts)).alloc (.cells f0 t)) (p:=W1.heap.size+1+1) (by simp) t f1).alloc (.cells f2 t)).alloc (.cells g t)).below hb (by simp)
 have r2:=((Row.new' (W:=((W1.alloc (.cells s0 ts)).alloc (.cells f0 t)).alloc (.cells f1 t)) (p:=W1.heap.size+1+1+1) (by simp) t f2).alloc (.cells g t)).below hb (by simp)
 refine ⟨r0,r1,r2,?_⟩
 have h0:=(((((ld W1.heap.size W1).alloc (la _) (.cells s0 ts)).alloc (by simp) (.cells f0 t)).alloc (by simp;omega) (.cells f1 t)).alloc (by simp;omega) (.cells f2 t)).alloc (by simp;omega) (.cells g t)
 exact h0.trans (hb.mono h0.size)
theorem zhO(k:Int):kO k=false∧(k !=1)=true∧(k !=2)=true∧(k !=3)=true∨
  kO k=true∧∃n1 n2 n3 e2:Bool,(k !=1)=n1∧(k !=2)=n2∧(k !=3)=n3∧(k==2)=e2∧((n1=false∧n2=true∧n3=true∧e2=false)∨(n1=true∧n2=false∧n3=true∧e2=true)∨(n1=true∧n2=true∧n3=false∧e2=false)):=by
 by_cases h1:k=1
 ·subst h1;exact .inr ⟨rfl,_,_,_,_,rfl,rfl,rfl,rfl,.inl ⟨rfl,rfl,rfl,rfl⟩⟩
 ·by_cases h2:k=2
  ·subst h2;exact .inr ⟨rfl,_,_,_,_,rfl,rfl,rfl,rfl,.inr (.inl ⟨rfl,rfl,rfl,rfl⟩)⟩
  ·by_cases h3:k=3
   ·subst h3;exact .inr ⟨rfl,_,_,_,_,rfl,rfl,rfl,rfl,.inr (.inr ⟨rfl,rfl,rfl,rfl⟩)⟩
   ·exact .inl ⟨by simp [kO,h1,h2,h3],by simp [h1],by simp [h2],by simp [h3]⟩
theorem zbx(t:Tm)(regs blocks:Int)(w:World):
  Calls Tryz.prog 143 #[.agg #[.int .i64 t.kind,.int .i64 t.a,.int .i64 t.to,.int .i64 t.el],.int .i64 regs,.int .i64 blocks] w fun e w'=>e= .returned (.int .i64 (eT t regs blocks))∧Below w.heap.size w w':=by
 rcases zhO t.kind with ⟨hO,n1,n2,n3⟩|⟨hO,b1,b2,b3,b4,n1,n2,n3,n4,hb⟩
 ·have HE:Hid (eT t regs blocks=16):=by rw [Hid,eT,hO];rfl
  have HB:=qH ((ld w.heap.size w).alloc (la _) (.cells #[.int .i64 t.kind,.int .i64 t.a,.int .i64 t.to,.int .i64 t.el] 57))
  clear hO
  go_enter Tryz.func143,Tryz.ntmps143
  go_wp2
  go_ret
  exact ⟨by rw [HE.out];rfl,HB.out⟩
 ·have HE:Hid (eT t regs blocks=if okR regs t.aF then if okR blocks t.toF then if okZ t.allF then 0 else 12 else 11 else 9):=by rw [Hid,eT,hO];rfl
  have HA:Hid (t.aF= [(b1,t.a)]):=by rw [Hid,Tm.aF,n1]
  have HT:Hid (t.toF= [(b3,t.to),(b4,t.el)]):=by rw [Hid,Tm.toF,n3,n4]
  have HZ:Hid (t.allF= [(b1,t.a),(b3,t.to),(b4,t.el)]):=by rw [Hid,Tm.allF,n1,n3,n4]
  have HN4:=qH n4
  clear hO n4
  go_enter Tryz.func143,Tryz.ntmps143
  rcases hb with ⟨rfl,rfl,rfl,rfl⟩|⟨rfl,rfl,rfl,rfl⟩|⟨rfl,rfl,rfl,rfl⟩
  all_goals
   have n4:=HN4.out
   go_wp2_with fail
   refine (Zw (w.heap.size+1+1+1+1+1) _ t.aF 1 regs _ ?s1 ?s2 ?s3).mono ?_
   case s1=>exact J3 (by simp) _ _ (by rw [HA.out];rfl)
   case s2=>simp
   case s3=>exact (by decide:1≤1000)
   rintro e W3 ⟨rfl,hb3⟩
   obtain ⟨r0,r1,r2,hb⟩:=zhN hb3
   have c0:=r0.k0;have c1:=r0.k1;have c2:=r1.k0;have c3:=r1.k1;have c4:=r2.k0;have c5:=r2.k1
   have HB3:=qH hb
   have H0:=qH r0;have H1:=qH r1;have H2:=qH r2
   clear hb3 hb r0 r1 r2 n1 n2 n3 n4
   cases hok:okR regs t.aF
   ·have HE2:Hid (eT t regs blocks=9):=by rw [Hid,HE.out,hok];rfl
    clear hok
    go_wp2
    go_ret
    exact ⟨by rw [HE2.out];rfl,HB3.out⟩
   ·have HE2:Hid (eT t regs blocks=if okR blocks t.toF then if okZ t.allF then 0 else 12 else 11):=by rw [Hid,HE.out,hok];rfl
    clear hok
    go_wp2_with fail
    refine (Zw (W3.heap.size+1) _ t.toF 2 blocks _ ?s4 ?s5 ?s6).mono ?_
    case s4=>exact J3 rfl _ _ (by rw [HT.out];rfl)
    case s5=>simp
    case s6=>exact (by decide:2≤1000)
    rintro e W4 ⟨rfl,hb4⟩
    have HB4:=qH ((HB3.out.alloc HB3.out.size _).trans (hb4.mono (HB3.out.alloc HB3.out.size _).size))
    have r0:=(H0.out.alloc _).below hb4 (H0.out.alloc _).lt
    have r1:=(H1.out.alloc _).below hb4 (H1.out.alloc _).lt
    have r2:=(H2.out.alloc _).below hb4 (H2.out.alloc _).lt
    clear c0 c1 c2 c3 c4 c5 hb4
    have c0:=r0.k0;have c1:=r0.k1;have c2:=r1.k0;have c3:=r1.k1;have c4:=r2.k0;have c5:=r2.k1
    clear r0 r1 r2 H0 H1 H2
    cases hok:okR blocks t.toF
    ·have HE3:Hid (eT t regs blocks=11):=by rw [Hid,HE2.out,hok];rfl
     clear hok
     go_wp2
     go_ret
     exact ⟨by rw [HE3.out];rfl,HB4.out⟩
    ·have HE3:Hid (eT t regs blocks=if okZ t.allF then 0 else 12):=by rw [Hid,HE2.out,hok];rfl
     clear hok
     go_wp2_with fail
     refine (UH (W4.heap.size+1) _ t.allF 3 _ ?s7 ?s8 ?s9).mono ?_
     case s7=>exact J3 rfl _ _ (by rw [HZ.out];rfl)
     case s8=>simp
     case s9=>exact (by decide:3≤1000)
     rintro e W5 ⟨rfl,hb5⟩
     have HB5:=qH ((HB4.out.alloc HB4.out.size _).trans (hb5.mono (HB4.out.alloc HB4.out.size _).size))
     clear c0 c1 c2 c3 c4 c5 hb5
     cases hok:okZ t.allF
     ·have HE4:Hid (eT t regs blocks=12):=by rw [Hid,HE3.out,hok];rfl
      clear hok
      go_wp2
      go_ret
      exact ⟨by rw [HE4.out];rfl,HB5.out⟩
     ·have HE4:Hid (eT t regs blocks=0):=by rw [Hid,HE3.out,hok];rfl
      clear hok
      go_wp2
      go_ret
      exact ⟨by rw [HE4.out];rfl,HB5.out⟩
theorem zez(B:Nat)(A:Option Addr)(x:Blk)(c:Nat)(regs n:Int)(w:World)(hs:InsAt w B A x.code)(hB:B≤w.heap.size)(hm:x.code.length≤1000000):
  Calls Tryz.prog 139 #[.agg #[.slice A x.code.length c,.int .i64 x.term.kind,.int .i64 x.term.a,.int .i64 x.term.to,.int .i64 x.term.el],.int .i64 regs,.int .i64 n] w fun e w'=>e= .returned (.int .i64 (eB x regs n))∧Below w.heap.size w w':=by
 have hbox:=Row.new w 60 #[.slice A x.code.length c,.int .i64 x.term.kind,.int .i64 x.term.a,.int .i64 x.term.to,.int .i64 x.term.el]
 have HB0:=qH ((ld w.heap.size w).alloc (la _) (.cells #[.slice A x.code.length c,.int .i64 x.term.kind,.int .i64 x.term.a,.int .i64 x.term.to,.int .i64 x.term.el] 60))
 have HX:=qH hbox
 clear hbox
 go_enter Tryz.func139,Tryz.ntmps139
 go_wp2
 go_loopw [13] (fun i wr=>∃k:Nat,k≤x.code.length∧i= .int .i64 k∧Hid (eIs regs x.code=eIs regs (x.code.drop k))∧Hid (Below w.heap.size w wr)∧Hid (Row wr w.heap.size 60 #[.slice A x.code.length c,.int .i64 x.term.kind,.int .i64 x.term.a,.int .i64 x.term.to,.int .i64 x.term.el])) (fun i _=>x.code.length - (intOf i).toNat)
 case atStart=>exact ⟨0,lF _,rfl,rfl,HB0.out,HX.out⟩
 case round=>
  obtain ⟨k,hk,rfl,HT,HB,HR⟩:=hrel
  by_cases hlt:k<x.code.length
  ·obtain ⟨b,o,rfl,hb,hat⟩:=((hs.more hB).below HB.out).at_ hlt
   have HS:=qH (HT.out.trans (zak regs x.code k hlt))
   have hc0:=hat.c0;have hc1:=hat.c1;have hc2:=hat.c2;have hc3:=hat.c3;have hc4:=hat.c4
   have HB1:=qH (HB.out.alloc HB.out.size (.cells #[.int .i64 x.code[k].op,.int .i64 x.code[k].d,.int .i64 x.code[k].a,.int .i64 x.code[k].b,.int .i64 x.code[k].imm] 125))
   have HR1:=qH (HR.out.alloc (.cells #[.int .i64 x.code[k].op,.int .i64 x.code[k].d,.int .i64 x.code[k].a,.int .i64 x.code[k].b,.int .i64 x.code[k].imm] 125))
   clear hat HT HB HR hs HB0 HX
   generalize x.code[k]=y at*
   go_wp2_with fail
   refine (Qi y regs _).mono ?_
   rintro e W1 ⟨rfl,hb1⟩
   have HB2:=qH (HB1.out.trans (hb1.mono HB1.out.size))
   have HR2:=qH (HR1.out.below hb1 HR1.out.lt)
   clear hb1 HB1 HR1
   obtain ⟨v,hv⟩:∃z,eI y regs=z:=⟨_,rfl⟩
   rw [hv] at HS⊢
   clear hv
   by_cases h0:v=0
   ·have e0:(v !=0)=false:=by simp [h0]
    have HS2:Hid (eIs regs x.code=eIs regs (x.code.drop (k+1))):=by rw [Hid,HS.out,if_pos h0]
    clear HS h0
    go_wp2
    go_roundw
    case rel=>exact ⟨k+1,by omega,by go_num,HS2.out,HB2.out,HR2.out⟩
    case measure=>simp [intOf];omega
   ·have e0:(v !=0)=true:=by simp [h0]
    have HE:Hid (eB x regs n=v):=by rw [Hid,eB,HS.out,if_neg h0,if_neg h0]
    clear HS h0
    go_wp2
    go_ret
    exact ⟨by rw [HE.out];rfl,HB2.out⟩
  ·obtain rfl:k=x.code.length:=by omega
   rw [List.drop_length] at HT
   have HE:Hid (eB x regs n=eT x.term regs n):=by rw [Hid,eB,HT.out];rfl
   have hr:=HR.out
   have c1:=hr.k1;have c2:=hr.k2;have c3:=hr.k3;have c4:=hr.k4
   clear hr HR HT hs
   go_wp2_with fail
   refine (zbx x.term regs n _).mono ?_
   rintro e W1 ⟨rfl,hb1⟩
   have HB2:=qH (HB.out.trans (hb1.mono HB.out.size))
   clear hb1
   go_wp2
   go_ret
   exact ⟨by rw [HE.out];rfl,HB2.out⟩
theorem zeA(B:Nat)(A:Option Addr)(bs:List Blk)(c:Nat)(args regs:Int)(w:World)(hs:BlksAt w B A bs)(hB:B≤w.heap.size)(hm:bs.length≤1000)(hn:zQ bs≤1000000):
  Calls Tryz.prog 90 #[.agg #[.int .i64 args,.int .i64 regs,.slice A bs.length c]] w fun e w'=>e= .returned (.int .i64 (eF args regs bs))∧Below w.heap.size w w':=by
 have hbox:=Row.new w 25 #[.int .i64 args,.int .i64 regs,.slice A bs.length c]
 have HB0:=qH ((ld w.heap.size w).alloc (la _) (.cells #[.int .i64 args,.int .i64 regs,.slice A bs.length c] 25))
 have HC:=qH (zd6 B A bs c args regs _ (hs.alloc hB (.cells #[.int .i64 args,.int .i64 regs,.slice A bs.length c] 25)) (by simp;omega) hm hn)
 have HX:=qH hbox
 clear hbox
 go_enter Tryz.func90,Tryz.ntmps90
 go_wp2_with fail
 refine HC.out.mono ?_
 rintro e W1 ⟨rfl,hb1⟩
 have HB1:=qH (HB0.out.trans (hb1.mono HB0.out.size))
 have HX1:=qH (HX.out.below hb1 HX.out.lt)
 have d1:=HX1.out.k1;have d2:=HX1.out.k2
 clear hb1 HC HB0 HX
 obtain ⟨v,hv⟩:∃z,eSz args regs bs=z:=⟨_,rfl⟩
 rw [hv]
 by_cases h0:v=0
 ·have e0:(v !=0)=false:=by simp [h0]
  have HE:Hid (eF args regs bs=eBs regs bs.length bs):=by rw [Hid,eF,hv,if_pos h0]
  clear hv h0
  go_wp2
  go_loopw [15] (fun i wr=>∃k:Nat,k≤bs.length∧i= .int .i64 k∧Hid (eBs regs bs.length bs=eBs regs bs.length (bs.drop k))∧Hid (Below w.heap.size w wr)∧Hid (Row wr w.heap.size 25 #[.int .i64 args,.int .i64 regs,.slice A bs.length c])) (fun i _=>bs.length - (intOf i).toNat)
  case atStart=>exact ⟨0,lF _,rfl,rfl,HB1.out,HX1.out⟩
  case round=>
   obtain ⟨k,hk,rfl,HT,HB,HR⟩:=hrel
   clear d1 d2
   by_cases hlt:k<bs.length
   ·have hs1:=(hs.more hB).below HB.out
    obtain ⟨b,o,rfl,hb,hat⟩:=hs1.at_ hlt
    have HS:=qH (HT.out.trans (zal regs bs.length bs k hlt))
    obtain ⟨A1,c1,hc0,hl1,hl2,hin⟩:=hat.code
    have hc1:=hat.t0;have hc2:=hat.t1;have hc3:=hat.t2;have hc4:=hat.t3
    have hz:=HB.out.size
    have HB2:=qH (HB.out.alloc HB.out.size (.cells #[.slice A1 bs[k].code.length c1,.int .i64 bs[k].term.kind,.int .i64 bs[k].term.a,.int .i64 bs[k].term.to,.int .i64 bs[k].term.el] 60))
    have HR2:=qH (HR.out.alloc (.cells #[.slice A1 bs[k].code.length c1,.int .i64 bs[k].term.kind,.int .i64 bs[k].term.a,.int .i64 bs[k].term.to,.int .i64 bs[k].term.el] 60))
    have HK:=qH (zez w.heap.size A1 bs[k] c1 regs bs.length (wr.alloc (.cells #[.slice A1 bs[k].code.length c1,.int .i64 bs[k].term.kind,.int .i64 bs[k].term.a,.int .i64 bs[k].term.to,.int .i64 bs[k].term.el] 60)) (hin.keep fun p hp=>World.cell?_alloc_lt wr _ p (by omega)) (by simp;omega) (by have:=ZN bs k hlt;omega))
    have d1:=HR.out.k1;have d2:=HR.out.k2
    have hlz:w.heap.size<wr.heap.size:=HR.out.lt
    clear hat HT HB HR hs hs1 HX1 HB1 hin
    generalize bs[k]=y at*
    go_wp2_with fail
    refine HK.out.mono ?_
    rintro e W2 ⟨rfl,hb2⟩
    have HB3:=qH (HB2.out.trans (hb2.mono HB2.out.size))
    have HR3:=qH (HR2.out.below hb2 HR2.out.lt)
    clear hb2 HB2 HR2 HK
    obtain ⟨v,hv⟩:∃z,eB y regs bs.length=z:=⟨_,rfl⟩
    rw [hv] at HS⊢
    clear hv
    by_cases h0:v=0
    ·have e0:(v !=0)=false:=by simp [h0]
     have HS2:Hid (eBs regs bs.length bs=eBs regs bs.length (bs.drop (k+1))):=by rw [Hid,HS.out,if_pos h0]
     clear HS h0
     go_wp2
     go_roundw
     case rel=>exact ⟨k+1,by omega,by go_num,HS2.out,HB3.out,HR3.out⟩
     case measure=>simp [intOf];omega
    ·have e0:(v !=0)=true:=by simp [h0]
     have HE2:Hid (eF args regs bs=v):=by rw [Hid,HE.out,HS.out,if_neg h0]
     clear HS h0
     go_wp2
     go_ret
     exact ⟨by rw [HE2.out];rfl,HB3.out⟩
   ·obtain rfl:k=bs.length:=by omega
    rw [List.drop_length] at HT
    have HE2:Hid (eF args regs bs=0):=by rw [Hid,HE.out,HT.out];rfl
    go_wp2
    go_ret
    exact ⟨by rw [HE2.out];rfl,HB.out⟩
 ·have e0:(v !=0)=true:=by simp [h0]
  have HE:Hid (eF args regs bs=v):=by rw [Hid,eF,hv,if_neg h0]
  clear hv h0
  go_wp2
  go_ret
  exact ⟨by rw [HE.out];rfl,HB1.out⟩
structure CK(w:World)(args regs slots:Int)(A:Option Addr)(n c:Nat)(p q f:Nat)(W:World):Prop where
 below:Below w.heap.size w W
 b:Row W w.heap.size 28 #[.int .i64 args,.int .i64 regs,.int .i64 slots,.slice A n c]
 f:Row W f 201 #[.func (.func 181) #[] #[.pointer (some ⟨p,0,none⟩),.pointer (some ⟨q,0,none⟩)],.func (.func 183) #[] #[.pointer (some ⟨p,0,none⟩)]]
 n:Fin2 W p q regs slots
theorem CK.next{w W W':World}{args regs slots:Int}{A:Option Addr}{n c p q f:Nat}(h:CK w args regs slots A n c p q f W)(hb:Below W.heap.size W W'):CK w args regs slots A n c p q f W':=
 ⟨h.below.trans (hb.mono h.below.size),h.b.below hb h.b.lt,h.f.below hb h.f.lt,h.n.next hb⟩
theorem CK.alloc{w W:World}{args regs slots:Int}{A:Option Addr}{n c p q f:Nat}(h:CK w args regs slots A n c p q f W)(o:Obj):CK w args regs slots A n c p q f (W.alloc o):=h.next ((ld _ _).alloc (la _) o)
theorem zcI(B:Nat)(A:Option Addr)(bs:List MBlk)(c:Nat)(args regs slots:Int)(w:World)(hs:MBlksAt w B A bs)(hB:B≤w.heap.size)(hm:bs.length≤1000)(hn:zF bs≤1000000):
  Calls Tryz.prog 91 #[.agg #[.int .i64 args,.int .i64 regs,.int .i64 slots,.slice A bs.length c]] w fun e w'=>e= .returned (.int .i64 (eMF args regs slots bs))∧Below w.heap.size w w':=by
 have hbox:=Row.new w 28 #[.int .i64 args,.int .i64 regs,.int .i64 slots,.slice A bs.length c]
 have HB0:=qH ((ld w.heap.size w).alloc (la _) (.cells #[.int .i64 args,.int .i64 regs,.int .i64 slots,.slice A bs.length c] 28))
 have HC:=qH (zcb B A bs c args regs slots _ (hs.alloc hB (.cells #[.int .i64 args,.int .i64 regs,.int .i64 slots,.slice A bs.length c] 28)) (by simp;omega) hm hn)
 have HX:=qH hbox
 have HS:=qH hs
 clear hbox hs
 go_enter Tryz.func91,Tryz.ntmps91
 go_wp2_with fail
 refine HC.out.mono ?_
 rintro e W1 ⟨rfl,hb1⟩
 have HB1:=qH (HB0.out.trans (hb1.mono HB0.out.size))
 have HX1:=qH (HX.out.below hb1 HX.out.lt)
 have d1:=HX1.out.k1;have d2:=HX1.out.k2;have d3:=HX1.out.k3
 clear hb1 HC HB0 HX
 obtain ⟨v,hv⟩:∃z,JO args regs slots bs=z:=⟨_,rfl⟩
 rw [hv]
 by_cases h0:v=0
 ·have e0:(v !=0)=false:=by simp [h0]
  have HE:Hid (eMF args regs slots bs=jY regs slots bs.length bs):=by rw [Hid,eMF,hv,if_pos h0]
  clear hv h0
  go_wp2_with fail
  refine (za4 regs slots _).mono ?_
  rintro e W2 ⟨p,q,rfl,hf,_,_,hb2⟩
  have HB2:=qH (HB1.out.trans (hb2.mono HB1.out.size))
  have HX2:=qH (HX1.out.below hb2 HX1.out.lt)
  have HK0:=qH ((⟨HB2.out.alloc HB2.out.size _,HX2.out.alloc _,Row.new W2 _ _,hf.next ((ld _ _).alloc (la _) _)⟩:CK w args regs slots A bs.length c p q W2.heap.size (W2.alloc (.cells #[.func (.func 181) #[] #[.pointer (some ⟨p,0,none⟩),.pointer (some ⟨q,0,none⟩)],.func (.func 183) #[] #[.pointer (some ⟨p,0,none⟩)]] 201))))
  clear d1 d2 d3
  have d1:=HX2.out.k1;have d2:=HX2.out.k2;have d3:=HX2.out.k3
  have hlz2:w.heap.size<W2.heap.size:=HX2.out.lt
  clear hb2 hf HB1 HX1 HB2 HX2
  go_wp2
  generalize W2.heap.size=fz at*
  go_loopw [22] (fun i wr=>∃k:Nat,k≤bs.length∧i= .int .i64 k∧Hid (jY regs slots bs.length bs=jY regs slots bs.length (bs.drop k))∧Hid (CK w args regs slots A bs.length c p q fz wr)) (fun i _=>bs.length - (intOf i).toNat)
  case atStart=>exact ⟨0,lF _,rfl,rfl,HK0.out⟩
  case round=>
   obtain ⟨k,hk,rfl,HT,HK⟩:=hrel
   clear d1 d2 d3 HK0
   by_cases hlt:k<bs.length
   ·have hs1:=(HS.out.more hB).below HK.out.below
    obtain ⟨b,o,rfl,hb,hat⟩:=hs1.at_ hlt
    have HST:=qH (HT.out.trans (Qg regs slots bs.length bs k hlt))
    obtain ⟨A1,c1,hc0,hl1,hl2,hin⟩:=hat.code
    have hc1:=hat.t0;have hc2:=hat.t1;have hc3:=hat.t2;have hc4:=hat.t3
    have hz:=HK.out.below.size
    have HK2:=qH (HK.out.alloc (.cells #[.slice A1 bs[k].code.length c1,.int .i64 bs[k].term.kind,.int .i64 bs[k].term.a,.int .i64 bs[k].term.to,.int .i64 bs[k].term.el] 63))
    have HR2:=qH (Row.new wr 63 #[.slice A1 bs[k].code.length c1,.int .i64 bs[k].term.kind,.int .i64 bs[k].term.a,.int .i64 bs[k].term.to,.int .i64 bs[k].term.el])
    have HM:=qH (fun W (h1:MisAt W w.heap.size A1 bs[k].code) (h2:w.heap.size≤W.heap.size) (h3:Fin2 W p q regs slots)=>Qa w.heap.size A1 bs[k].code c1 regs slots p q W h1 h2 (by have:=Zd bs k hlt;omega) h3)
    have HI:=qH (hin.alloc hz (.cells #[.slice A1 bs[k].code.length c1,.int .i64 bs[k].term.kind,.int .i64 bs[k].term.a,.int .i64 bs[k].term.to,.int .i64 bs[k].term.el] 63))
    have d1:=HK.out.b.k1;have d3:=HK.out.b.k3;have f0:=HK.out.f.k0;have f1:=HK.out.f.k1
    have hlz:w.heap.size<wr.heap.size:=HK.out.b.lt
    have hlf:fz<wr.heap.size:=HK.out.f.lt
    have HU:=qH (show eMB bs[k] regs slots bs.length=if eCd regs slots 0 bs[k].code=0 then eT bs[k].term regs bs.length else eCd regs slots 0 bs[k].code from rfl)
    have HTM:=qH (fun W=>zbx bs[k].term regs bs.length W)
    clear hat HT HK hs1 hin
    obtain ⟨v,hv⟩:∃z,z=eCd regs slots 0 bs[k].code:=⟨_,rfl⟩
    rw [←hv] at HU HM
    clear hv
    obtain ⟨t,ht⟩:∃z,z=eT bs[k].term regs bs.length:=⟨_,rfl⟩
    rw [←ht] at HU HTM
    clear ht
    generalize bs[k]=y at*
    go_wp2_with fail
    refine (HM.out _ HI.out (by simp;omega) HK2.out.n).mono ?_
    rintro e W3 ⟨rfl,hb3⟩
    have HK3:=qH (HK2.out.next hb3)
    have hr3:=HR2.out.below hb3 HR2.out.lt
    clear HK2 HR2 HI HM d1 d3 f0 f1 hc0 hc1 hc2 hc3 hc4
    have d1:=HK3.out.b.k1;have d3:=HK3.out.b.k3
    have t0:=hr3.k1;have t1:=hr3.k2;have t2:=hr3.k3;have t3:=hr3.k4
    clear hb3 hr3
    by_cases h0:v=0
    ·have e0:(v !=0)=false:=by simp [h0]
     have HU2:Hid (eMB y regs slots bs.length=t):=by rw [Hid,HU.out,if_pos h0]
     clear HU h0
     go_wp2_with fail
     refine (HTM.out _).mono ?_
     rintro e W4 ⟨rfl,hb4⟩
     have HK4:=qH (HK3.out.next hb4)
     clear hb4 HK3 d1 d3 t0 t1 t2 t3
     by_cases h1:t=0
     ·have e1:(t !=0)=false:=by simp [h1]
      have HS2:Hid (jY regs slots bs.length bs=jY regs slots bs.length (bs.drop (k+1))):=by rw [Hid,HST.out,HU2.out,if_pos h1]
      clear HST h1
      go_wp2
      go_roundw
      case rel=>exact ⟨k+1,by omega,by go_num,HS2.out,HK4.out⟩
      case measure=>simp [intOf];omega
     ·have e1:(t !=0)=true:=by simp [h1]
      have HE2:Hid (eMF args regs slots bs=t):=by rw [Hid,HE.out,HST.out,HU2.out,if_neg h1]
      clear HST h1
      go_wp2
      go_ret
      exact ⟨by rw [HE2.out];rfl,HK4.out.below⟩
    ·have e0:(v !=0)=true:=by simp [h0]
     have HE2:Hid (eMF args regs slots bs=v):=by rw [Hid,HE.out,HST.out,HU.out,if_neg h0,if_neg h0]
     clear HST h0
     go_wp2
     go_ret
     exact ⟨by rw [HE2.out];rfl,HK3.out.below⟩
   ·obtain rfl:k=bs.length:=by omega
    rw [List.drop_length] at HT
    have HE2:Hid (eMF args regs slots bs=0):=by rw [Hid,HE.out,HT.out];rfl
    go_wp2
    go_ret
    exact ⟨by rw [HE2.out];rfl,HK.out.below⟩
 ·have e0:(v !=0)=true:=by simp [h0]
  have HE:Hid (eMF args regs slots bs=v):=by rw [Hid,eMF,hv,if_neg h0]
  clear hv h0
  go_wp2
  go_ret
  exact ⟨by rw [HE.out];rfl,HB1.out⟩
theorem zfW(B:Nat)(A:Option Addr)(l:List Pr)(c:Nat)(v r s:Int)(w:World)(hs:Sees w B A (prs l))(hB:B≤w.heap.size)(hm:l.length≤1000)(hw:∀p∈l,Uk p):
  Calls Tryz.prog 144 #[.slice A l.length c,.int .i64 v,.int .i64 r,.int .i64 s] w fun e w'=>e= .returned (.int .i64 (vlE v r s none l))∧Grew w w':=by
 have mixed:Tryz.prog.follows .mixedOrders=true:=by kernel_rfl
 have HPW:=qH hw
 have HSI:=qH hs
 clear hs hw
 obtain ⟨m,hml⟩:∃m,m=l.length:=⟨_,rfl⟩
 rw [←hml] at hm⊢
 have HML:=qH hml
 obtain ⟨F,hF⟩:∃z,z=vlE v r s none l:=⟨_,rfl⟩
 have HF:Hid (vlE v r s (bef l 0) (l.drop 0)=F):=hF.symm
 rw [←hF]
 clear hF hml
 go_enter Tryz.func144,Tryz.ntmps144
 go_wp2
 go_loopg [13] m (fun g v13 wr=>∃j:Nat,j+g=m∧v13= .int .i64 j∧Hid (vlE v r s (bef l j) (l.drop j)=F)∧Hid (Grew w wr))
 case atStart=>exact ⟨0,by omega,by go_num,HF.out,Grew.refl w⟩
 case round=>
  clear HF
  obtain ⟨j,hgj,rfl,HF,HG⟩:=hrel
  by_cases hj:j<m
  ·have hjz:(j:Int)<(m:Int):=by omega
   have hjl:j<l.length:=by rw [←HML.out];exact hj
   obtain ⟨b1,o1,rfl,hb1,hc0,hc1⟩:=jB HSI.out hjl
   have f1:=HG.out.cell hc0
   have f2:=HG.out.cell hc1
   obtain ⟨hw1,hw2⟩:=HPW.out _ (List.getElem_mem hjl)
   have hw2:=qH hw2
   have HQ:Hid (∀e,prE v r s (bef l j) l[j]=e→e≠0→F=e):=fun e he h0=>zdf hjl HF.out he h0
   have HQ0:Hid (prE v r s (bef l j) l[j]=0→vlE v r s (bef l (j+1)) (l.drop (j+1))=F):=fun he=>zgS hjl HF.out he
   generalize l[j]=p at*
   obtain ⟨p1,p2⟩:=p
   dsimp only at f1 f2 hw2
   clear hc0 hc1 HF hw1
   have HGA:=qH (HG.out.alloc (prObj p1 p2))
   by_cases h9:p1<0∨v≤p1
   ·have HEE:=qH (HQ.out 9 (zgR h9) (by decide))
    clear HQ HQ0
    by_cases h0:p1<0
    ·have d0:decide (p1<0)=true:=by simp [h0]
     clear h9
     go_wp2
     go_ret
     exact ⟨by rw [HEE.out];rfl,HGA.out⟩
    ·have d0:decide (p1<0)=false:=by simp [h0]
     have h1:v≤p1:=by omega
     have d1:decide (v≤p1)=true:=by simp [h1]
     clear h9
     go_wp2
     go_ret
     exact ⟨by rw [HEE.out];rfl,HGA.out⟩
   ·have h0:¬p1<0:=by omega
    have h1:¬v≤p1:=by omega
    have d0:decide (p1<0)=false:=by simp [h0]
    have d1:decide (v≤p1)=false:=by simp [h1]
    have hf2:=zde hw2.out
    rcases hb2:yd p2 r s with _|_
    ·have HEE:=qH (HQ.out 10 (zfm h9 hb2) (by decide))
     have C1:=qH fun W=>JF p2 r s false W hf2 hb2
     clear HQ HQ0 hb2 h9
     go_wp2_with (go_at_call 134;refine (C1.out _).mono ?_;rintro e w' ⟨rfl,rfl⟩)
     go_ret
     exact ⟨by rw [HEE.out];rfl,HGA.out⟩
    ·have C1:=qH fun W=>JF p2 r s true W hf2 hb2
     by_cases hj0:j=0
     ·have HN:=qH (HQ0.out (by rw [show bef l j=none by simp [bef,hj0]];exact za7 h9 hb2))
      have dj:decide (0<j)=false:=by simp;omega
      clear HQ HQ0 hb2 h9 hj0
      go_upto_region 4 with fail
      have hpr:=(Row.new wr 55 #[.int .i64 p1,.int .i64 p2])
      clear f1 f2
      generalize (wr.alloc (.cells #[.int .i64 p1,.int .i64 p2] 55))=W1 at*
      generalize wr.heap.size=pb at*
      have c0:=hpr.k0
      have c1:=hpr.k1
      clear hpr
      go_upto_region 8 with (go_at_call 134;refine (C1.out _).mono ?_;rintro e w' ⟨rfl,rfl⟩)
      go_quiet (fail)
      have HGB:=qH (HGA.out.drewN nq)
      generalize W1.drewN nq=W2 at*
      clear c0 c1 HGA
      go_wp2
      go_roundg (m - (j+1))
      case measure=>omega
      case rel=>exact ⟨j+1,by omega,by go_num,HN.out,HGB.out⟩
     ·obtain ⟨i,hi⟩:∃i:Nat,j=i+1:=⟨j - 1,by omega⟩
      have hil:i<l.length:=by omega
      have HPS:Hid (prE v r s (bef l j) (p1,p2)=if ltP l[i] (p1,p2) then 0 else 13):=by
       have e:bef l j=some l[i]:=by simp [bef,hi,hil]
       show _=_
       rw [e]
       exact za8 h9 hb2
      have dj:decide (0<j)=true:=by simp;omega
      have dj2:0<j:=by omega
      have hji:IntKind.i64.wrap ((j:Int) - 1)=(i:Int):=by rw [IntKind.wrap_i64];omega
      obtain ⟨b2,o2,e2,hb2',k0,k1⟩:=jB HSI.out hil
      injection e2 with e2
      injection e2 with e2 e3
      subst e2 e3
      have g1:=HG.out.cell k0
      have g2:=HG.out.cell k1
      have C3:Hid (∀(W:World) n os,Calls Tryz.prog 189 #[.agg #[.int .i64 l[i].1,.int .i64 l[i].2],.agg #[.int .i64 p1,.int .i64 p2]] (Go.Sort.grow (W.drewN n) os) fun e w'=>e= .returned (.bool (ltP l[i] (p1,p2)))∧∃q os',w'=Go.Sort.grow ((Go.Sort.grow (W.drewN n) os).drewN q) os'):=fun W n os=>zeJ l[i] (p1,p2) _
      generalize l[i]=q at*
      obtain ⟨q1,q2⟩:=q
      dsimp only at g1 g2 C3
      have hiz:(i:Int)<(m:Int):=by omega
      clear hb2 h9 hj0 hb2' k0 k1 hi hil
      go_upto_region 4 with fail
      have hpr:=(Row.new wr 55 #[.int .i64 p1,.int .i64 p2])
      have hb1':=(ld wr.heap.size wr).alloc (la _) (prObj p1 p2)
      have g1':=(hb1'.cell (p:=⟨_,_,none⟩) (World.block_lt_of_cell? _ _ g1)).trans g1
      have g2':=(hb1'.cell (p:=⟨_,_,none⟩) (World.block_lt_of_cell? _ _ g2)).trans g2
      clear f1 f2 g1 g2 hb1'
      generalize (wr.alloc (.cells #[.int .i64 p1,.int .i64 p2] 55))=W1 at*
      generalize wr.heap.size=pb at*
      have c0:=hpr.k0
      have c1:=hpr.k1
      clear hpr
      go_upto_region 8 with (go_at_call 134;refine (C1.out _).mono ?_;rintro e w' ⟨rfl,rfl⟩)
      have k0:=fun n os=>Go.cell_grown (World.block_lt_of_cell? _ _ c0) c0 n os
      have k1:=fun n os=>Go.cell_grown (World.block_lt_of_cell? _ _ c1) c1 n os
      have k2:=fun n os=>Go.cell_grown (World.block_lt_of_cell? _ _ g1') g1' n os
      have k3:=fun n os=>Go.cell_grown (World.block_lt_of_cell? _ _ g2') g2' n os
      rcases hb3:ltP (q1,q2) (p1,p2) with _|_
      ·have HEE:=qH (HQ.out 13 (by rw [HPS.out,hb3];rfl) (by decide))
       rw [hb3] at C3
       clear HQ HQ0 hb3 HPS
       go_quiet_grown (first|(go_at_call 189;refine Calls.grown_of (C3.out _ _ _)))
       have HGB:=qH (HGA.out.trans (show Grew W1 _ from ⟨nq,osq,rfl⟩))
       generalize Go.Sort.grow (W1.drewN nq) osq=W2 at*
       clear c0 c1 g1' g2' k0 k1 k2 k3
       go_wp2
       go_ret
       exact ⟨by rw [HEE.out];rfl,HGB.out⟩
      ·have HN:=qH (HQ0.out (by rw [HPS.out,hb3];rfl))
       rw [hb3] at C3
       clear HQ HQ0 hb3 HPS
       go_quiet_grown (first|(go_at_call 189;refine Calls.grown_of (C3.out _ _ _)))
       have HGB:=qH (HGA.out.trans (show Grew W1 _ from ⟨nq,osq,rfl⟩))
       generalize Go.Sort.grow (W1.drewN nq) osq=W2 at*
       clear c0 c1 g1' g2' k0 k1 k2 k3 HGA
       go_wp2
       go_roundg (m - (j+1))
       case measure=>omega
       case rel=>exact ⟨j+1,by omega,by go_num,HN.out,HGB.out⟩
  ·have hjz:¬(j:Int)<(m:Int):=by omega
   have HF0:=qH (zfn (by rw [←HML.out];exact hj) HF.out)
   go_wp2
   go_ret
   exact ⟨by rw [HF0.out];rfl,HG.out⟩
theorem zby(B:Nat)(A:Option Addr)(xs:List (List Pr))(c:Nat)(n v r s:Int)(w:World)(hs:SeesPP w B A xs)(hB:B≤w.heap.size)(hf:xs.length≤1000)(hl:∀x∈xs,x.length≤1000)(hw:∀x∈xs,∀p∈x,Uk p):
  Calls Tryz.prog 92 #[.slice A xs.length c,.int .i64 n,.int .i64 v,.int .i64 r,.int .i64 s] w fun e w'=>e= .returned (.int .i64 (yp xs n v r s))∧Grew w w':=by
 have HS:=qH hs
 have HL:=qH hl
 have HWF:=qH hw
 clear hs hl hw
 by_cases hn:(xs.length:Int)=n
 ·have HV:Hid (yp xs n v r s=jZ v r s xs):=by show _=_;unfold yp;rw [if_neg (by simpa using hn)]
  have en:((xs.length:Int) !=n)=false:=by simp [hn]
  have HNE:=qH hn
  clear hn
  go_enter Tryz.func92,Tryz.ntmps92
  go_wp2
  go_loopg [11,23] xs.length (fun g v11 v23 wr=>∃k:Nat,k+g=xs.length∧v23= .int .i64 k∧v11= .int .i64 (jw (xs.take k):Int)∧Hid (Grew w wr))
  case atStart=>exact ⟨0,by omega,by go_num,by simp [jw],Grew.refl w⟩
  case round=>
   obtain ⟨k,hg,rfl,rfl,HG⟩:=hrel
   by_cases hk:k<xs.length
   ·have hkz:(k:Int)<(xs.length:Int):=by omega
    obtain ⟨b,o,Ai,ci,rfl,hb,hc,hci,hcm,hsi⟩:=HS.out.at_ hk
    have f0:=HG.out.cell hc
    have ht:jw (xs.take k)≤1000000 - 1000:=by
     have h1:=ZT (zav HL.out k)
     rw [lu] at h1
     omega
    have hm:xs[k].length≤1000:=HL.out _ (List.getElem_mem _)
    have HT:=qH (Qh hk)
    generalize jw (xs.take k)=t at*
    generalize xs[k].length=m at*
    clear hc hsi
    go_wp2
    go_roundg (xs.length - (k+1))
    case measure=>omega
    case rel=>exact ⟨k+1,by omega,by go_num,by rw [HT.out];go_num,HG.out⟩
   ·have hkz:¬(k:Int)<(xs.length:Int):=by omega
    have ht:jw (xs.take k)≤1000000:=by
     have h1:=ZT (zav HL.out k)
     rw [lu] at h1
     have h2:(min k xs.length)*1000≤1000*1000:=Nat.mul_le_mul (by omega) (la _)
     omega
    generalize jw (xs.take k)=t at*
    have hgt:¬(1048576:Int)<(t:Int):=by omega
    obtain ⟨E,hE⟩:∃z,z=jZ v r s xs:=⟨_,rfl⟩
    have HE:Hid (jZ v r s (xs.drop 0)=E):=hE.symm
    have HV2:Hid (yp xs n v r s=E):=HV.out.trans hE.symm
    clear hE HV hg
    go_wp2
    go_loopg [36] xs.length (fun g v36 wr=>∃k:Nat,k+g=xs.length∧v36= .int .i64 k∧Hid (jZ v r s (xs.drop k)=E)∧Hid (Grew w wr))
    case atStart=>exact ⟨0,by omega,by go_num,HE.out,HG.out⟩
    case round=>
     clear HE HG
     obtain ⟨k,hg,rfl,HE,HG⟩:=hrel
     by_cases hk:k<xs.length
     ·have hkz:(k:Int)<(xs.length:Int):=by omega
      obtain ⟨b,o,Ai,ci,rfl,hb,hc,hci,hcm,hsi⟩:=HS.out.at_ hk
      have f0:=HG.out.cell hc
      have hm:xs[k].length≤1000:=HL.out _ (List.getElem_mem _)
      have C:=qH (zfW B Ai xs[k] ci v r s wr (hsi.below (HG.out.below.mono hB)) (by have:=HG.out.below.size;omega) hm (HWF.out _ (List.getElem_mem hk)))
      have HE1:Hid (vlE v r s none xs[k]≠0→E=vlE v r s none xs[k]):=fun h=>by
       have:=HE.out
       rw [ZS hk,if_pos h] at this
       exact this.symm
      have HE2:Hid (vlE v r s none xs[k]=0→jZ v r s (xs.drop (k+1))=E):=fun h=>by
       have:=HE.out
       rw [ZS hk,if_neg (by simp [h])] at this
       exact this
      generalize vlE v r s none xs[k]=F at*
      generalize xs[k].length=m at*
      clear hsi hc HE
      go_wp2_with fail
      refine C.out.mono ?_
      rintro e W1 ⟨rfl,hG1⟩
      have HG1:=qH (HG.out.trans hG1)
      clear hG1 C f0
      by_cases hF:F=0
      ·have eF:(F !=0)=false:=by simp [hF]
       have HN:=qH (HE2.out hF)
       clear hF
       go_wp2
       go_roundg (xs.length - (k+1))
       case measure=>omega
       case rel=>exact ⟨k+1,by omega,by go_num,HN.out,HG1.out⟩
      ·have eF:(F !=0)=true:=by simp [hF]
       have HN:=qH (HE1.out hF)
       clear hF
       go_wp2
       go_ret
       exact ⟨by rw [HV2.out,HN.out];rfl,HG1.out⟩
     ·have hkz:¬(k:Int)<(xs.length:Int):=by omega
      have HE0:Hid (E=0):=by have:=HE.out;rw [List.drop_of_length_le (by omega)] at this;exact this.symm
      go_wp2
      go_ret
      exact ⟨by rw [HV2.out,HE0.out];rfl,HG.out⟩
 ·have HV:Hid (yp xs n v r s=14):=by show _=_;unfold yp;rw [if_pos (by simpa using hn)]
  have en:((xs.length:Int) !=n)=true:=by simp [hn]
  go_enter Tryz.func92,Tryz.ntmps92
  go_wp2
  go_ret
  exact ⟨by rw [HV.out];rfl,Grew.refl w⟩
theorem zcJ(B:Nat)(A:Option Addr)(xs:List (List Pr))(c:Nat)(n v r s:Int)(w:World)(hs:SeesPP w B A xs)(hB:B≤w.heap.size)(hf:xs.length≤1000)(hl:∀x∈xs,x.length≤1000)(hw:∀x∈xs,∀p∈x,Uk p):
  Calls Tryz.prog 92 #[.slice A xs.length c,.int .i64 n,.int .i64 v,.int .i64 r,.int .i64 s] w fun e w'=>e= .returned (.int .i64 (yp xs n v r s))∧Below w.heap.size w w':=
 (zby B A xs c n v r s w hs hB hf hl hw).mono fun _ _ ⟨h1,h2⟩=>⟨h1,h2.below⟩
theorem zad{A1:Option Addr}{k1:Nat}{A2:Option Addr}{k2:Nat}{A3:Option Addr}{k3:Nat}{c:Ct}(w:World)(h:CeAt w w.heap.size A1 k1 A2 k2 A3 k3 c)(hs:SmC c)(hw:c.Wf):
  Calls Tryz.prog 40 #[.agg #[.int .i64 c.sa,.int .i64 c.sr,.slice A1 c.bs.length k1,.int .i64 c.ta,.int .i64 c.tr,.int .i64 c.ts,.slice A2 c.ms.length k2,.slice A3 c.inv.length k3]] w fun e w'=>e= .returned (.int .i64 (zV c))∧Below w.heap.size w w':=by
 have HK:=qH (CeK.start h)
 have HV:Hid (zV c=if eF c.sa c.sr c.bs≠0 then eF c.sa c.sr c.bs else if eMF c.ta c.tr c.ts c.ms≠0 then eMF c.ta c.tr c.ts c.ms else if c.bs.length≠c.ms.length∨c.sa≠c.ta then 14 else yp c.inv c.bs.length c.sr c.tr c.ts):=rfl
 obtain ⟨⟨s1,s2,s3⟩,⟨s4,s5,s6,s7⟩,s8,s9⟩:=hs
 have S9:=qH s9
 have HWI:=qH hw.inv
 clear h hw s9
 go_enter Tryz.func40,Tryz.ntmps40
 go_upto_region 1 with fail
 generalize (w.alloc (.cells #[.int .i64 c.sa,.int .i64 c.sr,.slice A1 c.bs.length k1,.int .i64 c.ta,.int .i64 c.tr,.int .i64 c.ts,.slice A2 c.ms.length k2,.slice A3 c.inv.length k3] 31))=W0 at*
 have c0:=HK.out.row.k0;have c1:=HK.out.row.k1;have c2:=HK.out.row.k2;have c3:=HK.out.row.k3
 have c4:=HK.out.row.k4;have c5:=HK.out.row.k5;have c6:=HK.out.row.k6;have c7:=HK.out.row.k7
 have C1:=qH (zeA _ A1 c.bs k1 c.sa c.sr W0 HK.out.see.bs HK.out.blw.size (by omega) (by omega))
 generalize eF c.sa c.sr c.bs=e1 at*
 go_wp2_with fail
 refine C1.out.mono ?_
 rintro e W1 ⟨rfl,hb⟩
 have HK1:=qH (HK.out.next hb)
 clear c0 c1 c2 c3 c4 c5 c6 c7
 clear hb HK C1
 by_cases h1:e1=0
 ·have d1:(e1 !=0)=false:=by simp [h1]
  have HV1:Hid (zV c=if eMF c.ta c.tr c.ts c.ms≠0 then eMF c.ta c.tr c.ts c.ms else if c.bs.length≠c.ms.length∨c.sa≠c.ta then 14 else yp c.inv c.bs.length c.sr c.tr c.ts):=by show _=_;rw [HV.out,if_neg (by simpa using h1)]
  clear h1 HV
  have c0:=HK1.out.row.k0;have c1:=HK1.out.row.k1;have c2:=HK1.out.row.k2;have c3:=HK1.out.row.k3
  have c4:=HK1.out.row.k4;have c5:=HK1.out.row.k5;have c6:=HK1.out.row.k6;have c7:=HK1.out.row.k7
  have C2:=qH (zcI _ A2 c.ms k2 c.ta c.tr c.ts W1 HK1.out.see.ms HK1.out.blw.size (by omega) (by omega))
  generalize eMF c.ta c.tr c.ts c.ms=e2 at*
  go_wp2_with fail
  refine C2.out.mono ?_
  rintro e W2 ⟨rfl,hb⟩
  have HK2:=qH (HK1.out.next hb)
  clear c0 c1 c2 c3 c4 c5 c6 c7
  clear hb HK1 C2
  by_cases h2:e2=0
  ·have d2:(e2 !=0)=false:=by simp [h2]
   have HV2:Hid (zV c=if c.bs.length≠c.ms.length∨c.sa≠c.ta then 14 else yp c.inv c.bs.length c.sr c.tr c.ts):=by show _=_;rw [HV1.out,if_neg (by simpa using h2)]
   clear h2 HV1
   have c0:=HK2.out.row.k0;have c1:=HK2.out.row.k1;have c2:=HK2.out.row.k2;have c3:=HK2.out.row.k3
   have c4:=HK2.out.row.k4;have c5:=HK2.out.row.k5;have c6:=HK2.out.row.k6;have c7:=HK2.out.row.k7
   by_cases h3:c.bs.length=c.ms.length
   ·have d3:((c.bs.length:Int) !=(c.ms.length:Int))=false:=by simp [h3]
    by_cases h4:c.sa=c.ta
    ·have d4:(c.sa !=c.ta)=false:=by simp [h4]
     have HV3:Hid (zV c=yp c.inv c.bs.length c.sr c.tr c.ts):=by show _=_;rw [HV2.out,if_neg (by simp [h3,h4])]
     clear h3 h4 HV2
     have C3:=qH (zcJ _ A3 c.inv k3 (c.bs.length:Int) c.sr c.tr c.ts W2 HK2.out.see.inv HK2.out.blw.size (by omega) (fun x hx=>by have:=S9.out x hx;omega) HWI.out)
     go_wp2_with fail
     refine C3.out.mono ?_
     rintro e W3 ⟨rfl,hG⟩
     have HK3:=qH (HK2.out.next hG)
     clear c0 c1 c2 c3 c4 c5 c6 c7
     clear hG HK2 C3
     go_wp2
     go_ret
     exact ⟨by rw [HV3.out];rfl,HK3.out.blw⟩
    ·have d4:(c.sa !=c.ta)=true:=by simp [h4]
     have HV3:Hid (zV c=14):=by show _=_;rw [HV2.out,if_pos (.inr h4)]
     clear h3 h4 HV2
     go_wp2
     go_ret
     exact ⟨by rw [HV3.out];rfl,HK2.out.blw⟩
   ·have d3:((c.bs.length:Int) !=(c.ms.length:Int))=true:=by simp;omega
    have HV3:Hid (zV c=14):=by show _=_;rw [HV2.out,if_pos (.inl h3)]
    clear h3 HV2
    go_wp2
    go_ret
    exact ⟨by rw [HV3.out];rfl,HK2.out.blw⟩
  ·have d2:(e2 !=0)=true:=by simp [h2]
   have HV2:Hid (zV c=e2):=by show _=_;rw [HV1.out,if_pos h2]
   clear h2 HV1
   go_wp2
   go_ret
   exact ⟨by rw [HV2.out];rfl,HK2.out.blw⟩
 ·have d1:(e1 !=0)=true:=by simp [h1]
  have HV1:Hid (zV c=e1):=by show _=_;rw [HV.out,if_pos h1]
  clear h1 HV
  go_wp2
  go_ret
  exact ⟨by rw [HV1.out];rfl,HK1.out.blw⟩
end Go.Proofs.YtnifhpbgmjcndaaGreat
