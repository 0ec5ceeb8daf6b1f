import Derived.Test.YtnifhpbgmjcndaaGreatPk3
import Derived.Laws.EntriesVeiled
import Derived.Deep.LoopGhost
import Derived.Deep.Slices
import Derived.Deep.Fields
set_option linter.unusedVariables false
set_option linter.unusedSimpArgs false
set_option linter.unusedSectionVars false
set_option maxRecDepth 100000
set_option maxHeartbeats 2000000
namespace Go.Proofs.YtnifhpbgmjcndaaGreat
open Go.RowKit
theorem US(x:Mi)(w:World):
  Calls Tryz.prog 196 #[.agg #[.int .i64 x.op,.int .i64 x.d,.int .i64 x.a,.int .i64 x.b,.int .i64 x.imm,.int .i64 x.dst,.int .i64 x.src]] w fun e w'=>e= .returned (.bool x.mv)∧Below w.heap.size w w':=by
 have HB:=qH ((ld w.heap.size w).alloc (la _) (.cells #[.int .i64 x.op,.int .i64 x.d,.int .i64 x.a,.int .i64 x.b,.int .i64 x.imm,.int .i64 x.dst,.int .i64 x.src] 131))
 go_enter Tryz.func196,Tryz.ntmps196
 go_wp2
 go_ret
 exact ⟨rfl,HB.out⟩
theorem UT(run:Nat)(x:Mi)(w:World)(hr:run≤1000000):
  Calls Tryz.prog 186 #[.int .i64 run,.agg #[.int .i64 x.op,.int .i64 x.d,.int .i64 x.a,.int .i64 x.b,.int .i64 x.imm,.int .i64 x.dst,.int .i64 x.src]] w fun e w'=>e= .returned (.int .i64 (ext run x:Nat))∧Below w.heap.size w w':=by
 have HB:=qH ((ld w.heap.size w).alloc (la _) (.cells #[.int .i64 x.op,.int .i64 x.d,.int .i64 x.a,.int .i64 x.b,.int .i64 x.imm,.int .i64 x.dst,.int .i64 x.src] 131))
 have HK:=qH (US x (w.alloc (.cells #[.int .i64 x.op,.int .i64 x.d,.int .i64 x.a,.int .i64 x.b,.int .i64 x.imm,.int .i64 x.dst,.int .i64 x.src] 131)))
 unfold ext
 generalize x.mv=b at*
 cases b
 all_goals
  go_enter Tryz.func186,Tryz.ntmps186
  go_wp2_with fail
  refine HK.out.mono ?_
  rintro e W1 ⟨rfl,hb⟩
  have HB1:=qH (HB.out.trans (hb.mono HB.out.size))
  clear hb
  go_wp2
  go_ret
  exact ⟨zai (by simp),HB1.out⟩
theorem Us(x:Mi):(x.zf=true∧((x.d !=0)=true∨((x.d !=0)=false∧((x.a !=0)=true∨((x.a !=0)=false∧((x.b !=0)=true∨((x.b !=0)=false∧(x.imm !=0)=true)))))))∨
  (x.zf=false∧(x.d !=0)=false∧(x.a !=0)=false∧(x.b !=0)=false∧(x.imm !=0)=false):=by
 unfold Mi.zf
 cases (x.d !=0)<;>cases (x.a !=0)<;>cases (x.b !=0)<;>cases (x.imm !=0)<;>decide
theorem za3(x:Mi)(regs slots:Int)(w:World)(hx:x.Ok):
  Calls Tryz.prog 182 #[.agg #[.int .i64 x.op,.int .i64 x.d,.int .i64 x.a,.int .i64 x.b,.int .i64 x.imm,.int .i64 x.dst,.int .i64 x.src],.int .i64 regs,.int .i64 slots] w fun e w'=>e= .returned (.int .i64 (eMv x regs slots))∧Below w.heap.size w w':=by
 have HB:=qH ((ld w.heap.size w).alloc (la _) (.cells #[.int .i64 x.op,.int .i64 x.d,.int .i64 x.a,.int .i64 x.b,.int .i64 x.imm,.int .i64 x.dst,.int .i64 x.src] 131))
 have HE:Hid (eMv x regs slots=if x.bad regs slots then 10 else if x.zf then 12 else 0):=rfl
 have HX:=qH hx
 clear hx
 obtain ⟨b1,h1⟩:∃z,yd x.dst regs slots=z:=⟨_,rfl⟩
 obtain ⟨b2,h2⟩:∃z,yd x.src regs slots=z:=⟨_,rfl⟩
 obtain ⟨s1,h3⟩:∃z,decide (x.dst%2=1)=z:=⟨_,rfl⟩
 obtain ⟨s2,h4⟩:∃z,decide (x.src%2=1)=z:=⟨_,rfl⟩
 have HD:Hid (x.bad regs slots=(!b1|| !b2||(s1 && s2))):=by rw [Hid,Mi.bad,h1,h2,h3,h4]
 have H1:=qH h1;have H2:=qH h2;have H3:=qH h3;have H4:=qH h4
 clear h1 h2 h3 h4
 cases b1
 ·have HE2:Hid (eMv x regs slots=10):=by rw [Hid,HE.out,HD.out];rfl
  go_enter Tryz.func182,Tryz.ntmps182
  go_wp2_with fail
  refine (JF _ regs slots false _ HX.out.1 H1.out).mono ?_
  rintro e w' ⟨rfl,rfl⟩
  go_wp2
  go_ret
  exact ⟨by rw [HE2.out];rfl,HB.out⟩
 ·have HN1:=qH (Ju H1.out)
  cases b2
  ·have HE2:Hid (eMv x regs slots=10):=by rw [Hid,HE.out,HD.out];rfl
   go_enter Tryz.func182,Tryz.ntmps182
   go_wp2_with fail
   refine (JF _ regs slots true _ HX.out.1 H1.out).mono ?_
   rintro e w' ⟨rfl,rfl⟩
   go_wp2_with fail
   refine (JF _ regs slots false _ HX.out.2 H2.out).mono ?_
   rintro e w' ⟨rfl,rfl⟩
   go_wp2
   go_ret
   exact ⟨by rw [HE2.out];rfl,HB.out⟩
  ·have HN2:=qH (Ju H2.out)
   go_enter Tryz.func182,Tryz.ntmps182
   go_wp2_with fail
   refine (JF _ regs slots true _ HX.out.1 H1.out).mono ?_
   rintro e w' ⟨rfl,rfl⟩
   go_wp2_with fail
   refine (JF _ regs slots true _ HX.out.2 H2.out).mono ?_
   rintro e w' ⟨rfl,rfl⟩
   go_wp2_with fail
   cases s1
   ·refine (yH _ false _ HN1.out HX.out.1.2 H3.out).mono ?_
    rintro e w' ⟨rfl,rfl⟩
    have HD2:Hid (x.bad regs slots=false):=HD.out
    rcases Us x with ⟨hz,h|⟨h,h'|⟨h',h''|⟨h'',h'''⟩⟩⟩⟩|⟨hz,h,h',h'',h'''⟩
    all_goals
     have HZ:=qH hz
     clear hz
     go_wp2
     go_ret
     exact ⟨by rw [HE.out,HD2.out,HZ.out];rfl,HB.out⟩
   ·refine (yH _ true _ HN1.out HX.out.1.2 H3.out).mono ?_
    rintro e w' ⟨rfl,rfl⟩
    go_wp2_with fail
    cases s2
    ·refine (yH _ false _ HN2.out HX.out.2.2 H4.out).mono ?_
     rintro e w' ⟨rfl,rfl⟩
     have HD2:Hid (x.bad regs slots=false):=HD.out
     rcases Us x with ⟨hz,h|⟨h,h'|⟨h',h''|⟨h'',h'''⟩⟩⟩⟩|⟨hz,h,h',h'',h'''⟩
     all_goals
      have HZ:=qH hz
      clear hz
      go_wp2
      go_ret
      exact ⟨by rw [HE.out,HD2.out,HZ.out];rfl,HB.out⟩
    ·refine (yH _ true _ HN2.out HX.out.2.2 H4.out).mono ?_
     rintro e w' ⟨rfl,rfl⟩
     have HD2:Hid (x.bad regs slots=true):=HD.out
     go_wp2
     go_ret
     exact ⟨by rw [HE.out,HD2.out];rfl,HB.out⟩
theorem Q1(x:Mi)(regs:Int)(w:World):
  Calls Tryz.prog 184 #[.agg #[.int .i64 x.op,.int .i64 x.d,.int .i64 x.a,.int .i64 x.b,.int .i64 x.imm,.int .i64 x.dst,.int .i64 x.src],.int .i64 regs] w fun e w'=>e= .returned (.int .i64 (eOt x regs))∧Below w.heap.size w w':=by
 have HB:=qH ((ld w.heap.size w).alloc (la _) (.cells #[.int .i64 x.op,.int .i64 x.d,.int .i64 x.a,.int .i64 x.b,.int .i64 x.imm,.int .i64 x.dst,.int .i64 x.src] 131))
 have HR:=qH (Row.new w 131 #[.int .i64 x.op,.int .i64 x.d,.int .i64 x.a,.int .i64 x.b,.int .i64 x.imm,.int .i64 x.dst,.int .i64 x.src])
 have HK:=qH (Qi x.ins regs (w.alloc (.cells #[.int .i64 x.op,.int .i64 x.d,.int .i64 x.a,.int .i64 x.b,.int .i64 x.imm,.int .i64 x.dst,.int .i64 x.src] 131)))
 have HE:Hid (eOt x regs=if (eI x.ins regs==0 && (x.dst !=0||x.src !=0)) then 12 else eI x.ins regs):=rfl
 generalize eI x.ins regs=v at*
 go_enter Tryz.func184,Tryz.ntmps184
 go_wp2_with fail
 refine HK.out.mono ?_
 rintro e W1 ⟨rfl,hb⟩
 have HB1:=qH (HB.out.trans (hb.mono HB.out.size))
 have hr:=HR.out.below hb HR.out.lt
 have c5:=hr.k5;have c6:=hr.k6
 clear hb hr
 cases h0:(v==0)
 ·have HE2:Hid (eOt x regs=v):=by rw [Hid,HE.out,h0];rfl
  go_wp2
  go_ret
  exact ⟨by rw [HE2.out];rfl,HB1.out⟩
 ·cases h1:(x.dst !=0)
  ·cases h2:(x.src !=0)
   ·have HE2:Hid (eOt x regs=v):=by rw [Hid,HE.out,h0,h1,h2];rfl
    go_wp2
    go_ret
    exact ⟨by rw [HE2.out];rfl,HB1.out⟩
   ·have HE2:Hid (eOt x regs=12):=by rw [Hid,HE.out,h0,h1,h2];rfl
    go_wp2
    go_ret
    exact ⟨by rw [HE2.out];rfl,HB1.out⟩
  ·have HE2:Hid (eOt x regs=12):=by rw [Hid,HE.out,h0,h1];rfl
   go_wp2
   go_ret
   exact ⟨by rw [HE2.out];rfl,HB1.out⟩
theorem zhD(x:Mi)(regs slots:Int)(p q:Nat)(w:World)(hx:x.Ok)(hp:w.cell? ⟨p,0,none⟩=some (.int .i64 regs))(hq:w.cell? ⟨q,0,none⟩=some (.int .i64 slots)):
  Calls Tryz.prog 181 #[.agg #[.int .i64 x.op,.int .i64 x.d,.int .i64 x.a,.int .i64 x.b,.int .i64 x.imm,.int .i64 x.dst,.int .i64 x.src],.pointer (some ⟨p,0,none⟩),.pointer (some ⟨q,0,none⟩)] w fun e w'=>e= .returned (.int .i64 (eMv x regs slots))∧Below w.heap.size w w':=by
 have HB:=qH ((ld w.heap.size w).alloc (la _) (.cells #[.int .i64 x.op,.int .i64 x.d,.int .i64 x.a,.int .i64 x.b,.int .i64 x.imm,.int .i64 x.dst,.int .i64 x.src] 131))
 have HK:=qH (fun W=>za3 x regs slots W hx)
 have hp2:p<w.heap.size:=World.block_lt_of_cell? w _ hp
 have hq2:q<w.heap.size:=World.block_lt_of_cell? w _ hq
 clear hx
 generalize eMv x regs slots=v at*
 go_enter Tryz.func181,Tryz.ntmps181
 go_wp2_with fail
 refine (HK.out _).mono ?_
 rintro e W1 ⟨rfl,hb⟩
 have HB1:=qH (HB.out.trans (hb.mono HB.out.size))
 clear hb
 go_wp2
 go_ret
 exact ⟨rfl,HB1.out⟩
theorem zhe(x:Mi)(regs:Int)(p:Nat)(w:World)(hp:w.cell? ⟨p,0,none⟩=some (.int .i64 regs)):
  Calls Tryz.prog 183 #[.agg #[.int .i64 x.op,.int .i64 x.d,.int .i64 x.a,.int .i64 x.b,.int .i64 x.imm,.int .i64 x.dst,.int .i64 x.src],.pointer (some ⟨p,0,none⟩)] w fun e w'=>e= .returned (.int .i64 (eOt x regs))∧Below w.heap.size w w':=by
 have HB:=qH ((ld w.heap.size w).alloc (la _) (.cells #[.int .i64 x.op,.int .i64 x.d,.int .i64 x.a,.int .i64 x.b,.int .i64 x.imm,.int .i64 x.dst,.int .i64 x.src] 131))
 have HK:=qH (fun W=>Q1 x regs W)
 have hp2:p<w.heap.size:=World.block_lt_of_cell? w _ hp
 generalize eOt x regs=v at*
 go_enter Tryz.func183,Tryz.ntmps183
 go_wp2_with fail
 refine (HK.out _).mono ?_
 rintro e W1 ⟨rfl,hb⟩
 have HB1:=qH (HB.out.trans (hb.mono HB.out.size))
 clear hb
 go_wp2
 go_ret
 exact ⟨rfl,HB1.out⟩
structure Fin2(w:World)(p q:Nat)(regs slots:Int):Prop where
 p:w.cell? ⟨p,0,none⟩=some (.int .i64 regs)
 q:w.cell? ⟨q,0,none⟩=some (.int .i64 slots)
theorem Fin2.lt{w:World}{p q:Nat}{regs slots:Int}(h:Fin2 w p q regs slots):p<w.heap.size∧q<w.heap.size:=
 ⟨World.block_lt_of_cell? w _ h.p,World.block_lt_of_cell? w _ h.q⟩
theorem Fin2.below{w w':World}{p q B:Nat}{regs slots:Int}(h:Fin2 w p q regs slots)(hb:Below B w w')(hp:p<B)(hq:q<B):Fin2 w' p q regs slots:=
 ⟨(hb.cell (p:=⟨p,0,none⟩) hp).trans h.p,(hb.cell (p:=⟨q,0,none⟩) hq).trans h.q⟩
theorem Fin2.next{w w':World}{p q:Nat}{regs slots:Int}(h:Fin2 w p q regs slots)(hb:Below w.heap.size w w'):Fin2 w' p q regs slots:=h.below hb h.lt.1 h.lt.2
theorem zd2(x:Mi)(regs slots:Int)(p q:Nat)(w:World)(hx:x.Ok)(hf:Fin2 w p q regs slots):
  Calls Tryz.prog 185 #[.agg #[.func (.func 181) #[] #[.pointer (some ⟨p,0,none⟩),.pointer (some ⟨q,0,none⟩)],.func (.func 183) #[] #[.pointer (some ⟨p,0,none⟩)]],.agg #[.int .i64 x.op,.int .i64 x.d,.int .i64 x.a,.int .i64 x.b,.int .i64 x.imm,.int .i64 x.dst,.int .i64 x.src]] w fun e w'=>e= .returned (.int .i64 (eM x regs slots))∧Below w.heap.size w w':=by
 have HB:=qH (((ld w.heap.size w).alloc (la _) (.cells #[.func (.func 181) #[] #[.pointer (some ⟨p,0,none⟩),.pointer (some ⟨q,0,none⟩)],.func (.func 183) #[] #[.pointer (some ⟨p,0,none⟩)]] 201)).alloc (by simp) (.cells #[.int .i64 x.op,.int .i64 x.d,.int .i64 x.a,.int .i64 x.b,.int .i64 x.imm,.int .i64 x.dst,.int .i64 x.src] 131))
 have HR0:=qH ((Row.new w 201 #[.func (.func 181) #[] #[.pointer (some ⟨p,0,none⟩),.pointer (some ⟨q,0,none⟩)],.func (.func 183) #[] #[.pointer (some ⟨p,0,none⟩)]]).alloc (.cells #[.int .i64 x.op,.int .i64 x.d,.int .i64 x.a,.int .i64 x.b,.int .i64 x.imm,.int .i64 x.dst,.int .i64 x.src] 131))
 have HR1:=qH (Row.new' (W:=w.alloc (.cells #[.func (.func 181) #[] #[.pointer (some ⟨p,0,none⟩),.pointer (some ⟨q,0,none⟩)],.func (.func 183) #[] #[.pointer (some ⟨p,0,none⟩)]] 201)) (p:=w.heap.size+1) (by simp) 131 #[.int .i64 x.op,.int .i64 x.d,.int .i64 x.a,.int .i64 x.b,.int .i64 x.imm,.int .i64 x.dst,.int .i64 x.src])
 have HF:=qH hf
 have HE:Hid (eM x regs slots=if QI x.op then if x.mv then eMv x regs slots else eOt x regs else 8):=rfl
 have HX:=qH hx
 clear hf hx
 cases ho:QI x.op
 ·have HO:=qH ho
  have HE2:Hid (eM x regs slots=8):=by rw [Hid,HE.out,ho];rfl
  clear ho
  go_enter Tryz.func185,Tryz.ntmps185
  go_wp2_with fail
  refine (Zv x.op false _ HO.out).mono ?_
  rintro e w' ⟨rfl,rfl⟩
  go_wp2
  go_ret
  exact ⟨by rw [HE2.out];rfl,HB.out⟩
 ·have HO:=qH ho
  have HE2:Hid (eM x regs slots=if x.mv then eMv x regs slots else eOt x regs):=by rw [Hid,HE.out,ho];rfl
  clear ho
  go_enter Tryz.func185,Tryz.ntmps185
  go_wp2_with fail
  refine (Zv x.op true _ HO.out).mono ?_
  rintro e w' ⟨rfl,rfl⟩
  go_wp2_with fail
  refine (US x _).mono ?_
  rintro e W1 ⟨rfl,hb⟩
  have HB1:=qH (HB.out.trans (hb.mono HB.out.size))
  have hr0:=HR0.out.below hb HR0.out.lt
  have hr1:=HR1.out.below hb HR1.out.lt
  have HF1:=qH (HF.out.next HB1.out)
  have f0:=hr0.k0;have f1:=hr0.k1
  have c0:=hr1.k0;have c1:=hr1.k1;have c2:=hr1.k2;have c3:=hr1.k3;have c4:=hr1.k4;have c5:=hr1.k5;have c6:=hr1.k6
  clear hb hr0 hr1
  cases hm:x.mv
  ·have HE3:Hid (eM x regs slots=eOt x regs):=by rw [Hid,HE2.out,hm];rfl
   clear hm
   go_wp2_with fail
   refine (zhe x regs p _ HF1.out.p).mono ?_
   rintro e W2 ⟨rfl,hb⟩
   have HB2:=qH (HB1.out.trans (hb.mono HB1.out.size))
   clear hb
   go_wp2
   go_ret
   exact ⟨by rw [HE3.out];rfl,HB2.out⟩
  ·have HE3:Hid (eM x regs slots=eMv x regs slots):=by rw [Hid,HE2.out,hm];rfl
   clear hm
   go_wp2_with fail
   refine (zhD x regs slots p q _ HX.out HF1.out.p HF1.out.q).mono ?_
   rintro e W2 ⟨rfl,hb⟩
   have HB2:=qH (HB1.out.trans (hb.mono HB1.out.size))
   clear hb
   go_wp2
   go_ret
   exact ⟨by rw [HE3.out];rfl,HB2.out⟩
theorem za4(regs slots:Int)(w:World):
  Calls Tryz.prog 141 #[.int .i64 regs,.int .i64 slots] w fun e w'=>∃p q,e= .returned (.agg #[.func (.func 181) #[] #[.pointer (some ⟨p,0,none⟩),.pointer (some ⟨q,0,none⟩)],.func (.func 183) #[] #[.pointer (some ⟨p,0,none⟩)]])∧Fin2 w' p q regs slots∧w.heap.size≤p∧w.heap.size≤q∧Below w.heap.size w w':=by
 have hmf:∀(fn:Fn) (first cap:Array Value) (w:World),(Instr.makeFunc fn first cap).run Tryz.prog w= .ok (.func fn first cap) w:=fun _ _ _ _=>rfl
 go_enter Tryz.func141,Tryz.ntmps141
 go_wp2
 (try simp only [Exit.inBlock,Exit.then])
 refine bodyPost_ret (v:= .agg #[.func (.func 181) #[] #[.pointer (some ⟨w.heap.size,0,none⟩),.pointer (some ⟨w.heap.size+1,0,none⟩)],.func (.func 183) #[] #[.pointer (some ⟨w.heap.size,0,none⟩)]]) ?_ rfl ⟨w.heap.size,w.heap.size+1,rfl,⟨?_,?_⟩,la _,Nat.le_succ _,?_⟩
 ·exact results_cell_row rfl _ _ (w.heap.size+1+1) 201 _ (0,0) _ rfl (Row.new' (p:=w.heap.size+1+1) (by simp) _ _) Tryz.underlying201 rfl (by kernel_rfl)
 ·exact (((Row.new w _ _).alloc _).alloc _).cell 0
 ·exact ((Row.new' (p:=w.heap.size+1) (by simp) _ _).alloc _).cell 0
 ·exact (((ld w.heap.size w).alloc (la _) _).alloc (by simp) _).alloc (by simp;omega) _
section
variable {w : World} {x : Mi} {W W' : World}
theorem zfe(w:World)(n:Nat):Below w.heap.size w (w.drewN n):=jz (ld _ _) n
end
theorem zd3(B:Nat)(A:Option Addr)(bs:List MBlk)(c:Nat)(args regs slots:Int)(w:World)(hs:MBlksAt w B A bs)(hB:B≤w.heap.size)(hm:bs.length≤1000)(hn:zF bs≤1000000):
  Calls Tryz.prog 180 #[.agg #[.int .i64 args,.int .i64 regs,.int .i64 slots,.slice A bs.length c]] w fun e w'=>e= .returned (.int .i64 (zF bs:Nat))∧Below w.heap.size w w':=by
 have HB0:=qH ((ld w.heap.size w).alloc (la _) (.cells #[.int .i64 args,.int .i64 regs,.int .i64 slots,.slice A bs.length c] 28))
 go_enter Tryz.func180,Tryz.ntmps180
 go_wp2
 go_loopw [3,9] (fun s i wr=>∃k:Nat,k≤bs.length∧i= .int .i64 k∧s= .int .i64 (zF (bs.take k):Nat)∧Hid (Below w.heap.size w wr)) (fun _ i _=>bs.length - (intOf i).toNat)
 case atStart=>exact ⟨0,lF _,rfl,rfl,HB0.out⟩
 case round=>
  obtain ⟨k,hk,rfl,rfl,HB⟩:=hrel
  by_cases hlt:k<bs.length
  ·obtain ⟨b,o,rfl,hb,hat⟩:=((hs.more hB).below HB.out).at_ hlt
   obtain ⟨A1,c1,hc0,hl1,hl2,_⟩:=hat.code
   have hc1:=hat.t0;have hc2:=hat.t1;have hc3:=hat.t2;have hc4:=hat.t3
   have HT:=qH (JP bs k hlt)
   have h2:=Zu bs (k+1)
   rw [HT.out] at h2
   have HB2:=qH (HB.out.alloc HB.out.size (.cells #[.slice A1 bs[k].code.length c1,.int .i64 bs[k].term.kind,.int .i64 bs[k].term.a,.int .i64 bs[k].term.to,.int .i64 bs[k].term.el] 63))
   clear hat hs HB
   generalize zF (bs.take k)=s0 at h2 HT
   generalize bs[k]=x at*
   go_wp2
   go_roundw
   case rel=>exact ⟨k+1,by omega,by go_num,by rw [HT.out];go_num,HB2.out⟩
   case measure=>simp [intOf];omega
  ·obtain rfl:k=bs.length:=by omega
   rw [List.take_length]
   go_wp2
   go_ret
   exact ⟨rfl,HB.out⟩
theorem UU(B:Nat)(A:Option Addr)(bs:List MBlk)(c:Nat)(args regs slots:Int)(w:World)(hs:MBlksAt w B A bs)(hB:B≤w.heap.size)(hm:bs.length≤1000)(hn:zF bs≤1000000):
  Calls Tryz.prog 59 #[.agg #[.int .i64 args,.int .i64 regs,.int .i64 slots,.slice A bs.length c]] w fun e w'=>e= .returned (.int .i64 (zF bs:Nat))∧Below w.heap.size w w':=by
 have HB0:=qH ((ld w.heap.size w).alloc (la _) (.cells #[.int .i64 args,.int .i64 regs,.int .i64 slots,.slice A bs.length c] 28))
 have hs1:=(hs.more hB).alloc (la _) (.cells #[.int .i64 args,.int .i64 regs,.int .i64 slots,.slice A bs.length c] 28)
 have hbox:=Row.new w 28 #[.int .i64 args,.int .i64 regs,.int .i64 slots,.slice A bs.length c]
 go_enter Tryz.func59,Tryz.ntmps59
 go_wp2_with fail
 generalize w.alloc (.cells #[.int .i64 args,.int .i64 regs,.int .i64 slots,.slice A bs.length c] 28)=W0 at*
 have d2:=hbox.k3
 clear hs hbox
 go_loop [3,4] (fun s i=>∃k:Nat,k≤bs.length∧i= .int .i64 k∧s= .int .i64 (zF (bs.take k):Nat)) (fun _ i=>bs.length - (intOf i).toNat)
 case atStart=>exact ⟨0,lF _,rfl,rfl⟩
 case round=>
  obtain ⟨k,hk,rfl,rfl⟩:=hrel
  by_cases hlt:k<bs.length
  ·obtain ⟨b,o,rfl,hb,hat⟩:=hs1.at_ hlt
   obtain ⟨A1,c1,hc0,hl1,hl2,_⟩:=hat.code
   have HT:=qH (JP bs k hlt)
   have h2:=Zu bs (k+1)
   rw [HT.out] at h2
   clear hat hs1
   generalize zF (bs.take k)=s0 at h2 HT
   generalize bs[k]=x at*
   go_wp2
   go_round
   case rel=>exact ⟨k+1,by omega,by go_num,by rw [HT.out];go_num⟩
   case measure=>simp [intOf];omega
  ·obtain rfl:k=bs.length:=by omega
   rw [List.take_length]
   go_wp2
   go_ret
   exact ⟨rfl,HB0.out⟩
theorem Ug(args regs slots:Int)(bs:List MBlk)(hm:bs.length≤1000)(hn:zF bs≤1000000):
  (args<0∧JO args regs slots bs=10)∨(0≤args∧slots<args∧JO args regs slots bs=10)∨(0≤args∧args≤slots∧((regs<0∧JO args regs slots bs=9)∨(0≤regs∧((1048576<slots∧JO args regs slots bs=6)∨
   (slots≤1048576∧((1048576<regs∧JO args regs slots bs=6)∨(regs≤1048576∧((bs.length=0∧JO args regs slots bs=14)∨(0<bs.length∧JO args regs slots bs=0))))))))):=by
 unfold JO
 by_cases h1:args<0
 ·exact .inl ⟨h1,by rw [if_pos (.inl h1)]⟩
 ·by_cases h2:slots<args
  ·exact .inr (.inl ⟨by omega,h2,by rw [if_pos (.inr h2)]⟩)
  ·refine .inr (.inr ⟨by omega,by omega,?_⟩)
   rw [if_neg (by omega)]
   by_cases h0:regs<0
   ·exact .inl ⟨h0,by rw [if_pos h0]⟩
   ·refine .inr ⟨by omega,?_⟩
    rw [if_neg h0]
    by_cases h3:1048576<slots
    ·exact .inl ⟨h3,by rw [if_pos (.inl h3)]⟩
    ·refine .inr ⟨by omega,?_⟩
     by_cases h5:1048576<regs
     ·exact .inl ⟨h5,by rw [if_pos (.inr h5)]⟩
     ·refine .inr ⟨by omega,?_⟩
      rw [if_neg (by omega)]
      by_cases h4:bs.length=0
      ·exact .inl ⟨h4,by rw [if_pos h4]⟩
      ·exact .inr ⟨by omega,by rw [if_neg h4,if_neg (by omega)]⟩
theorem zcb(B:Nat)(A:Option Addr)(bs:List MBlk)(c:Nat)(args regs slots:Int)(w:World)(hs:MBlksAt w B A bs)(hB:B≤w.heap.size)(hm:bs.length≤1000)(hn:zF bs≤1000000):
  Calls Tryz.prog 140 #[.agg #[.int .i64 args,.int .i64 regs,.int .i64 slots,.slice A bs.length c]] w fun e w'=>e= .returned (.int .i64 (JO args regs slots bs))∧Below w.heap.size w w':=by
 have HB0:=qH ((ld w.heap.size w).alloc (la _) (.cells #[.int .i64 args,.int .i64 regs,.int .i64 slots,.slice A bs.length c] 28))
 have HC:=qH (zd3 B A bs c args regs slots _ (hs.alloc hB (.cells #[.int .i64 args,.int .i64 regs,.int .i64 slots,.slice A bs.length c] 28)) (by simp;omega) hm hn)
 have hws:=Ug args regs slots bs hm hn
 clear hs
 go_enter Tryz.func140,Tryz.ntmps140
 rcases hws with ⟨h1,he⟩|⟨h1,h2,he⟩|⟨h1,h2,⟨h0,he⟩|⟨h0,⟨h3,he⟩|⟨h3,⟨h5,he⟩|⟨h5,⟨h4,he⟩|⟨h4,he⟩⟩⟩⟩⟩
 ·have HE:=qH he
  clear he
  go_wp2
  go_ret
  exact ⟨by rw [HE.out];rfl,HB0.out⟩
 ·have HE:=qH he
  clear he
  go_wp2
  go_ret
  exact ⟨by rw [HE.out];rfl,HB0.out⟩
 ·have HE:=qH he
  clear he
  go_wp2
  go_ret
  exact ⟨by rw [HE.out];rfl,HB0.out⟩
 ·have HE:=qH he
  clear he
  go_wp2
  go_ret
  exact ⟨by rw [HE.out];rfl,HB0.out⟩
 ·have HE:=qH he
  clear he
  go_wp2
  go_ret
  exact ⟨by rw [HE.out];rfl,HB0.out⟩
 ·have HE:=qH he
  have e1:((bs.length:Int)==0)=true:=by simp [h4]
  clear he h4
  go_wp2
  go_ret
  exact ⟨by rw [HE.out];rfl,HB0.out⟩
 ·have HE:=qH he
  have e1:((bs.length:Int)==0)=false:=beq_eq_false_iff_ne.2 (by omega)
  clear he
  go_wp2_with fail
  refine HC.out.mono ?_
  rintro e W1 ⟨rfl,hb1⟩
  have HB1:=qH (HB0.out.trans (hb1.mono HB0.out.size))
  clear hb1 HC
  go_wp2
  go_ret
  exact ⟨by rw [HE.out];rfl,HB1.out⟩
theorem Qa(B:Nat)(A:Option Addr)(xs:List Mi)(c:Nat)(regs slots:Int)(p q:Nat)(w:World)(hs:MisAt w B A xs)(hB:B≤w.heap.size)(hm:xs.length≤1000000)(hf:Fin2 w p q regs slots):
  Calls Tryz.prog 142 #[.slice A xs.length c,.agg #[.func (.func 181) #[] #[.pointer (some ⟨p,0,none⟩),.pointer (some ⟨q,0,none⟩)],.func (.func 183) #[] #[.pointer (some ⟨p,0,none⟩)]]] w fun e w'=>e= .returned (.int .i64 (eCd regs slots 0 xs))∧Below w.heap.size w w':=by
 have HX0:=qH (Row.new w 201 #[.func (.func 181) #[] #[.pointer (some ⟨p,0,none⟩),.pointer (some ⟨q,0,none⟩)],.func (.func 183) #[] #[.pointer (some ⟨p,0,none⟩)]])
 have HB0:=qH ((ld w.heap.size w).alloc (la _) (.cells #[.func (.func 181) #[] #[.pointer (some ⟨p,0,none⟩),.pointer (some ⟨q,0,none⟩)],.func (.func 183) #[] #[.pointer (some ⟨p,0,none⟩)]] 201))
 have HF:=qH hf
 have HS:=qH hs
 clear hf hs
 go_enter Tryz.func142,Tryz.ntmps142
 go_wp2
 go_loopw [5,11] (fun a i wr=>∃(k run:Nat),k≤xs.length∧i= .int .i64 k∧a= .int .i64 run∧run≤64∧Hid (eCd regs slots 0 xs=eCd regs slots run (xs.drop k))∧Hid (Below w.heap.size w wr)∧Hid (Row wr w.heap.size 201 #[.func (.func 181) #[] #[.pointer (some ⟨p,0,none⟩),.pointer (some ⟨q,0,none⟩)],.func (.func 183) #[] #[.pointer (some ⟨p,0,none⟩)]])) (fun _ i _=>xs.length - (intOf i).toNat)
 case atStart=>exact ⟨0,0,lF _,rfl,rfl,lF _,rfl,HB0.out,HX0.out⟩
 case round=>
  obtain ⟨k,run,hk,rfl,rfl,hr64,HT,HB,HR⟩:=hrel
  have f0:=HR.out.k0;have f1:=HR.out.k1
  have hlz:w.heap.size<wr.heap.size:=HR.out.lt
  by_cases hlt:k<xs.length
  ·obtain ⟨b,o,rfl,hb,hat⟩:=((HS.out.more hB).below HB.out).at_ hlt
   have hc0:=hat.c0;have hc1:=hat.c1;have hc2:=hat.c2;have hc3:=hat.c3;have hc4:=hat.c4;have hc5:=hat.c5;have hc6:=hat.c6
   have HST:=qH (HT.out.trans (zan regs slots xs run k hlt))
   have HB1:=qH (HB.out.alloc HB.out.size (.cells #[.int .i64 xs[k].op,.int .i64 xs[k].d,.int .i64 xs[k].a,.int .i64 xs[k].b,.int .i64 xs[k].imm,.int .i64 xs[k].dst,.int .i64 xs[k].src] 131))
   have HR1:=qH (HR.out.alloc (.cells #[.int .i64 xs[k].op,.int .i64 xs[k].d,.int .i64 xs[k].a,.int .i64 xs[k].b,.int .i64 xs[k].imm,.int .i64 xs[k].dst,.int .i64 xs[k].src] 131))
   have HM1:=qH (Row.new wr 131 #[.int .i64 xs[k].op,.int .i64 xs[k].d,.int .i64 xs[k].a,.int .i64 xs[k].b,.int .i64 xs[k].imm,.int .i64 xs[k].dst,.int .i64 xs[k].src])
   have HK:=qH (fun W hf=>zd2 xs[k] regs slots p q W hat.ok hf)
   have hx1:=zeG run xs[k]
   have HX:=qH (fun W=>UT run xs[k] W (by omega))
   clear hat HT HB HR HB0 HX0
   generalize ext run xs[k]=r2 at*
   obtain ⟨v,hv⟩:∃z,z=eM xs[k] regs slots:=⟨_,rfl⟩
   rw [←hv] at HST
   rw [←hv] at HK
   clear hv
   generalize xs[k]=y at*
   go_wp2_with fail
   refine (HK.out _ (HF.out.next HB1.out)).mono ?_
   rintro e W1 ⟨rfl,hb1⟩
   have HB2:=qH (HB1.out.trans (hb1.mono HB1.out.size))
   have HR2:=qH (HR1.out.below hb1 HR1.out.lt)
   have hm1:=HM1.out.below hb1 HM1.out.lt
   clear f0 f1
   have f0:=HR2.out.k0;have f1:=HR2.out.k1
   have m0:=hm1.k0;have m1:=hm1.k1;have m2:=hm1.k2;have m3:=hm1.k3;have m4:=hm1.k4;have m5:=hm1.k5;have m6:=hm1.k6
   clear hb1 HB1 HR1 HM1 hm1 hc0 hc1 hc2 hc3 hc4 hc5 hc6
   by_cases h0:v=0
   ·have e0:(v !=0)=false:=by simp [h0]
    have HS2:Hid (eCd regs slots 0 xs=if 64<r2 then 15 else eCd regs slots r2 (xs.drop (k+1))):=by rw [Hid,HST.out,if_pos h0]
    clear HST h0
    go_wp2_with fail
    refine (HX.out _).mono ?_
    rintro e W2 ⟨rfl,hb2⟩
    have HB3:=qH (HB2.out.trans (hb2.mono HB2.out.size))
    have HR3:=qH (HR2.out.below hb2 HR2.out.lt)
    clear hb2 HB2 HR2 f0 f1 m0 m1 m2 m3 m4 m5 m6
    by_cases h64:64<r2
    ·have HE:Hid (eCd regs slots 0 xs=15):=by rw [Hid,HS2.out,if_pos h64]
     go_wp2
     go_ret
     exact ⟨by rw [HE.out];rfl,HB3.out⟩
    ·have HE:Hid (eCd regs slots 0 xs=eCd regs slots r2 (xs.drop (k+1))):=by rw [Hid,HS2.out,if_neg h64]
     go_wp2
     go_roundw
     case rel=>exact ⟨k+1,r2,by omega,by go_num,rfl,by omega,HE.out,HB3.out,HR3.out⟩
     case measure=>simp [intOf];omega
   ·have e0:(v !=0)=true:=by simp [h0]
    have HE:Hid (eCd regs slots 0 xs=v):=by rw [Hid,HST.out,if_neg h0]
    clear HST h0
    go_wp2
    go_ret
    exact ⟨by rw [HE.out];rfl,HB2.out⟩
  ·obtain rfl:k=xs.length:=by omega
   rw [List.drop_length] at HT
   have HE:Hid (eCd regs slots 0 xs=0):=HT.out
   go_wp2
   go_ret
   exact ⟨by rw [HE.out];rfl,HB.out⟩
def FewM(regs slots:Int)(bs:List MBlk):Prop:=bs.length≤40∧regs≤60∧slots≤60∧zF bs≤900
def FewM.P(regs slots:Int)(bs:List MBlk)(w:World)(e:Ending)(w':World):Prop:=(∃b,e= .returned (.bool b)∧(b=true→FewM regs slots bs))∧Below w.heap.size w w'
theorem zd4(B:Nat)(A:Option Addr)(bs:List MBlk)(c:Nat)(args regs slots:Int)(w:World)(hs:MBlksAt w B A bs)(hB:B≤w.heap.size)(hm:bs.length≤maxLen):
  Calls Tryz.prog 20 #[.agg #[.int .i64 args,.int .i64 regs,.int .i64 slots,.slice A bs.length c]] w (FewM.P regs slots bs w):=by
 unfold maxLen at hm
 have HB0:=qH ((ld w.heap.size w).alloc (la _) (.cells #[.int .i64 args,.int .i64 regs,.int .i64 slots,.slice A bs.length c] 28))
 have hs1:=(hs.more hB).alloc (la _) (.cells #[.int .i64 args,.int .i64 regs,.int .i64 slots,.slice A bs.length c] 28)
 have hbox:=Row.new w 28 #[.int .i64 args,.int .i64 regs,.int .i64 slots,.slice A bs.length c]
 have hle:w.heap.size≤(w.alloc (.cells #[.int .i64 args,.int .i64 regs,.int .i64 slots,.slice A bs.length c] 28)).heap.size:=by simp
 by_cases h40:bs.length≤40
 ·by_cases h60:regs≤60
  ·by_cases hs60:slots≤60
   ·have h40':(bs.length:Int)≤40:=by omega
    go_enter Tryz.func20,Tryz.ntmps20
    go_wp2_with fail
    generalize w.alloc (.cells #[.int .i64 args,.int .i64 regs,.int .i64 slots,.slice A bs.length c] 28)=W0 at*
    have d0:=hbox.k0;have d1:=hbox.k1;have d2:=hbox.k2;have d3:=hbox.k3
    clear hs hbox
    go_loop [3] (fun i=>∃k:Nat,k≤bs.length∧i= .int .i64 k∧Hid (zF (bs.take k)≤300*k)) (fun i=>bs.length - (intOf i).toNat)
    case atStart=>exact ⟨0,lF _,rfl,la _⟩
    case round=>
     obtain ⟨k,hk,rfl,HN⟩:=hrel
     by_cases hlt:k<bs.length
     ·obtain ⟨b,o,rfl,hb,hat⟩:=hs1.at_ hlt
      obtain ⟨A1,c1,hc0,hl1,hl2,_⟩:=hat.code
      have HT:=qH (JP bs k hlt)
      clear hat hs1
      by_cases hbig:bs[k].code.length≤300
      ·have HN2:Hid (zF (bs.take (k+1))≤300*(k+1)):=by
        have h1:=HT.out;have h2:=HN.out
        rw [Hid]
        omega
       clear HT HN
       generalize bs[k]=x at*
       go_wp2
       go_round
       case rel=>exact ⟨k+1,by omega,by go_num,HN2.out⟩
       case measure=>simp [intOf];omega
      ·clear HT HN
       generalize bs[k]=x at*
       have hbig2:(300:Int)<x.code.length:=by omega
       go_wp2
       go_ret
       exact ⟨⟨false,rfl,fun h=>by cases h⟩,HB0.out⟩
     ·obtain rfl:k=bs.length:=by omega
      rw [List.take_length] at HN
      have HC:=qH (UU w.heap.size A bs c args regs slots W0 hs1 hle (by omega) (by have:=HN.out;omega))
      have HF:=qH (show (decide ((zF bs:Int)≤900)=true)→FewM regs slots bs from fun h=>⟨h40,h60,hs60,by have:=of_decide_eq_true h;omega⟩)
      have hcn:(zF bs:Int)≤12000:=by have:=HN.out;omega
      clear hs1 HN
      go_wp2_with fail
      refine HC.out.mono ?_
      rintro e W1 ⟨rfl,hb1⟩
      have HB1:=qH (HB0.out.trans (hb1.mono HB0.out.size))
      clear hb1 HC
      generalize zF bs=cn at*
      go_wp2
      go_ret
      exact ⟨⟨_,rfl,HF.out⟩,HB1.out⟩
   ·have h40':(bs.length:Int)≤40:=by omega
    go_enter Tryz.func20,Tryz.ntmps20
    go_wp2
    go_ret
    exact ⟨⟨false,rfl,fun h=>by cases h⟩,HB0.out⟩
  ·have h40':(bs.length:Int)≤40:=by omega
   go_enter Tryz.func20,Tryz.ntmps20
   go_wp2
   go_ret
   exact ⟨⟨false,rfl,fun h=>by cases h⟩,HB0.out⟩
 ·have h40':(40:Int)<bs.length:=by omega
  go_enter Tryz.func20,Tryz.ntmps20
  go_wp2
  go_ret
  exact ⟨⟨false,rfl,fun h=>by cases h⟩,HB0.out⟩
theorem zd5(B:Nat)(A:Option Addr)(xs:List Mi)(c:Nat)(w:World)(hs:MisAt w B A xs)(hB:B≤w.heap.size)(hm:xs.length≤1000000):
  Calls Tryz.prog 173 #[.slice A xs.length c] w fun e w'=>e= .returned (.int .i64 (mvs xs:Nat))∧Below w.heap.size w w':=by
 go_enter Tryz.func173,Tryz.ntmps173
 go_wp2
 go_loopw [3,4,9] (fun a b i wr=>∃(k run lon:Nat),k≤xs.length∧i= .int .i64 k∧a= .int .i64 run∧b= .int .i64 lon∧run≤lon∧lon≤k∧Hid (mvs xs=max lon (max (run+JG (xs.drop k)) (mvs (xs.drop k))))∧Hid (Below w.heap.size w wr)) (fun _ _ i _=>xs.length - (intOf i).toNat)
 case atStart=>exact ⟨0,0,0,lF _,rfl,rfl,rfl,la _,la _,by have:=zam xs;rw [Hid,List.drop_zero];omega,ld _ _⟩
 case round=>
  obtain ⟨k,run,lon,hk,rfl,rfl,rfl,hrl,hlk,HT,HB⟩:=hrel
  by_cases hlt:k<xs.length
  ·obtain ⟨b,o,rfl,hb,hat⟩:=((hs.more hB).below HB.out).at_ hlt
   have hc0:=hat.c0;have hc1:=hat.c1;have hc2:=hat.c2;have hc3:=hat.c3;have hc4:=hat.c4;have hc5:=hat.c5;have hc6:=hat.c6
   have HS:Hid (mvs xs=max (max lon (ext run xs[k])) (max (ext run xs[k]+JG (xs.drop (k+1))) (mvs (xs.drop (k+1))))):=by
    rw [Hid,HT.out,List.drop_eq_getElem_cons hlt]
    exact zdA run lon xs[k] _ hrl
   have HB1:=qH (HB.out.alloc HB.out.size (.cells #[.int .i64 xs[k].op,.int .i64 xs[k].d,.int .i64 xs[k].a,.int .i64 xs[k].b,.int .i64 xs[k].imm,.int .i64 xs[k].dst,.int .i64 xs[k].src] 131))
   have hx1:=zeG run xs[k]
   have HX:=qH (fun W=>UT run xs[k] W (by omega))
   clear hat hs HT HB
   generalize ext run xs[k]=r2 at*
   generalize xs[k]=y at*
   go_wp2_with fail
   refine (HX.out _).mono ?_
   rintro e W1 ⟨rfl,hb1⟩
   have HB2:=qH (HB1.out.trans (hb1.mono HB1.out.size))
   clear hb1 HB1
   go_wp2
   go_roundw
   case rel=>exact ⟨k+1,r2,max lon r2,by omega,by go_num,rfl,by go_num,by omega,by omega,HS.out,HB2.out⟩
   case measure=>simp [intOf];omega
  ·obtain rfl:k=xs.length:=by omega
   rw [List.drop_length] at HT
   have HT2:Hid (mvs xs=lon):=by rw [Hid,HT.out,JG,mvs];omega
   go_wp2
   go_ret
   exact ⟨by rw [HT2.out];rfl,HB.out⟩
theorem zcc(B:Nat)(A:Option Addr)(xs:List Mi)(c:Nat)(w:World)(hs:MisAt w B A xs)(hm:xs.length≤1000000):
  Calls Tryz.prog 113 #[.slice A xs.length c] w fun e w'=>e= .returned (.int .i64 (mvs xs:Nat))∧w=w':=by
 have HS:=qH hs
 clear hs
 go_enter Tryz.func113,Tryz.ntmps113
 go_wp2
 go_loopg [3,4] xs.length (fun g a i wr=>∃(k most:Nat),k+g=xs.length∧i= .int .i64 k∧a= .int .i64 most∧most≤xs.length∧Hid (mvs xs=max most (mvs (xs.drop k)))∧wr=w)
 case atStart=>exact ⟨0,0,by omega,rfl,rfl,lF _,by rw [Hid,List.drop_zero];omega,rfl⟩
 case round=>
  obtain ⟨k,most,hkg,rfl,rfl,hmost,HT,rfl⟩:=hrel
  cases gk with
  |zero=>
   obtain rfl:k=xs.length:=by omega
   rw [List.drop_length] at HT
   have HT2:Hid (mvs xs=most):=by rw [Hid,HT.out,mvs];omega
   go_wp2
   go_ret
   exact ⟨by rw [HT2.out];rfl,rfl⟩
  |succ g=>
   have hlt:k<xs.length:=by omega
   have HM:Hid (mvs (xs.drop k)=max (JG (xs.drop k)) (mvs (xs.drop (k+1)))):=by rw [Hid,List.drop_eq_getElem_cons hlt];rfl
   go_wp2
   go_loopg [5] (xs.length - k) (fun g2 n wx=>∃m:Nat,k+m+g2=xs.length∧n= .int .i64 m∧Hid (JG (xs.drop k)=m+JG (xs.drop (k+m)))∧wx=wr)
   case atStart=>exact ⟨0,by omega,rfl,by rw [Hid];simp,rfl⟩
   case round=>
    obtain ⟨m,hmg,rfl,HL,rfl⟩:=hrel
    cases gk with
    |zero=>
     have hkm:k+m=xs.length:=by omega
     have HL2:Hid (JG (xs.drop k)=m):=by rw [Hid,HL.out,hkm,List.drop_length];rfl
     have HN:Hid (mvs xs=max (max most m) (mvs (xs.drop (k+1)))):=by rw [Hid,HT.out,HM.out,HL2.out];omega
     by_cases hgt:most<m
     ·go_wp2
      go_roundg g
      case measure=>omega
      case rel=>exact ⟨k+1,m,by omega,by go_num,rfl,by omega,by rw [Hid,HN.out];omega,rfl⟩
     ·go_wp2
      go_roundg g
      case measure=>omega
      case rel=>exact ⟨k+1,most,by omega,by go_num,rfl,by omega,by rw [Hid,HN.out];omega,rfl⟩
    |succ g2=>
     have hlm:k+m<xs.length:=by omega
     obtain ⟨b,o,rfl,hb,hat⟩:=HS.out.at_ hlm
     have hc0:=hat.c0
     have HD:Hid (JG (xs.drop (k+m))=if xs[k+m].mv then JG (xs.drop (k+m+1))+1 else 0):=by rw [Hid,List.drop_eq_getElem_cons hlm];rfl
     clear hat
     generalize xs[k+m]=y at*
     have hmv:y.mv=(y.op==18):=rfl
     cases h18:(y.op==18)
     ·have HL2:Hid (JG (xs.drop k)=m):=by rw [Hid,HL.out,HD.out,hmv,h18];rfl
      have HN:Hid (mvs xs=max (max most m) (mvs (xs.drop (k+1)))):=by rw [Hid,HT.out,HM.out,HL2.out];omega
      clear hmv
      by_cases hgt:most<m
      ·go_wp2
       go_roundg g
       case measure=>omega
       case rel=>exact ⟨k+1,m,by omega,by go_num,rfl,by omega,by rw [Hid,HN.out];omega,rfl⟩
      ·go_wp2
       go_roundg g
       case measure=>omega
       case rel=>exact ⟨k+1,most,by omega,by go_num,rfl,by omega,by rw [Hid,HN.out];omega,rfl⟩
     ·have HL2:Hid (JG (xs.drop k)=m+1+JG (xs.drop (k+(m+1)))):=by rw [Hid,HL.out,HD.out,hmv,h18,if_pos rfl,Nat.add_assoc k m 1];omega
      clear hmv
      go_wp2
      go_roundg g2
      case measure=>omega
      case rel=>exact ⟨m+1,by omega,by go_num,HL2.out,rfl⟩
theorem zff(B:Nat)(A:Option Addr)(bs:List Blk)(c:Nat)(args regs:Int)(w:World)(hs:BlksAt w B A bs)(hB:B≤w.heap.size)(hm:bs.length≤1000)(hn:zQ bs≤1000000):
  Calls Tryz.prog 178 #[.agg #[.int .i64 args,.int .i64 regs,.slice A bs.length c]] w fun e w'=>e= .returned (.int .i64 (zQ bs:Nat))∧Below w.heap.size w w':=by
 have HB0:=qH ((ld w.heap.size w).alloc (la _) (.cells #[.int .i64 args,.int .i64 regs,.slice A bs.length c] 25))
 go_enter Tryz.func178,Tryz.ntmps178
 go_wp2
 go_loopw [3,9] (fun s i wr=>∃k:Nat,k≤bs.length∧i= .int .i64 k∧s= .int .i64 (zQ (bs.take k):Nat)∧Hid (Below w.heap.size w wr)) (fun _ i _=>bs.length - (intOf i).toNat)
 case atStart=>exact ⟨0,lF _,rfl,rfl,HB0.out⟩
 case round=>
  obtain ⟨k,hk,rfl,rfl,HB⟩:=hrel
  by_cases hlt:k<bs.length
  ·obtain ⟨b,o,rfl,hb,hat⟩:=((hs.more hB).below HB.out).at_ hlt
   obtain ⟨A1,c1,hc0,hl1,hl2,_⟩:=hat.code
   have hc1:=hat.t0;have hc2:=hat.t1;have hc3:=hat.t2;have hc4:=hat.t3
   have HT:=qH (Zc bs k hlt)
   have h2:=Z9 bs (k+1)
   rw [HT.out] at h2
   have HB2:=qH (HB.out.alloc HB.out.size (.cells #[.slice A1 bs[k].code.length c1,.int .i64 bs[k].term.kind,.int .i64 bs[k].term.a,.int .i64 bs[k].term.to,.int .i64 bs[k].term.el] 60))
   clear hat hs HB
   generalize zQ (bs.take k)=s0 at h2 HT
   generalize bs[k]=x at*
   go_wp2
   go_roundw
   case rel=>exact ⟨k+1,by omega,by go_num,by rw [HT.out];go_num,HB2.out⟩
   case measure=>simp [intOf];omega
  ·obtain rfl:k=bs.length:=by omega
   rw [List.take_length]
   go_wp2
   go_ret
   exact ⟨rfl,HB.out⟩
theorem Qt(B:Nat)(A:Option Addr)(bs:List Blk)(c:Nat)(args regs:Int)(w:World)(hs:BlksAt w B A bs)(hB:B≤w.heap.size)(hm:bs.length≤1000)(hn:zQ bs≤1000000):
  Calls Tryz.prog 58 #[.agg #[.int .i64 args,.int .i64 regs,.slice A bs.length c]] w fun e w'=>e= .returned (.int .i64 (zQ bs:Nat))∧Below w.heap.size w w':=by
 have HB0:=qH ((ld w.heap.size w).alloc (la _) (.cells #[.int .i64 args,.int .i64 regs,.slice A bs.length c] 25))
 have hs1:=(hs.more hB).alloc (la _) (.cells #[.int .i64 args,.int .i64 regs,.slice A bs.length c] 25)
 have hbox:=Row.new w 25 #[.int .i64 args,.int .i64 regs,.slice A bs.length c]
 go_enter Tryz.func58,Tryz.ntmps58
 go_wp2_with fail
 generalize w.alloc (.cells #[.int .i64 args,.int .i64 regs,.slice A bs.length c] 25)=W0 at*
 have d2:=hbox.k2
 clear hs hbox
 go_loop [3,4] (fun s i=>∃k:Nat,k≤bs.length∧i= .int .i64 k∧s= .int .i64 (zQ (bs.take k):Nat)) (fun _ i=>bs.length - (intOf i).toNat)
 case atStart=>exact ⟨0,lF _,rfl,rfl⟩
 case round=>
  obtain ⟨k,hk,rfl,rfl⟩:=hrel
  by_cases hlt:k<bs.length
  ·obtain ⟨b,o,rfl,hb,hat⟩:=hs1.at_ hlt
   obtain ⟨A1,c1,hc0,hl1,hl2,_⟩:=hat.code
   have HT:=qH (Zc bs k hlt)
   have h2:=Z9 bs (k+1)
   rw [HT.out] at h2
   clear hat hs1
   generalize zQ (bs.take k)=s0 at h2 HT
   generalize bs[k]=x at*
   go_wp2
   go_round
   case rel=>exact ⟨k+1,by omega,by go_num,by rw [HT.out];go_num⟩
   case measure=>simp [intOf];omega
  ·obtain rfl:k=bs.length:=by omega
   rw [List.take_length]
   go_wp2
   go_ret
   exact ⟨rfl,HB0.out⟩
theorem UV(args regs:Int)(bs:List Blk)(hm:bs.length≤1000)(hn:zQ bs≤1000000):
  (args<0∧eSz args regs bs=9)∨(0≤args∧regs<args∧eSz args regs bs=9)∨(0≤args∧args≤regs∧((1048576<regs∧eSz args regs bs=6)∨(regs≤1048576∧((bs.length=0∧eSz args regs bs=14)∨(0<bs.length∧eSz args regs bs=0))))):=by
 unfold eSz
 by_cases h1:args<0
 ·exact .inl ⟨h1,by rw [if_pos (.inl h1)]⟩
 ·by_cases h2:regs<args
  ·exact .inr (.inl ⟨by omega,h2,by rw [if_pos (.inr h2)]⟩)
  ·refine .inr (.inr ⟨by omega,by omega,?_⟩)
   rw [if_neg (by omega)]
   by_cases h3:1048576<regs
   ·exact .inl ⟨h3,by rw [if_pos h3]⟩
   ·refine .inr ⟨by omega,?_⟩
    rw [if_neg h3]
    by_cases h4:bs.length=0
    ·exact .inl ⟨h4,by rw [if_pos h4]⟩
    ·exact .inr ⟨by omega,by rw [if_neg h4,if_neg (by omega)]⟩
theorem zd6(B:Nat)(A:Option Addr)(bs:List Blk)(c:Nat)(args regs:Int)(w:World)(hs:BlksAt w B A bs)(hB:B≤w.heap.size)(hm:bs.length≤1000)(hn:zQ bs≤1000000):
  Calls Tryz.prog 138 #[.agg #[.int .i64 args,.int .i64 regs,.slice A bs.length c]] w fun e w'=>e= .returned (.int .i64 (eSz args regs bs))∧Below w.heap.size w w':=by
 have HB0:=qH ((ld w.heap.size w).alloc (la _) (.cells #[.int .i64 args,.int .i64 regs,.slice A bs.length c] 25))
 have HC:=qH (zff B A bs c args regs _ (hs.alloc hB (.cells #[.int .i64 args,.int .i64 regs,.slice A bs.length c] 25)) (by simp;omega) hm hn)
 have hws:=UV args regs bs hm hn
 clear hs
 go_enter Tryz.func138,Tryz.ntmps138
 rcases hws with ⟨h1,he⟩|⟨h1,h2,he⟩|⟨h1,h2,⟨h3,he⟩|⟨h3,⟨h4,he⟩|⟨h4,he⟩⟩⟩
 ·have HE:=qH he
  clear he
  go_wp2
  go_ret
  exact ⟨by rw [HE.out];rfl,HB0.out⟩
 ·have HE:=qH he
  clear he
  go_wp2
  go_ret
  exact ⟨by rw [HE.out];rfl,HB0.out⟩
 ·have HE:=qH he
  clear he
  go_wp2
  go_ret
  exact ⟨by rw [HE.out];rfl,HB0.out⟩
 ·have HE:=qH he
  have e1:((bs.length:Int)==0)=true:=by simp [h4]
  clear he h4
  go_wp2
  go_ret
  exact ⟨by rw [HE.out];rfl,HB0.out⟩
 ·have HE:=qH he
  have e1:((bs.length:Int)==0)=false:=beq_eq_false_iff_ne.2 (by omega)
  clear he
  go_wp2_with fail
  refine HC.out.mono ?_
  rintro e W1 ⟨rfl,hb1⟩
  have HB1:=qH (HB0.out.trans (hb1.mono HB0.out.size))
  clear hb1 HC
  go_wp2
  go_ret
  exact ⟨by rw [HE.out];rfl,HB1.out⟩
def FewF(regs:Int)(bs:List Blk):Prop:=bs.length≤40∧regs≤60∧zQ bs≤300
def FewF.P(regs:Int)(bs:List Blk)(w:World)(e:Ending)(w':World):Prop:=(∃b,e= .returned (.bool b)∧(b=true→FewF regs bs))∧Below w.heap.size w w'
theorem zfg(B:Nat)(A:Option Addr)(bs:List Blk)(c:Nat)(args regs:Int)(w:World)(hs:BlksAt w B A bs)(hB:B≤w.heap.size)(hm:bs.length≤maxLen):
  Calls Tryz.prog 19 #[.agg #[.int .i64 args,.int .i64 regs,.slice A bs.length c]] w (FewF.P regs bs w):=by
 unfold maxLen at hm
 have HB0:=qH ((ld w.heap.size w).alloc (la _) (.cells #[.int .i64 args,.int .i64 regs,.slice A bs.length c] 25))
 have hs1:=(hs.more hB).alloc (la _) (.cells #[.int .i64 args,.int .i64 regs,.slice A bs.length c] 25)
 have hbox:=Row.new w 25 #[.int .i64 args,.int .i64 regs,.slice A bs.length c]
 have hle:w.heap.size≤(w.alloc (.cells #[.int .i64 args,.int .i64 regs,.slice A bs.length c] 25)).heap.size:=by simp
 by_cases h40:bs.length≤40
 ·by_cases h60:regs≤60
  ·have h40':(bs.length:Int)≤40:=by omega
   go_enter Tryz.func19,Tryz.ntmps19
   go_wp2_with fail
   generalize w.alloc (.cells #[.int .i64 args,.int .i64 regs,.slice A bs.length c] 25)=W0 at*
   have d0:=hbox.k0;have d1:=hbox.k1;have d2:=hbox.k2
   clear hs hbox
   go_loop [3] (fun i=>∃k:Nat,k≤bs.length∧i= .int .i64 k∧Hid (zQ (bs.take k)≤100*k)) (fun i=>bs.length - (intOf i).toNat)
   case atStart=>exact ⟨0,lF _,rfl,la _⟩
   case round=>
    obtain ⟨k,hk,rfl,HN⟩:=hrel
    by_cases hlt:k<bs.length
    ·obtain ⟨b,o,rfl,hb,hat⟩:=hs1.at_ hlt
     obtain ⟨A1,c1,hc0,hl1,hl2,_⟩:=hat.code
     have HT:=qH (Zc bs k hlt)
     clear hat hs1
     by_cases hbig:bs[k].code.length≤100
     ·have HN2:Hid (zQ (bs.take (k+1))≤100*(k+1)):=by
       have h1:=HT.out;have h2:=HN.out
       rw [Hid]
       omega
      clear HT HN
      generalize bs[k]=x at*
      go_wp2
      go_round
      case rel=>exact ⟨k+1,by omega,by go_num,HN2.out⟩
      case measure=>simp [intOf];omega
     ·clear HT HN
      generalize bs[k]=x at*
      have hbig2:(100:Int)<x.code.length:=by omega
      go_wp2
      go_ret
      exact ⟨⟨false,rfl,fun h=>by cases h⟩,HB0.out⟩
    ·obtain rfl:k=bs.length:=by omega
     rw [List.take_length] at HN
     have HC:=qH (Qt w.heap.size A bs c args regs W0 hs1 hle (by omega) (by have:=HN.out;omega))
     have HF:=qH (show (decide ((zQ bs:Int)≤300)=true)→FewF regs bs from fun h=>⟨h40,h60,by have:=of_decide_eq_true h;omega⟩)
     have hcn:(zQ bs:Int)≤4000:=by have:=HN.out;omega
     clear hs1 HN
     go_wp2_with fail
     refine HC.out.mono ?_
     rintro e W1 ⟨rfl,hb1⟩
     have HB1:=qH (HB0.out.trans (hb1.mono HB0.out.size))
     clear hb1 HC
     generalize zQ bs=cn at*
     go_wp2
     go_ret
     exact ⟨⟨_,rfl,HF.out⟩,HB1.out⟩
  ·have h40':(bs.length:Int)≤40:=by omega
   go_enter Tryz.func19,Tryz.ntmps19
   go_wp2
   go_ret
   exact ⟨⟨false,rfl,fun h=>by cases h⟩,HB0.out⟩
 ·have h40':(40:Int)<bs.length:=by omega
  go_enter Tryz.func19,Tryz.ntmps19
  go_wp2
  go_ret
  exact ⟨⟨false,rfl,fun h=>by cases h⟩,HB0.out⟩
end Go.Proofs.YtnifhpbgmjcndaaGreat
namespace Go.Proofs.YtnifhpbgmjcndaaGreat
open Go.RowKit Go.ChangeShapes Go.WideShapes Go.Deep
def I64(x:Int):Prop:=(Lit.int .i64 x).wf=true
def Tm.Wf(t:Tm):Prop:=I64 t.kind∧I64 t.a∧I64 t.to∧I64 t.el
section
variable {H : Type} {enc : TypeId × Value → H} {P : Program} {w : World} {base : Nat} {spare : Nat → Bool} {held : Bool}
theorem yB{ft:TypeId}{n k i:Nat}{cs:List Value}{xs:List (DataW H × List MemPlace)}(hu:P.underlying ft=some (.int .i64))(hc:P.cellsOf ft=1)
  (hx:DataW.trod enc P w base spare held n ft ((cs.drop k).take (P.cellsOf ft))=xs[i]?) (hi:i<xs.length) (hk:k<cs.length):∃v:Int,cs[k]?=some (.int .i64 v)∧I64 v:=by
 rw [hc,List.drop_eq_getElem_cons hk,ly,List.take_zero,List.getElem?_eq_getElem hi] at hx
 obtain ⟨v,e,_,hw⟩:=DataW.trod_int hu hx
 injection e with e _
 exact ⟨v,by rw [List.getElem?_eq_getElem hk,e],hw⟩
theorem ZF{ft:TypeId}{n k i:Nat}{cs:List Value}{xs:List (DataW H × List MemPlace)}(hc:P.cellsOf ft=1)
  (hx:DataW.trod enc P w base spare held n ft ((cs.drop k).take (P.cellsOf ft))=xs[i]?) (hi:i<xs.length) (hk:k<cs.length):∃v y,cs[k]?=some v∧DataW.trod enc P w base spare held n ft [v]=some y:=by
 rw [hc,List.drop_eq_getElem_cons hk,ly,List.take_zero,List.getElem?_eq_getElem hi] at hx
 exact ⟨cs[k],_,List.getElem?_eq_getElem hk,hx⟩
theorem Jd{t e:TypeId}{s:Nat}{fuel:Nat}{a:Option Addr}{len cap:Nat}{x:DataW H × List MemPlace}(ht:P.underlying t=some (.slice e))(hC:P.cellsOf e=s)(h0:0<s)
  (h:DataW.trod enc P w base spare held fuel t [.slice a len cap]=some x):
  len≤cap∧cap≤maxLen∧∀i,i<len→∃b o n cs y,a=some ⟨b,o,none⟩∧b<w.heap.size∧cs.length=s∧(∀j,j<s→w.cell? ⟨b,o+(i*s+j),none⟩=cs[j]?)∧DataW.trod enc P w base spare held n e cs=some y:=by
 rcases open_slice ht h with ⟨h0,_⟩|⟨ad,l,c,m,n,D,Pl,hcs,_,hl,hm,hmm,_,hi⟩
 ·injection h0 with h0 _
  injection h0 with h1 h2 h3
  subst h2
  subst h3
  exact ⟨la _,lF _,fun i hi=>by omega⟩
 ·injection hcs with h0 _
  injection h0 with h1 h2 h3
  subst h1
  subst h2
  subst h3
  have hlm:len≤m:=by rw [hmm];split<;>omega
  refine ⟨hl,hm,fun i hil=> ?_⟩
  obtain ⟨c0,hc0,_⟩:=hi 0 (by omega)
  rw [hC] at hc0
  obtain ⟨_,hcl0,hat0⟩:=World.cells?_some hc0
  have hz:=hat0 0 (by omega)
  rw [Go.Deep.add_add,Nat.zero_mul,List.getElem?_eq_getElem (by omega)] at hz
  obtain ⟨b,o,sp⟩:=ad
  have hs:sp=none:=by simpa [Addr.add] using World.cell?_spot hz
  subst hs
  obtain ⟨cs',hc,htr⟩:=hi i (by omega)
  rw [hC] at hc
  obtain ⟨_,hcl,hat⟩:=World.cells?_some hc
  refine ⟨b,o,n,cs',_,rfl,World.block_lt_of_cell? w _ (by simpa [Addr.add] using hz),hcl,fun j hj=> ?_,htr⟩
  have:=hat j hj
  rwa [Go.Deep.add_add,Addr.add_lit] at this
end
theorem len3{α:Type}{l:List α}(h:l.length=3):∃a b c,l= [a,b,c]:=by
 rcases l with _|⟨a,_|⟨b,_|⟨c,_|⟨d,r⟩⟩⟩⟩<;>simp at h
 exact ⟨_,_,_,rfl⟩
theorem len4{α:Type}{l:List α}(h:l.length=4):∃a b c d,l= [a,b,c,d]:=by
 rcases l with _|⟨a,_|⟨b,_|⟨c,_|⟨d,_|⟨e,r⟩⟩⟩⟩⟩<;>simp at h
 exact ⟨_,_,_,_,rfl⟩
theorem zfh{α:Type}{l:List α}(h:l.length=5):∃a b c d e,l= [a,b,c,d,e]:=by
 rcases l with _|⟨a,_|⟨b,_|⟨c,_|⟨d,_|⟨e,_|⟨f,r⟩⟩⟩⟩⟩⟩<;>simp at h
 exact ⟨_,_,_,_,_,rfl⟩
theorem Tm.of{H:Type}{enc:TypeId × Value→H}{w:World}{base:Nat}{spare:Nat→Bool}{held:Bool}{fuel:Nat}{cs:List Value}{x:DataW H × List MemPlace}(h:DataW.trod enc Tryz.prog w base spare held fuel 57 cs=some x):∃t:Tm,cs= [.int .i64 t.kind,.int .i64 t.a,.int .i64 t.to,.int .i64 t.el]∧t.Wf:=by
 obtain ⟨xs,n,_,_,hl,hxl,hf⟩:=DataW.trod_struct Tryz.underlying57 h
 have h5:cs.length=4:=hl.trans (by kernel_rfl)
 have hx5:xs.length=4:=hxl
 obtain ⟨v0,e0,w0⟩:=yB (k:=0) Tryz.underlying3 (by kernel_rfl) (hf 0 _ rfl) (by omega) (by rw [h5];decide)
 obtain ⟨v1,e1,w1⟩:=yB (k:=1) Tryz.underlying3 (by kernel_rfl) (hf 1 _ rfl) (by omega) (by rw [h5];decide)
 obtain ⟨v2,e2,w2⟩:=yB (k:=2) Tryz.underlying3 (by kernel_rfl) (hf 2 _ rfl) (by omega) (by rw [h5];decide)
 obtain ⟨v3,e3,w3⟩:=yB (k:=3) Tryz.underlying3 (by kernel_rfl) (hf 3 _ rfl) (by omega) (by rw [h5];decide)
 refine ⟨⟨v0,v1,v2,v3⟩,?_,w0,w1,w2,w3⟩
 obtain ⟨a,b,c,d,rfl⟩:=len4 h5
 simp only [lk,lm,Option.some.injEq] at e0 e1 e2 e3
 rw [e0,e1,e2,e3]
def Mi.Wf(x:Mi):Prop:=I64 x.op∧I64 x.d∧I64 x.a∧I64 x.b∧I64 x.imm∧I64 x.dst∧I64 x.src
def MBlk.Wf(x:MBlk):Prop:=(∀y∈x.code,y.Wf)∧x.term.Wf
theorem I64.fits{x:Int}(h:I64 x):Yr x:=ZM h
theorem Mi.Wf.ok{x:Mi}(h:x.Wf):x.Ok:=⟨h.2.2.2.2.2.1.fits,h.2.2.2.2.2.2.fits⟩
theorem len7{α:Type}{l:List α}(h:l.length=7):∃a b c d e f g,l= [a,b,c,d,e,f,g]:=by
 rcases l with _|⟨a,_|⟨b,_|⟨c,_|⟨d,_|⟨e,_|⟨f,_|⟨g,_|⟨i,r⟩⟩⟩⟩⟩⟩⟩⟩<;>simp at h
 exact ⟨_,_,_,_,_,_,_,rfl⟩
theorem Mi.of{H:Type}{enc:TypeId × Value→H}{w:World}{base:Nat}{spare:Nat→Bool}{held:Bool}{fuel:Nat}{cs:List Value}{x:DataW H × List MemPlace}(h:DataW.trod enc Tryz.prog w base spare held fuel 131 cs=some x):∃y:Mi,cs=y.cells∧y.Wf:=by
 obtain ⟨xs,n,_,_,hl,hxl,hf⟩:=DataW.trod_struct Tryz.underlying131 h
 have h5:cs.length=7:=hl.trans (by kernel_rfl)
 have hx5:xs.length=7:=hxl
 obtain ⟨v0,e0,w0⟩:=yB (k:=0) Tryz.underlying3 (by kernel_rfl) (hf 0 _ rfl) (by omega) (by rw [h5];decide)
 obtain ⟨v1,e1,w1⟩:=yB (k:=1) Tryz.underlying3 (by kernel_rfl) (hf 1 _ rfl) (by omega) (by rw [h5];decide)
 obtain ⟨v2,e2,w2⟩:=yB (k:=2) Tryz.underlying3 (by kernel_rfl) (hf 2 _ rfl) (by omega) (by rw [h5];decide)
 obtain ⟨v3,e3,w3⟩:=yB (k:=3) Tryz.underlying3 (by kernel_rfl) (hf 3 _ rfl) (by omega) (by rw [h5];decide)
 obtain ⟨v4,e4,w4⟩:=yB (k:=4) Tryz.underlying2 (by kernel_rfl) (hf 4 _ rfl) (by omega) (by rw [h5];decide)
 obtain ⟨v5,e5,w5⟩:=yB (k:=5) Tryz.underlying53 (by kernel_rfl) (hf 5 _ rfl) (by omega) (by rw [h5];decide)
 obtain ⟨v6,e6,w6⟩:=yB (k:=6) Tryz.underlying53 (by kernel_rfl) (hf 6 _ rfl) (by omega) (by rw [h5];decide)
 refine ⟨⟨v0,v1,v2,v3,v4,v5,v6⟩,?_,w0,w1,w2,w3,w4,w5,w6⟩
 obtain ⟨a,b,c,d,e,f,g,rfl⟩:=len7 h5
 simp only [lk,lm,Option.some.injEq] at e0 e1 e2 e3 e4 e5 e6
 rw [e0,e1,e2,e3,e4,e5,e6]
 rfl
theorem MisAt.of{H:Type}{enc:TypeId × Value→H}{w:World}{base:Nat}{spare:Nat→Bool}{held:Bool}{fuel:Nat}{a:Option Addr}{len cap:Nat}{x:DataW H × List MemPlace}(h:DataW.trod enc Tryz.prog w base spare held fuel 61 [.slice a len cap]=some x):
  ∃xs:List Mi,xs.length=len∧len≤cap∧cap≤maxLen∧MisAt w w.heap.size a xs∧∀y∈xs,y.Wf:=by
 obtain ⟨hl,hm,hi⟩:=Jd (s:=7) Tryz.underlying61 (by kernel_rfl) (by decide) h
 have each:∀i,i<len→∃y:Mi,y.Wf∧∃b o,a=some ⟨b,o,none⟩∧b<w.heap.size∧y.At w b (o+i*7):=fun i hil=>by
  obtain ⟨b,o,n,cs,z,rfl,hlt,hcl,hat,ht⟩:=hi i hil
  obtain ⟨y,rfl,hy⟩:=Mi.of ht
  have g:=fun j (hj:j<7)=>hat j hj
  have g0:=g 0 (by decide);have g1:=g 1 (by decide);have g2:=g 2 (by decide);have g3:=g 3 (by decide);have g4:=g 4 (by decide);have g5:=g 5 (by decide);have g6:=g 6 (by decide)
  refine ⟨y,hy,b,o,rfl,hlt,hy.ok,?_,?_,?_,?_,?_,?_,?_⟩
  ·exact g0
  ·rw [Nat.add_assoc];exact g1
  ·rw [Nat.add_assoc];exact g2
  ·rw [Nat.add_assoc];exact g3
  ·rw [Nat.add_assoc];exact g4
  ·rw [Nat.add_assoc];exact g5
  ·rw [Nat.add_assoc];exact g6
 haveI:Inhabited Mi:=⟨⟨0,0,0,0,0,0,0⟩⟩
 obtain ⟨y,hy⟩:=choose_lt each
 refine ⟨(List.range len).map y,by simp,hl,hm,fun hn=> ?_,fun z hz=> ?_⟩
 ·have h0:0<len:=by
   rcases Nat.eq_zero_or_pos len with h0|h0
   ·subst h0;simp at hn
   ·exact h0
  obtain ⟨_,b,o,rfl,hb,_⟩:=hy 0 h0
  refine ⟨b,o,rfl,hb,fun i z hz=> ?_⟩
  have hil:i<len:=by
   have:=(List.getElem?_eq_some_iff.1 hz).1
   simpa using this
  obtain ⟨_,b',o',e,_,hat⟩:=hy i hil
  injection e with e
  injection e with e1 e2
  subst e1
  subst e2
  have:y i=z:=by simpa [hil] using hz
  subst this
  exact hat
 ·obtain ⟨i,hil,rfl⟩:=List.mem_map.1 hz
  exact (hy i (List.mem_range.1 hil)).1
theorem MBlk.of{H:Type}{enc:TypeId × Value→H}{w:World}{base:Nat}{spare:Nat→Bool}{held:Bool}{fuel:Nat}{cs:List Value}{x:DataW H × List MemPlace}(h:DataW.trod enc Tryz.prog w base spare held fuel 63 cs=some x):
  ∃(y:MBlk) (A:Option Addr) (c:Nat),cs= [.slice A y.code.length c,.int .i64 y.term.kind,.int .i64 y.term.a,.int .i64 y.term.to,.int .i64 y.term.el]∧y.code.length≤c∧c≤maxLen∧MisAt w w.heap.size A y.code∧y.Wf:=by
 obtain ⟨xs,n,_,_,hl,hxl,hf⟩:=DataW.trod_struct Tryz.underlying63 h
 have h5:cs.length=5:=hl.trans (by kernel_rfl)
 have hx5:xs.length=2:=hxl
 obtain ⟨v0,y0,e0,t0⟩:=ZF (k:=0) (cs:=cs) (by kernel_rfl) (hf 0 _ rfl) (by omega) (by rw [h5];decide)
 have h1:=hf 1 _ rfl
 rw [List.getElem?_eq_getElem (by omega)] at h1
 obtain ⟨t,et,ht⟩:=Tm.of (cs:=(cs.drop 1).take (Tryz.prog.cellsOf 57)) h1
 rcases open_slice Tryz.underlying61 t0 with ⟨h0,_⟩|⟨ad,l,c,m,n',D,Pl,hcs,_⟩
 ·injection h0 with h0 _
  refine ⟨⟨[],t⟩,none,0,?_,la _,lF _,MisAt.nil,fun y hy=>by simp at hy,ht⟩
  obtain ⟨a,b,c,d,e,rfl⟩:=zfh h5
  simp only [lk,Option.some.injEq] at e0
  rw [show Tryz.prog.cellsOf 57=4 from by kernel_rfl] at et
  simp only [List.drop_succ_cons,List.drop_zero,ly,List.take_zero] at et
  rw [e0,h0,et]
  rfl
 ·injection hcs with h0 _
  subst h0
  obtain ⟨code,rfl,hl1,hl2,hin,hw⟩:=MisAt.of t0
  refine ⟨⟨code,t⟩,some ad,c,?_,hl1,hl2,hin,hw,ht⟩
  obtain ⟨a,b,c',d,e,rfl⟩:=zfh h5
  simp only [lk,Option.some.injEq] at e0
  rw [show Tryz.prog.cellsOf 57=4 from by kernel_rfl] at et
  simp only [List.drop_succ_cons,List.drop_zero,ly,List.take_zero] at et
  rw [e0,et]
theorem MBlksAt.of{H:Type}{enc:TypeId × Value→H}{w:World}{base:Nat}{spare:Nat→Bool}{held:Bool}{fuel:Nat}{a:Option Addr}{len cap:Nat}{x:DataW H × List MemPlace}(h:DataW.trod enc Tryz.prog w base spare held fuel 26 [.slice a len cap]=some x):
  ∃xs:List MBlk,xs.length=len∧len≤cap∧cap≤maxLen∧MBlksAt w w.heap.size a xs∧∀y∈xs,y.Wf:=by
 obtain ⟨hl,hm,hi⟩:=Jd (s:=5) Tryz.underlying26 (by kernel_rfl) (by decide) h
 have each:∀i,i<len→∃y:MBlk,y.Wf∧∃b o,a=some ⟨b,o,none⟩∧b<w.heap.size∧y.At w w.heap.size b (o+i*5):=fun i hil=>by
  obtain ⟨b,o,n,cs,z,rfl,hlt,hcl,hat,ht⟩:=hi i hil
  obtain ⟨y,A,c,rfl,hl1,hl2,hin,hy⟩:=MBlk.of ht
  have g:=fun j (hj:j<5)=>hat j hj
  have g0:=g 0 (by decide);have g1:=g 1 (by decide);have g2:=g 2 (by decide);have g3:=g 3 (by decide);have g4:=g 4 (by decide)
  refine ⟨y,hy,b,o,rfl,hlt,⟨A,c,?_,hl1,hl2,hin⟩,?_,?_,?_,?_⟩
  ·exact g0
  ·rw [Nat.add_assoc];exact g1
  ·rw [Nat.add_assoc];exact g2
  ·rw [Nat.add_assoc];exact g3
  ·rw [Nat.add_assoc];exact g4
 haveI:Inhabited MBlk:=⟨⟨[],⟨0,0,0,0⟩⟩⟩
 obtain ⟨y,hy⟩:=choose_lt each
 refine ⟨(List.range len).map y,by simp,hl,hm,fun hn=> ?_,fun z hz=> ?_⟩
 ·have h0:0<len:=by
   rcases Nat.eq_zero_or_pos len with h0|h0
   ·subst h0;simp at hn
   ·exact h0
  obtain ⟨_,b,o,rfl,hb,_⟩:=hy 0 h0
  refine ⟨b,o,rfl,hb,fun i z hz=> ?_⟩
  have hil:i<len:=by
   have:=(List.getElem?_eq_some_iff.1 hz).1
   simpa using this
  obtain ⟨_,b',o',e,_,hat⟩:=hy i hil
  injection e with e
  injection e with e1 e2
  subst e1
  subst e2
  have:y i=z:=by simpa [hil] using hz
  subst this
  exact hat
 ·obtain ⟨i,hil,rfl⟩:=List.mem_map.1 hz
  exact (hy i (List.mem_range.1 hil)).1
def IsMFn(w:World)(cs:Array Value):Prop:=
 ∃(args regs slots:Int) (A:Option Addr) (bs:List MBlk) (c:Nat),cs= #[.int .i64 args,.int .i64 regs,.int .i64 slots,.slice A bs.length c]∧I64 args∧I64 regs∧I64 slots∧bs.length≤c∧c≤maxLen∧MBlksAt w w.heap.size A bs∧∀y∈bs,y.Wf
theorem IsMFn.of{H:Type}{enc:TypeId × Value→H}{w:World}{base:Nat}{spare:Nat→Bool}{held:Bool}{fuel:Nat}{cs:Array Value}{x:DataW H × List MemPlace}(h:DataW.trod enc Tryz.prog w base spare held fuel 28 cs.toList=some x):IsMFn w cs:=by
 obtain ⟨cs⟩:=cs
 obtain ⟨xs,n,_,_,hl,hxl,hf⟩:=DataW.trod_struct Tryz.underlying28 h
 have h5:cs.length=4:=hl.trans (by kernel_rfl)
 have hx5:xs.length=4:=hxl
 obtain ⟨v0,e0,w0⟩:=yB (k:=0) (cs:=cs) Tryz.underlying3 (by kernel_rfl) (hf 0 _ rfl) (by omega) (by rw [h5];decide)
 obtain ⟨v1,e1,w1⟩:=yB (k:=1) (cs:=cs) Tryz.underlying3 (by kernel_rfl) (hf 1 _ rfl) (by omega) (by rw [h5];decide)
 obtain ⟨v2,e2,w2⟩:=yB (k:=2) (cs:=cs) Tryz.underlying3 (by kernel_rfl) (hf 2 _ rfl) (by omega) (by rw [h5];decide)
 obtain ⟨v3,y3,e3,t3⟩:=ZF (k:=3) (cs:=cs) (by kernel_rfl) (hf 3 _ rfl) (by omega) (by rw [h5];decide)
 obtain ⟨a,b,c,d,rfl⟩:=len4 h5
 simp only [lk,lm,Option.some.injEq] at e0 e1 e2 e3
 subst e0
 subst e1
 subst e2
 subst e3
 rcases open_slice Tryz.underlying26 t3 with ⟨h0,_⟩|⟨ad,l,c,m,n',D,Pl,hcs,_⟩
 ·injection h0 with h0 _
  subst h0
  exact ⟨v0,v1,v2,none, [],0,rfl,w0,w1,w2,la _,lF _,MBlksAt.nil,fun y hy=>by simp at hy⟩
 ·injection hcs with h0 _
  subst h0
  obtain ⟨bs,rfl,hl1,hl2,hin,hw⟩:=MBlksAt.of t3
  exact ⟨v0,v1,v2,some ad,bs,c,rfl,w0,w1,w2,hl1,hl2,hin,hw⟩
def In.Wf(x:In):Prop:=I64 x.op∧I64 x.d∧I64 x.a∧I64 x.b∧I64 x.imm
def Blk.Wf(x:Blk):Prop:=(∀y∈x.code,y.Wf)∧x.term.Wf
section
variable {H : Type} {enc : TypeId × Value → H} {w : World} {base : Nat} {spare : Nat → Bool} {held : Bool} {fuel : Nat}
theorem In.of{cs:List Value}{x:DataW H × List MemPlace}(h:DataW.trod enc Tryz.prog w base spare held fuel 125 cs=some x):∃y:In,cs=y.cells∧y.Wf:=by
 obtain ⟨xs,n,_,_,hl,hxl,hf⟩:=DataW.trod_struct Tryz.underlying125 h
 have h5:cs.length=5:=hl.trans (by kernel_rfl)
 have hx5:xs.length=5:=hxl
 obtain ⟨v0,e0,w0⟩:=yB (k:=0) Tryz.underlying3 (by kernel_rfl) (hf 0 _ rfl) (by omega) (by rw [h5];decide)
 obtain ⟨v1,e1,w1⟩:=yB (k:=1) Tryz.underlying3 (by kernel_rfl) (hf 1 _ rfl) (by omega) (by rw [h5];decide)
 obtain ⟨v2,e2,w2⟩:=yB (k:=2) Tryz.underlying3 (by kernel_rfl) (hf 2 _ rfl) (by omega) (by rw [h5];decide)
 obtain ⟨v3,e3,w3⟩:=yB (k:=3) Tryz.underlying3 (by kernel_rfl) (hf 3 _ rfl) (by omega) (by rw [h5];decide)
 obtain ⟨v4,e4,w4⟩:=yB (k:=4) Tryz.underlying2 (by kernel_rfl) (hf 4 _ rfl) (by omega) (by rw [h5];decide)
 refine ⟨⟨v0,v1,v2,v3,v4⟩,?_,w0,w1,w2,w3,w4⟩
 obtain ⟨a,b,c,d,e,rfl⟩:=zfh h5
 simp only [lk,lm,Option.some.injEq] at e0 e1 e2 e3 e4
 rw [e0,e1,e2,e3,e4]
 rfl
theorem InsAt.of{a:Option Addr}{len cap:Nat}{x:DataW H × List MemPlace}(h:DataW.trod enc Tryz.prog w base spare held fuel 58 [.slice a len cap]=some x):
  ∃xs:List In,xs.length=len∧len≤cap∧cap≤maxLen∧InsAt w w.heap.size a xs∧∀y∈xs,y.Wf:=by
 obtain ⟨hl,hm,hi⟩:=Jd (s:=5) Tryz.underlying58 (by kernel_rfl) (by decide) h
 have each:∀i,i<len→∃y:In,y.Wf∧∃b o,a=some ⟨b,o,none⟩∧b<w.heap.size∧y.At w b (o+i*5):=fun i hil=>by
  obtain ⟨b,o,n,cs,z,rfl,hlt,hcl,hat,ht⟩:=hi i hil
  obtain ⟨y,rfl,hy⟩:=In.of ht
  have g:=fun j (hj:j<5)=>hat j hj
  have g0:=g 0 (by decide);have g1:=g 1 (by decide);have g2:=g 2 (by decide);have g3:=g 3 (by decide);have g4:=g 4 (by decide)
  refine ⟨y,hy,b,o,rfl,hlt,?_,?_,?_,?_,?_⟩
  ·exact g0
  ·rw [Nat.add_assoc];exact g1
  ·rw [Nat.add_assoc];exact g2
  ·rw [Nat.add_assoc];exact g3
  ·rw [Nat.add_assoc];exact g4
 haveI:Inhabited In:=⟨⟨0,0,0,0,0⟩⟩
 obtain ⟨y,hy⟩:=choose_lt each
 refine ⟨(List.range len).map y,by simp,hl,hm,fun hn=> ?_,fun z hz=> ?_⟩
 ·have h0:0<len:=by
   rcases Nat.eq_zero_or_pos len with h0|h0
   ·subst h0;simp at hn
   ·exact h0
  obtain ⟨_,b,o,rfl,hb,_⟩:=hy 0 h0
  refine ⟨b,o,rfl,hb,fun i z hz=> ?_⟩
  have hil:i<len:=by
   have:=(List.getElem?_eq_some_iff.1 hz).1
   simpa using this
  obtain ⟨_,b',o',e,_,hat⟩:=hy i hil
  injection e with e
  injection e with e1 e2
  subst e1
  subst e2
  have:y i=z:=by simpa [hil] using hz
  subst this
  exact hat
 ·obtain ⟨i,hil,rfl⟩:=List.mem_map.1 hz
  exact (hy i (List.mem_range.1 hil)).1
theorem Blk.of{cs:List Value}{x:DataW H × List MemPlace}(h:DataW.trod enc Tryz.prog w base spare held fuel 60 cs=some x):
  ∃(y:Blk) (A:Option Addr) (c:Nat),cs= [.slice A y.code.length c,.int .i64 y.term.kind,.int .i64 y.term.a,.int .i64 y.term.to,.int .i64 y.term.el]∧y.code.length≤c∧c≤maxLen∧InsAt w w.heap.size A y.code∧y.Wf:=by
 obtain ⟨xs,n,_,_,hl,hxl,hf⟩:=DataW.trod_struct Tryz.underlying60 h
 have h5:cs.length=5:=hl.trans (by kernel_rfl)
 have hx5:xs.length=2:=hxl
 obtain ⟨v0,y0,e0,t0⟩:=ZF (k:=0) (cs:=cs) (by kernel_rfl) (hf 0 _ rfl) (by omega) (by rw [h5];decide)
 have h1:=hf 1 _ rfl
 rw [List.getElem?_eq_getElem (by omega)] at h1
 obtain ⟨t,et,ht⟩:=Tm.of (cs:=(cs.drop 1).take (Tryz.prog.cellsOf 57)) h1
 rcases open_slice Tryz.underlying58 t0 with ⟨h0,_⟩|⟨ad,l,c,m,n',D,Pl,hcs,_⟩
 ·injection h0 with h0 _
  refine ⟨⟨[],t⟩,none,0,?_,la _,lF _,InsAt.nil,fun y hy=>by simp at hy,ht⟩
  obtain ⟨a,b,c,d,e,rfl⟩:=zfh h5
  simp only [lk,Option.some.injEq] at e0
  rw [show Tryz.prog.cellsOf 57=4 from by kernel_rfl] at et
  simp only [List.drop_succ_cons,List.drop_zero,ly,List.take_zero] at et
  rw [e0,h0,et]
  rfl
 ·injection hcs with h0 _
  subst h0
  obtain ⟨code,rfl,hl1,hl2,hin,hw⟩:=InsAt.of t0
  refine ⟨⟨code,t⟩,some ad,c,?_,hl1,hl2,hin,hw,ht⟩
  obtain ⟨a,b,c',d,e,rfl⟩:=zfh h5
  simp only [lk,Option.some.injEq] at e0
  rw [show Tryz.prog.cellsOf 57=4 from by kernel_rfl] at et
  simp only [List.drop_succ_cons,List.drop_zero,ly,List.take_zero] at et
  rw [e0,et]
theorem BlksAt.of{a:Option Addr}{len cap:Nat}{x:DataW H × List MemPlace}(h:DataW.trod enc Tryz.prog w base spare held fuel 23 [.slice a len cap]=some x):
  ∃xs:List Blk,xs.length=len∧len≤cap∧cap≤maxLen∧BlksAt w w.heap.size a xs∧∀y∈xs,y.Wf:=by
 obtain ⟨hl,hm,hi⟩:=Jd (s:=5) Tryz.underlying23 (by kernel_rfl) (by decide) h
 have each:∀i,i<len→∃y:Blk,y.Wf∧∃b o,a=some ⟨b,o,none⟩∧b<w.heap.size∧y.At w w.heap.size b (o+i*5):=fun i hil=>by
  obtain ⟨b,o,n,cs,z,rfl,hlt,hcl,hat,ht⟩:=hi i hil
  obtain ⟨y,A,c,rfl,hl1,hl2,hin,hy⟩:=Blk.of ht
  have g:=fun j (hj:j<5)=>hat j hj
  have g0:=g 0 (by decide);have g1:=g 1 (by decide);have g2:=g 2 (by decide);have g3:=g 3 (by decide);have g4:=g 4 (by decide)
  refine ⟨y,hy,b,o,rfl,hlt,⟨A,c,?_,hl1,hl2,hin⟩,?_,?_,?_,?_⟩
  ·exact g0
  ·rw [Nat.add_assoc];exact g1
  ·rw [Nat.add_assoc];exact g2
  ·rw [Nat.add_assoc];exact g3
  ·rw [Nat.add_assoc];exact g4
 haveI:Inhabited Blk:=⟨⟨[],⟨0,0,0,0⟩⟩⟩
 obtain ⟨y,hy⟩:=choose_lt each
 refine ⟨(List.range len).map y,by simp,hl,hm,fun hn=> ?_,fun z hz=> ?_⟩
 ·have h0:0<len:=by
   rcases Nat.eq_zero_or_pos len with h0|h0
   ·subst h0;simp at hn
   ·exact h0
  obtain ⟨_,b,o,rfl,hb,_⟩:=hy 0 h0
  refine ⟨b,o,rfl,hb,fun i z hz=> ?_⟩
  have hil:i<len:=by
   have:=(List.getElem?_eq_some_iff.1 hz).1
   simpa using this
  obtain ⟨_,b',o',e,_,hat⟩:=hy i hil
  injection e with e
  injection e with e1 e2
  subst e1
  subst e2
  have:y i=z:=by simpa [hil] using hz
  subst this
  exact hat
 ·obtain ⟨i,hil,rfl⟩:=List.mem_map.1 hz
  exact (hy i (List.mem_range.1 hil)).1
def IsFn(w:World)(cs:Array Value):Prop:=
 ∃(args regs:Int) (A:Option Addr) (bs:List Blk) (c:Nat),cs= #[.int .i64 args,.int .i64 regs,.slice A bs.length c]∧I64 args∧I64 regs∧bs.length≤c∧c≤maxLen∧BlksAt w w.heap.size A bs∧∀y∈bs,y.Wf
theorem IsFn.of{cs:Array Value}{x:DataW H × List MemPlace}(h:DataW.trod enc Tryz.prog w base spare held fuel 25 cs.toList=some x):IsFn w cs:=by
 obtain ⟨cs⟩:=cs
 obtain ⟨xs,n,_,_,hl,hxl,hf⟩:=DataW.trod_struct Tryz.underlying25 h
 have h5:cs.length=3:=hl.trans (by kernel_rfl)
 have hx5:xs.length=3:=hxl
 obtain ⟨v0,e0,w0⟩:=yB (k:=0) (cs:=cs) Tryz.underlying3 (by kernel_rfl) (hf 0 _ rfl) (by omega) (by rw [h5];decide)
 obtain ⟨v1,e1,w1⟩:=yB (k:=1) (cs:=cs) Tryz.underlying3 (by kernel_rfl) (hf 1 _ rfl) (by omega) (by rw [h5];decide)
 obtain ⟨v2,y2,e2,t2⟩:=ZF (k:=2) (cs:=cs) (by kernel_rfl) (hf 2 _ rfl) (by omega) (by rw [h5];decide)
 obtain ⟨a,b,c,rfl⟩:=len3 h5
 simp only [lk,lm,Option.some.injEq] at e0 e1 e2
 subst e0
 subst e1
 subst e2
 rcases open_slice Tryz.underlying23 t2 with ⟨h0,_⟩|⟨ad,l,c,m,n',D,Pl,hcs,_⟩
 ·injection h0 with h0 _
  subst h0
  exact ⟨v0,v1,none, [],0,rfl,w0,w1,la _,lF _,BlksAt.nil,fun y hy=>by simp at hy⟩
 ·injection hcs with h0 _
  subst h0
  obtain ⟨bs,rfl,hl1,hl2,hin,hw⟩:=BlksAt.of t2
  exact ⟨v0,v1,some ad,bs,c,rfl,w0,w1,hl1,hl2,hin,hw⟩
end
end Go.Proofs.YtnifhpbgmjcndaaGreat
