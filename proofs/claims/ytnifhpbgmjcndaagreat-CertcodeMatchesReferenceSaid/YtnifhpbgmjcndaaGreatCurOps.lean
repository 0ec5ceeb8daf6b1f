/- The cursor's methods that turn nothing but the cursor: Byte, Uint, Int, Count, Fail, End. -/
import Derived.Test.YtnifhpbgmjcndaaGreatPk1
set_option linter.unusedVariables false
set_option linter.unusedSimpArgs false
set_option linter.unusedSectionVars false
set_option maxRecDepth 100000
set_option maxHeartbeats 400000
namespace Go.Proofs.YtnifhpbgmjcndaaGreat
open Go.RowKit
section
variable {w : World} {lo p : Nat} {l : List Nat} {i : Nat} {er : Int} {A : Option Addr} {c : Nat}
theorem Cur.alloc(h:Cur w lo p l i er A c)(o:Obj):Cur (w.alloc o) lo p l i er A c:=h.mods (S:=No) ((Mods.refl _ _).alloc o) fun _ hk=>hk.elim
theorem Cur.rest(h:Cur w lo p l i er A c):Byt (l.drop i):=fun x hx=>h.byt x (List.mem_of_mem_drop hx)
theorem Cur.restmax(h:Cur w lo p l i er A c):(l.drop i).length≤maxLen:=by have:=h.max;rw [lr];omega
theorem Cur.restlen(h:Cur w lo p l i er A c):(l.drop i).length=l.length - i:=lr
end
theorem zgw(l:List Nat)(hb:Byt l):(jF l).1<256:=by
 cases l with
 |nil=>simp [jF]
 |cons x r=>exact hb x (by simp)
def Z5(w:World)(lo p:Nat)(l:List Nat)(i:Nat)(er:Int)(A:Option Addr)(c:Nat)(r:Nat × Nat × Nat)(w':World):Prop:=
 Mods (Is p) w w'∧Cur w' lo p l (yN i er r) (yQ er r) A c
theorem zbb{w:World}{lo p:Nat}{l:List Nat}{i:Nat}{er:Int}{A:Option Addr}{c:Nat}(h:Cur w lo p l i er A c):
  Calls Tryz.prog 64 #[.pointer (some ⟨p,0,none⟩)] w fun e w'=>e= .returned (.int .u8 (zT er (jF (l.drop i))))∧Z5 w lo p l i er A c (jF (l.drop i)) w':=by
 have hv:zT er (jF (l.drop i))<256:=by
  unfold zT
  split
  ·exact zgw _ h.rest
  ·omega
 have HC:=qH (Ze 118 #[] (fun _ _=>rfl) h (jF (l.drop i)) (zdC _)
  (fun A' c' n hs=>by rw [←h.restlen];exact Calls.quiet_of_same (zhs p A' (l.drop i) c' _ (hs.drewN n) h.rest h.restmax)))
 clear h
 unfold Z5
 generalize zT er (jF (l.drop i))=v at hv HC
 go_enter Tryz.func64,Tryz.ntmps64
 go_wp2_with fail
 refine HC.out.mono ?_
 rintro e W ⟨rfl,hm,hc⟩
 have Hm:=qH hm
 have Hc:=qH hc
 clear hm hc
 go_wp2
 go_ret
 exact ⟨rfl,Hm.out,Hc.out⟩
theorem YJ{w:World}{lo p:Nat}{l:List Nat}{i:Nat}{er:Int}{A:Option Addr}{c:Nat}(h:Cur w lo p l i er A c)(most:Int)(h0:0≤most):
  Calls Tryz.prog 116 #[.pointer (some ⟨p,0,none⟩),.int .u64 most] w fun e w'=>e= .returned (.int .u64 (zT er (zX most (l.drop i))))∧Z5 w lo p l i er A c (zX most (l.drop i)) w':=by
 have h1:=h.alloc (.cells #[.int .u64 most] 139)
 have HC:=qH (Ze 158 #[.pointer (some ⟨w.heap.size,0,none⟩)] (fun _ _=>rfl) h1 (zX most (l.drop i)) (ZO _ _)
  (fun A' c' n hs=>by
   have:=zht p A' (l.drop i) c' most w.heap.size ((w.alloc (.cells #[.int .u64 most] 139)).drewN n) (hs.drewN n) h.rest h.restmax h0 ((Row.new w 139 #[.int .u64 most]).cell 0)
   rw [h.restlen] at this
   exact Calls.quiet_of_same this))
 clear h1 h
 unfold Z5
 go_enter Tryz.func116,Tryz.ntmps116
 go_wp2_with fail
 refine HC.out.mono ?_
 rintro e W ⟨rfl,hm,hc⟩
 have Hm:=qH (((Mods.refl (Is p) w).alloc (.cells #[.int .u64 most] 139)).trans hm)
 have Hc:=qH hc
 clear hm hc
 go_wp2
 go_ret
 exact ⟨rfl,Hm.out,Hc.out⟩
theorem zgx{w:World}{lo p:Nat}{l:List Nat}{i:Nat}{er:Int}{A:Option Addr}{c:Nat}(h:Cur w lo p l i er A c)(hv:(zj (l.drop i)).1≤18446744073709551615):
  Calls Tryz.prog 165 #[.pointer (some ⟨p,0,none⟩)] w fun e w'=>e= .returned (.int .i64 (uz (zT er (zj (l.drop i)))))∧Z5 w lo p l i er A c (zj (l.drop i)) w':=by
 have hv2:InU ((zT er (zj (l.drop i)):Nat):Int):=by
  unfold zT InU
  split<;>omega
 have HC:=qH (Ze 192 #[] (fun _ _=>rfl) h (zj (l.drop i)) (zaq _)
  (fun A' c' n hs=>by
   have:=zcU p A' (l.drop i) c' (w.drewN n) (hs.drewN n) h.rest h.restmax
   rw [h.restlen] at this
   exact this.mono fun _ _ ⟨h1,h2⟩=>⟨h1,n,h2.symm⟩))
 clear h
 unfold Z5
 generalize zT er (zj (l.drop i))=v at hv2 HC
 go_enter Tryz.func165,Tryz.ntmps165
 go_wp2_with fail
 refine HC.out.mono ?_
 rintro e W ⟨rfl,hm,hc⟩
 have Hm:=qH hm
 have Hc:=qH hc
 clear hm hc
 go_wp2_with fail
 refine (zdy _ _ hv2).mono ?_
 rintro e W' ⟨rfl,rfl⟩
 go_wp2
 go_ret
 exact ⟨rfl,Hm.out,Hc.out⟩
theorem zfr(most size:Int)(l:List Nat)(hb:Byt l)(h0:most≤9223372036854775807):(ju most size l).2.2=0→(((ju most size l).1:Nat):Int)≤9223372036854775807:=by
 unfold ju
 split
 ·intro h;cases h
 ·split
  ·intro h;cases h
  ·intro h
   have:=zcW most l hb h
   omega
theorem zed{w:World}{lo p:Nat}{l:List Nat}{i:Nat}{er:Int}{A:Option Addr}{c:Nat}(h:Cur w lo p l i er A c)(most size:Int)(hm1:most≤9223372036854775807)(hs1:size≤9223372036854775807):
  Calls Tryz.prog 124 #[.pointer (some ⟨p,0,none⟩),.int .i64 most,.int .i64 size] w fun e w'=>e= .returned (.int .i64 (zT er (ju most size (l.drop i))))∧Z5 w lo p l i er A c (ju most size (l.drop i)) w':=by
 have hv:((zT er (ju most size (l.drop i)):Nat):Int)≤9223372036854775807:=by
  unfold zT
  split
  ·exact zfr most size _ h.rest hm1 (by omega)
  ·omega
 have h1:=(h.alloc (.cells #[.int .i64 most] 3)).alloc (.cells #[.int .i64 size] 3)
 have HC:=qH (Ze 166 #[.pointer (some ⟨w.heap.size,0,none⟩),.pointer (some ⟨w.heap.size+1,0,none⟩)] (fun _ _=>rfl) h1 (ju most size (l.drop i)) (zbK _ _ _)
  (fun A' c' n hs=>by
   have:=zg2 p A' (l.drop i) c' most size w.heap.size (w.heap.size+1) (((w.alloc (.cells #[.int .i64 most] 3)).alloc (.cells #[.int .i64 size] 3)).drewN n) (hs.drewN n) h.rest h.restmax hm1 hs1
    (((Row.new w 3 #[.int .i64 most]).alloc _).cell 0) (by simp)
   rw [h.restlen] at this
   exact Calls.quiet_of_same this))
 clear h1 h
 unfold Z5
 generalize zT er (ju most size (l.drop i))=v at hv HC
 go_enter Tryz.func124,Tryz.ntmps124
 go_wp2_with fail
 refine HC.out.mono ?_
 rintro e W ⟨rfl,hm,hc⟩
 have Hm:=qH ((((Mods.refl (Is p) w).alloc (.cells #[.int .i64 most] 3)).alloc (.cells #[.int .i64 size] 3)).trans hm)
 have Hc:=qH hc
 clear hm hc
 go_wp2
 go_ret
 exact ⟨rfl,Hm.out,Hc.out⟩
def Z6(er e:Int):Int:=if er=0 then e else er
theorem ZG{w:World}{lo p:Nat}{l:List Nat}{i:Nat}{er:Int}{A:Option Addr}{c:Nat}(h:Cur w lo p l i er A c)(x:Int):
  Calls Tryz.prog 65 #[.pointer (some ⟨p,0,none⟩),.int .i64 x] w fun e w'=>e= .returned (.tuple #[])∧Mods (Is p) w w'∧Cur w' lo p l i (Z6 er x) A c:=by
 have h2:w.cell? ⟨p,2,none⟩=some (.int .i64 er):=h.row.cell 2
 have f2:=h.row.frozen 2
 by_cases he:er=0
 ·subst he
  go_enter Tryz.func65,Tryz.ntmps65
  go_wp2_with fail
  refine (je h).mono ?_
  rintro e W ⟨rfl,rfl⟩
  go_wp2
  go_end0
  exact ⟨rfl,(Mods.refl _ _).put 2 _,h.err x⟩
 ·have e0:(er==0)=false:=by simp [he]
  have HE:=qH (show Z6 er x=er from if_neg he)
  clear he
  go_enter Tryz.func65,Tryz.ntmps65
  go_wp2_with fail
  refine (je h).mono ?_
  rintro e W ⟨rfl,rfl⟩
  go_wp2
  go_end0
  exact ⟨rfl,Mods.refl _ _,by rw [HE.out];exact h⟩
def zcl(n i:Nat)(er:Int):Int:=if er=0∧i<n then 2 else er
theorem zdh{w:World}{lo p:Nat}{l:List Nat}{i:Nat}{er:Int}{A:Option Addr}{c:Nat}(h:Cur w lo p l i er A c):
  Calls Tryz.prog 62 #[.pointer (some ⟨p,0,none⟩)] w fun e w'=>e= .returned (.tuple #[])∧Mods (Is p) w w'∧Cur w' lo p l i (zcl l.length i er) A c:=by
 have hle:=h.le
 by_cases he:er=0∧i<l.length
 ·obtain ⟨rfl,hi⟩:=he
  have hp:(0:Int)<jK l.length i 0:=by rw [zao];omega
  have HE:=qH (show zcl l.length i 0=2 from if_pos ⟨rfl,hi⟩)
  have HL:=qH (J0 h)
  generalize jK l.length i 0=z at hp HL
  go_enter Tryz.func62,Tryz.ntmps62
  go_wp2_with fail
  refine HL.out.mono ?_
  rintro e W ⟨rfl,n,rfl⟩
  go_wp2_with fail
  refine (ZG (h.drewN n) 2).mono ?_
  rintro e W ⟨rfl,hm,hc⟩
  go_wp2
  go_end0
  exact ⟨rfl,hm.unN,by rw [HE.out];exact hc⟩
 ·have hp:jK l.length i er≤0:=by
   unfold jK
   split
   ·omega
   ·omega
  have HE:=qH (show zcl l.length i er=er from if_neg he)
  have HL:=qH (J0 h)
  clear he
  generalize jK l.length i er=z at hp HL
  go_enter Tryz.func62,Tryz.ntmps62
  go_wp2_with fail
  refine HL.out.mono ?_
  rintro e W ⟨rfl,n,rfl⟩
  go_wp2
  go_end0
  exact ⟨rfl,(Mods.refl _ _).drewN n,by rw [HE.out];exact h.drewN n⟩
end Go.Proofs.YtnifhpbgmjcndaaGreat
