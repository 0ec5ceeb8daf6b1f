import Derived.Test.YtnifhpbgmjcndaaGreatPk9
import Derived.Test.YtnifhpbgmjcndaaGreatPk7
import Derived.Test.YtnifhpbgmjcndaaGreatMacCopy
set_option linter.unusedVariables false
set_option linter.unusedSimpArgs false
set_option maxRecDepth 100000
set_option maxHeartbeats 4000000
namespace Go.Proofs.YtnifhpbgmjcndaaGreat
open Go.RowKit
theorem zcw{r n:Int}{s:Ip}:(zt r n s).1.Ok:=by
 have h0:Mi0.Ok:=by unfold Mi.Ok Yr;decide
 rw [zbk]
 by_cases h18:(zm 18 2 8 s).1=18
 ·rw [h18,zbj rfl rfl]
  dsimp only
  split
  ·exact h0
  ·have h1:=J7 (r:=r) (n:=n) (s:=(zm 18 2 8 s).2)
   have h2:=J7 (r:=r) (n:=n) (s:=(jS r n (zm 18 2 8 s).2).2)
   unfold Mi.Ok Yr
   dsimp only
   omega
 ·rw [U5 h18]
  dsimp only
  split
  ·exact h0
  ·unfold Mi.Ok Yr
   dsimp only
   omega
theorem zbo(xs:List Mi):decide (64≤yy xs)=(decide (64≤xs.length) && decide (mvs (xs.drop (xs.length - 64))=64)):=by
 rw [Bool.eq_iff_iff]
 simp only [decide_eq_true_eq,Bool.and_eq_true]
 rw [Qf xs 64]
 constructor
 ·rintro ⟨h1,h2⟩
  refine ⟨h1,?_⟩
  have h3:=(Uo (xs.drop (xs.length - 64))).2 h2
  rw [h3,lr]
  omega
 ·rintro ⟨h1,h2⟩
  refine ⟨h1,(Uo (xs.drop (xs.length - 64))).1 ?_⟩
  rw [h2,lr]
  omega
theorem MisAt.cutP{w:World}{B:Nat}{A:Option Addr}{xs:List Mi}{k c:Nat}(h:MisAt w B A xs)(hc:xs.length≤c):MisAt w B (if c=k then A else A.map fun x=>x.add (k*7)) (xs.drop k):=fun hn=>by
 have hl:k<xs.length:=by
  rcases Nat.lt_or_ge k xs.length with h1|h1
  ·exact h1
  ·exact absurd (List.drop_eq_nil_of_le h1) hn
 obtain ⟨b,o,rfl,_,_⟩:=h (by intro e;subst e;simp at hl)
 rw [if_neg (by omega)]
 have:=h.drop k hn
 simpa [Addr.add_lit] using this
theorem Q9(B:Nat)(A:Option Addr)(xs:List Mi)(n c:Nat)(w:World)(hs:MisAt w B A xs)(hB:B≤w.heap.size)(hm:xs.length≤1048576)(hn:xs.length=n)(hc:n≤c)(hcm:c≤maxLen):
  Calls Tryz.prog 128 #[.slice A n c] w fun e w'=>e= .returned (.bool (decide (64≤yy xs)))∧Below w.heap.size w w':=by
 have HN:=qH hn
 rw [hn] at hm
 unfold maxLen at hcm
 by_cases h64:64≤n
 ·obtain ⟨k,rfl⟩:∃k,n=k+64:=⟨n - 64,by omega⟩
  obtain ⟨A2,hite⟩:∃z,(if c=k then A else A.map fun x=>x.add (k*7))=z:=⟨_,rfl⟩
  have hcut:=hs.cutP (k:=k) (c:=c) (by omega)
  rw [hite] at hcut
  have hlen:(xs.drop k).length=64:=by rw [lr];omega
  have C:=qH (zd5 B A2 (xs.drop k) (c - k) w hcut hB (by omega))
  rw [hlen] at C
  have HT:Hid (decide (64≤yy xs)=decide (mvs (xs.drop k)=64)):=by
   show _=_
   rw [zbo,HN.out,show k+64 - 64=k by omega,show decide (64≤k+64)=true by simp,Bool.true_and]
  rw [HT.out]
  clear hs hcut hlen hn HT
  generalize mvs (xs.drop k)=q at*
  have HQ:Hid (((q:Int)==64)=decide (q=64)):=by show _=_;rw [Bool.eq_iff_iff];simp;omega
  go_enter Tryz.func128,Tryz.ntmps128
  go_wp2_with fail
  refine C.out.mono ?_
  rintro e W1 ⟨rfl,hb⟩
  have HB:=qH hb
  clear hb C
  go_wp2
  go_ret
  exact ⟨by rw [HQ.out];rfl,HB.out⟩
 ·have HT:Hid (decide (64≤yy xs)=false):=by
   show _=_
   rw [zbo,HN.out,show decide (64≤n)=false by simp;omega,Bool.false_and]
  rw [HT.out]
  clear hs hn HT
  go_enter Tryz.func128,Tryz.ntmps128
  go_wp2
  go_ret
  exact ⟨rfl,ld _ _⟩
theorem zfE(k:Nat)(x:Mi)(t:Ip):mvE k x t=if ((x.op==18) && decide (64≤k))=true then zA 15 t else t:=by
 unfold mvE ext Mi.mv
 cases hx:(x.op==18)
 ·simp
 ·rw [if_pos rfl,Bool.true_and]
  by_cases h:64≤k
  ·rw [if_pos (by omega),if_pos (by simp [h])]
  ·rw [if_neg (by omega),if_neg (by simp [h])]
theorem zcx{w:World}{lo p base:Nat}{l:List Nat}{A Av:Option Addr}{c m cv:Nat}{s:Ip}(h:CE lo p l A c s w){xs:List Mi}(ho:w.ownsRow base 131 7 (.slice Av m cv) m (Jh xs))(hb:p<base)(hok:∀x∈xs,x.Ok)(hl:xs.length=m)(hm:m≤1048576){r n:Int}(hr:0≤r∧r≤1048576)(hn:0≤n∧n≤1048576){x:Mi}{t:Ip}(hx:zt r n s=(x,t)):
  Calls Tryz.prog 75 #[.pointer (some ⟨p,0,none⟩),.int .i64 r,.int .i64 n,.slice Av m cv] w fun e w'=>e= .returned (.agg #[.int .i64 x.op,.int .i64 x.d,.int .i64 x.a,.int .i64 x.b,.int .i64 x.imm,.int .i64 x.dst,.int .i64 x.src])∧Mods (Is p) w w'∧CE lo p l A c (mvE (yy xs) x t) w':=by
 have HG0:Hid (GZ w lo p l A c s 131 #[.int .i64 0,.int .i64 0,.int .i64 0,.int .i64 0,.int .i64 0,.int .i64 0,.int .i64 0] w.heap.size (w.alloc (.cells #[.int .i64 0,.int .i64 0,.int .i64 0,.int .i64 0,.int .i64 0,.int .i64 0,.int .i64 0] 131))):=GZ.new h _ _
 have HO0:=qH (((Mods.refl No w).alloc (.cells #[.int .i64 0,.int .i64 0,.int .i64 0,.int .i64 0,.int .i64 0,.int .i64 0,.int .i64 0] 131)).ownS ho fun _ _ hk=>hk.elim)
 have HLE:Hid (m≤cv∧cv≤maxLen):=by
  obtain ⟨A',c',e,h1,h2⟩:=zh ho
  injection e with _ _ e3
  subst e3
  exact ⟨h1,h2⟩
 have HB:=qH hb
 have HOK:=qH hok
 have HL:=qH hl
 have C1:=qH (zgC HG0.out.ce r n ⟨hr.1,by omega⟩ ⟨hn.1,by omega⟩ hx)
 have HF:=qH (zfE (yy xs) x t)
 rw [HF.out]
 obtain ⟨bt,hbt⟩:∃y,((x.op==18) && decide (64≤yy xs))=y:=⟨_,rfl⟩
 rw [hbt]
 obtain ⟨tt,htt⟩:∃y,(if bt=true then zA 15 t else t)=y:=⟨_,rfl⟩
 rw [htt]
 have HTT:=qH htt
 have HBT:=qH hbt
 clear htt
 clear h ho hb hok hl hr hn hx HF hbt
 go_enter Tryz.func75,Tryz.ntmps75
 go_upto_region 1 with fail
 generalize (w.alloc (.cells #[.int .i64 0,.int .i64 0,.int .i64 0,.int .i64 0,.int .i64 0,.int .i64 0,.int .i64 0] 131))=W0 at*
 generalize w.heap.size=z at*
 go_wp2_with fail
 refine C1.out.mono ?_
 rintro e W1 ⟨rfl,hm1,hc⟩
 have HG1:=qH (HG0.out.next hm1 hc)
 have HPW:Hid (p<W1.heap.size):=HG1.out.ce.lt
 have HO1:=qH (hm1.ownS HO0.out fun k hk e=>by have:=zW HO0.out k hk;have:=HB.out;unfold Is at e;omega)
 clear hm1 hc HG0 HO0 C1
 go_upto_region 2 with fail
 have HY:=qH (Row.new W1 131 #[.int .i64 x.op,.int .i64 x.d,.int .i64 x.a,.int .i64 x.b,.int .i64 x.imm,.int .i64 x.dst,.int .i64 x.src])
 have HG:=qH (HG1.out.below ((ld W1.heap.size W1).alloc (la _) (.cells #[.int .i64 x.op,.int .i64 x.d,.int .i64 x.a,.int .i64 x.b,.int .i64 x.imm,.int .i64 x.dst,.int .i64 x.src] 131)))
 have HO:=qH (((Mods.refl No W1).alloc (.cells #[.int .i64 x.op,.int .i64 x.d,.int .i64 x.a,.int .i64 x.b,.int .i64 x.imm,.int .i64 x.dst,.int .i64 x.src] 131)).ownS HO1.out fun _ _ hk=>hk.elim)
 clear HG1 HO1
 generalize (W1.alloc (.cells #[.int .i64 x.op,.int .i64 x.d,.int .i64 x.a,.int .i64 x.b,.int .i64 x.imm,.int .i64 x.dst,.int .i64 x.src] 131))=W2 at*
 have HYP:Hid (W1.heap.size≠p):=by show _≠_;have:=HG.out.pw;have:=HPW.out;omega
 generalize W1.heap.size=y at*
 have y0:=HY.out.k0;have y1:=HY.out.k1;have y2:=HY.out.k2;have y3:=HY.out.k3;have y4:=HY.out.k4;have y5:=HY.out.k5;have y6:=HY.out.k6
 by_cases h18:x.op=18
 ·have d18:(x.op==18)=true:=by simp [h18]
  have C2:=qH (Q9 W2.heap.size Av xs m cv W2 (by have:=HO.out;rw [←HL.out] at this;exact MisAt.of_own this HOK.out) (la _) (by rw [HL.out];exact hm) HL.out HLE.out.1 HLE.out.2)
  have hbt:decide (64≤yy xs)=bt:=by have:=HBT.out;rw [d18,Bool.true_and] at this;exact this
  rw [hbt] at C2
  clear h18 hbt
  go_wp2_with fail
  refine C2.out.mono ?_
  rintro e W3 ⟨rfl,hb⟩
  have HG3:=qH (HG.out.below hb)
  have HY3:=qH (HY.out.below hb HY.out.lt)
  clear hb C2 HG HY y0 y1 y2 y3 y4 y5 y6 HO
  have C3:=qH (JD HG3.out.ce bt 15 (by decide))
  rw [HTT.out] at C3
  have HG:=HG3
  have HY:=HY3
  clear HG3 HY3
  have y0:=HY.out.k0;have y1:=HY.out.k1;have y2:=HY.out.k2;have y3:=HY.out.k3;have y4:=HY.out.k4;have y5:=HY.out.k5;have y6:=HY.out.k6
  go_wp2_with fail
  refine C3.out.mono ?_
  rintro e W4 ⟨rfl,hm1,hc⟩
  have HG5:=qH (HG.out.next hm1 hc)
  have HY5:=qH (HY.out.mods hm1 fun e=>HYP.out e)
  clear hm1 hc HG HY C3 y0 y1 y2 y3 y4 y5 y6
  have HG:=HG5
  have HY:=HY5
  clear HG5 HY5
  have y0:=HY.out.k0;have y1:=HY.out.k1;have y2:=HY.out.k2;have y3:=HY.out.k3;have y4:=HY.out.k4;have y5:=HY.out.k5;have y6:=HY.out.k6
  have z0:=HG.out.z_.k0;have z1:=HG.out.z_.k1;have z2:=HG.out.z_.k2;have z3:=HG.out.z_.k3;have z4:=HG.out.z_.k4;have z5:=HG.out.z_.k5;have z6:=HG.out.z_.k6
  have zf0:=HG.out.z_.frozen 0;have zf1:=HG.out.z_.frozen 1;have zf2:=HG.out.z_.frozen 2;have zf3:=HG.out.z_.frozen 3;have zf4:=HG.out.z_.frozen 4;have zf5:=HG.out.z_.frozen 5;have zf6:=HG.out.z_.frozen 6
  go_wp2
  (try simp only [Exit.inBlock,Exit.then])
  refine bodyPost_ret (v:= .agg #[.int .i64 x.op,.int .i64 x.d,.int .i64 x.a,.int .i64 x.b,.int .i64 x.imm,.int .i64 x.dst,.int .i64 x.src]) ?_ rfl ⟨rfl,HG.out.fin (Jc W4 z (.int .i64 x.op) (.int .i64 x.d) (.int .i64 x.a) (.int .i64 x.b) (.int .i64 x.imm) (.int .i64 x.dst) (.int .i64 x.src))⟩
  exact results_cell_row rfl _ _ z 131 #[.int .i64 x.op,.int .i64 x.d,.int .i64 x.a,.int .i64 x.b,.int .i64 x.imm,.int .i64 x.dst,.int .i64 x.src] (0,0) _ rfl (HG.out.z_.put7i _ _ _ _ _ _ _) Tryz.underlying131 rfl (by kernel_rfl)
 ·have d18:(x.op==18)=false:=by simp [h18]
  have hbt:bt=false:=by have:=HBT.out;rw [d18,Bool.false_and] at this;exact this.symm
  subst hbt
  have C3:=qH (JD HG.out.ce false 15 (by decide))
  rw [HTT.out] at C3
  clear h18
  go_wp2_with fail
  refine C3.out.mono ?_
  rintro e W4 ⟨rfl,hm1,hc⟩
  have HG5:=qH (HG.out.next hm1 hc)
  have HY5:=qH (HY.out.mods hm1 fun e=>HYP.out e)
  clear hm1 hc HG HY C3 y0 y1 y2 y3 y4 y5 y6 HO
  have HG:=HG5
  have HY:=HY5
  clear HG5 HY5
  have y0:=HY.out.k0;have y1:=HY.out.k1;have y2:=HY.out.k2;have y3:=HY.out.k3;have y4:=HY.out.k4;have y5:=HY.out.k5;have y6:=HY.out.k6
  have z0:=HG.out.z_.k0;have z1:=HG.out.z_.k1;have z2:=HG.out.z_.k2;have z3:=HG.out.z_.k3;have z4:=HG.out.z_.k4;have z5:=HG.out.z_.k5;have z6:=HG.out.z_.k6
  have zf0:=HG.out.z_.frozen 0;have zf1:=HG.out.z_.frozen 1;have zf2:=HG.out.z_.frozen 2;have zf3:=HG.out.z_.frozen 3;have zf4:=HG.out.z_.frozen 4;have zf5:=HG.out.z_.frozen 5;have zf6:=HG.out.z_.frozen 6
  go_wp2
  (try simp only [Exit.inBlock,Exit.then])
  refine bodyPost_ret (v:= .agg #[.int .i64 x.op,.int .i64 x.d,.int .i64 x.a,.int .i64 x.b,.int .i64 x.imm,.int .i64 x.dst,.int .i64 x.src]) ?_ rfl ⟨rfl,HG.out.fin (Jc W4 z (.int .i64 x.op) (.int .i64 x.d) (.int .i64 x.a) (.int .i64 x.b) (.int .i64 x.imm) (.int .i64 x.dst) (.int .i64 x.src))⟩
  exact results_cell_row rfl _ _ z 131 #[.int .i64 x.op,.int .i64 x.d,.int .i64 x.a,.int .i64 x.b,.int .i64 x.imm,.int .i64 x.dst,.int .i64 x.src] (0,0) _ rfl (HG.out.z_.put7i _ _ _ _ _ _ _) Tryz.underlying131 rfl (by kernel_rfl)
theorem zgF(n:Nat)(hn:n≤1048576):∃Z:Array Value,Z.size=n*7∧∀w,(Instr.makeSlice 61 (.int .i64 0) (.int .i64 (n:Int))).run Tryz.prog w= .ok (.slice (some ⟨w.heap.size,0,none⟩) 0 n) (w.alloc (.cells Z 131)):=by
 obtain ⟨i,hi,hz,hs,hb⟩:=info_parts zb7
 refine ⟨madeCells (Value.agg #[.int .i64 0,.int .i64 0,.int .i64 0,.int .i64 0,.int .i64 0,.int .i64 0,.int .i64 0]).cells (n*i.size),?_,fun w=> ?_⟩
 ·rw [size_madeCells,hs]
 ·have:=run_make (P:=Tryz.prog) w _ _ i _ Tryz.underlying61 hi hz .i64 .i64 0 n (by decide) (by omega) (by rw [hb];omega) (by omega)
  simpa using this
theorem zgG(x:Mi):∀u∈x.cells,u.oneCell'=true:=by
 intro u hu
 simp only [Mi.cells,List.mem_cons,List.not_mem_nil,or_false] at hu
 rcases hu with rfl|rfl|rfl|rfl|rfl|rfl|rfl<;>rfl
theorem zfF{w:World}{lo p base:Nat}{l:List Nat}{A Av:Option Addr}{c q cv:Nat}{s:Ip}(h:CE lo p l A c s w){xs:List Mi}(ho:w.ownsRow base 131 7 (.slice Av q cv) q (Jh xs))(hb:p<base)(hok:∀x∈xs,x.Ok)(hl:xs.length=q)(hq:q≤1048576){x1 x2 x3:Nat}{r n:Int}(h1:Row w x1 82 #[.pointer (some ⟨p,0,none⟩)])(h2:Row w x2 3 #[.int .i64 r])(h3:Row w x3 3 #[.int .i64 n])(hr:0≤r∧r≤1048576)(hn:0≤n∧n≤1048576){m:Mi}{t:Ip}(hm:zt r n s=(m,t)):
  Calls Tryz.prog 74 #[.slice Av q cv,.pointer (some ⟨x1,0,none⟩),.pointer (some ⟨x2,0,none⟩),.pointer (some ⟨x3,0,none⟩)] w fun e w'=>e= .returned (.agg #[.int .i64 m.op,.int .i64 m.d,.int .i64 m.a,.int .i64 m.b,.int .i64 m.imm,.int .i64 m.dst,.int .i64 m.src])∧Mods (Is p) w w'∧CE lo p l A c (mvE (yy xs) m t) w':=by
 have HG:Hid (GZ w lo p l A c s 131 #[.int .i64 0,.int .i64 0,.int .i64 0,.int .i64 0,.int .i64 0,.int .i64 0,.int .i64 0] w.heap.size (w.alloc (.cells #[.int .i64 0,.int .i64 0,.int .i64 0,.int .i64 0,.int .i64 0,.int .i64 0,.int .i64 0] 131))):=GZ.new h _ _
 have C1:=qH (zcx HG.out.ce (((Mods.refl No w).alloc (.cells #[.int .i64 0,.int .i64 0,.int .i64 0,.int .i64 0,.int .i64 0,.int .i64 0,.int .i64 0] 131)).ownS ho fun _ _ hk=>hk.elim) hb hok hl hq hr hn hm)
 have g1:=(h1.alloc (.cells #[.int .i64 0,.int .i64 0,.int .i64 0,.int .i64 0,.int .i64 0,.int .i64 0,.int .i64 0] 131)).k0
 have g2:=(h2.alloc (.cells #[.int .i64 0,.int .i64 0,.int .i64 0,.int .i64 0,.int .i64 0,.int .i64 0,.int .i64 0] 131)).k0
 have g3:=(h3.alloc (.cells #[.int .i64 0,.int .i64 0,.int .i64 0,.int .i64 0,.int .i64 0,.int .i64 0,.int .i64 0] 131)).k0
 generalize mvE (yy xs) m t=tt at*
 clear h h1 h2 h3 hr hn hm ho hb hok hl hq
 go_enter Tryz.func74,Tryz.ntmps74
 go_upto_region 1 with fail
 generalize (w.alloc (.cells #[.int .i64 0,.int .i64 0,.int .i64 0,.int .i64 0,.int .i64 0,.int .i64 0,.int .i64 0] 131))=W0 at*
 generalize w.heap.size=z at*
 go_wp2_with fail
 refine C1.out.mono ?_
 rintro e W1 ⟨rfl,hm,hc⟩
 have HG3:=qH (HG.out.next hm hc)
 clear hm hc HG C1 g1 g2 g3
 have z0:=HG3.out.z_.k0;have z1:=HG3.out.z_.k1;have z2:=HG3.out.z_.k2;have z3:=HG3.out.z_.k3;have z4:=HG3.out.z_.k4;have z5:=HG3.out.z_.k5;have z6:=HG3.out.z_.k6
 have zf0:=HG3.out.z_.frozen 0;have zf1:=HG3.out.z_.frozen 1;have zf2:=HG3.out.z_.frozen 2;have zf3:=HG3.out.z_.frozen 3;have zf4:=HG3.out.z_.frozen 4;have zf5:=HG3.out.z_.frozen 5;have zf6:=HG3.out.z_.frozen 6
 go_wp2
 (try simp only [Exit.inBlock,Exit.then])
 refine bodyPost_ret (v:= .agg #[.int .i64 m.op,.int .i64 m.d,.int .i64 m.a,.int .i64 m.b,.int .i64 m.imm,.int .i64 m.dst,.int .i64 m.src]) ?_ rfl ⟨rfl,HG3.out.fin (Jc W1 z (.int .i64 m.op) (.int .i64 m.d) (.int .i64 m.a) (.int .i64 m.b) (.int .i64 m.imm) (.int .i64 m.dst) (.int .i64 m.src))⟩
 exact results_cell_row rfl _ _ z 131 #[.int .i64 m.op,.int .i64 m.d,.int .i64 m.a,.int .i64 m.b,.int .i64 m.imm,.int .i64 m.dst,.int .i64 m.src] (0,0) _ rfl (HG3.out.z_.put7i _ _ _ _ _ _ _) Tryz.underlying131 rfl (by kernel_rfl)
theorem zbp{w:World}{lo p:Nat}{l:List Nat}{A:Option Addr}{c:Nat}{s:Ip}(h:CE lo p l A c s w){x1 x2 x3:Nat}{r sl tot:Int}(h1:Row w x1 82 #[.pointer (some ⟨p,0,none⟩)])(h2:Row w x2 3 #[.int .i64 r])(h3:Row w x3 3 #[.int .i64 sl])(hr:0≤r∧r≤1048576)(hsl:0≤sl∧sl≤1048576)(hn1:x1≠p)(hn2:x2≠p)(hn3:x3≠p)(ht:0≤tot∧tot≤1048576):
  Calls Tryz.prog 129 #[.pointer (some ⟨p,0,none⟩),.int .i64 (1048576 - tot),.func (.func 74) #[] #[.pointer (some ⟨x1,0,none⟩),.pointer (some ⟨x2,0,none⟩),.pointer (some ⟨x3,0,none⟩)]] w
   (zgT lo p l A c 131 7 (ym r sl tot s).1.length (Jh (ym r sl tot s).1) (ym r sl tot s).2 w):=by
 obtain ⟨i0,hi0,hz0,hz1,hz2⟩:=info_parts zb7
 obtain ⟨⟨n,sn⟩,hN⟩:∃y,yu 2 s=y:=⟨_,rfl⟩
 have rn:0≤n∧n≤1048576:=by have:=jm (k:=2) (s:=s);rw [hN] at this;exact this
 have C1:=qH (ZH h 2 (by decide) (by decide))
 rw [hN] at C1
 have HK:Hid (zN tot s=if 1048576<tot+n then (0,zA 6 sn) else (n,sn)):=by show _=_;unfold zN;rw [hN]
 have H1:=qH h1
 have H2:=qH h2
 have H3:=qH h3
 have HR:=qH hr
 have HSL:=qH hsl
 have HP:=qH h.lt
 have HN1:=qH hn1
 have HN2:=qH hn2
 have HN3:=qH hn3
 obtain ⟨FB,hFB⟩:∃y,ym r sl tot s=y:=⟨_,rfl⟩
 rw [hFB]
 have HF:=qH hFB
 clear h h1 h2 h3 hr hsl hn1 hn2 hn3 hN hFB
 obtain ⟨k,rfl⟩:∃k:Nat,n=(k:Int):=⟨n.toNat,by omega⟩
 obtain ⟨Z,hZ,hmk⟩:=zgF k (by omega)
 go_enter Tryz.func129,Tryz.ntmps129
 go_wp2_with fail
 refine C1.out.mono ?_
 rintro e W1 ⟨rfl,hm,hc⟩
 have HM1:=qH hm
 have HC1:=qH hc
 clear hm hc C1
 by_cases hroom:1048576 - tot<(k:Int)
 ·have C2:=qH (Jr HC1.out 6 (by decide))
  have HE:Hid (FB=([],zA 6 sn)):=by show _=_;rw [←HF.out];unfold ym;rw [HK.out,if_pos (by omega)];rfl
  go_wp2_with fail
  refine C2.out.mono ?_
  rintro e W2 ⟨rfl,hm,hc⟩
  have HM2:=qH (HM1.out.trans hm)
  have HC2:=qH hc
  clear hm hc C2
  go_wp2
  go_ret
  exact ⟨_,rfl,by rw [HE.out];exact ⟨HM2.out,HC2.out,⟨by simp [Jh],.inl ⟨rfl,rfl⟩⟩,HP.out⟩⟩
 ·have HE:Hid (FB=miE r sl k 0 sn):=by show _=_;rw [←HF.out];unfold ym;rw [HK.out,if_neg (by omega)];rfl
  have HL:Hid (CL w lo p l A c sn 131 7 (.slice (some ⟨W1.heap.size,0,none⟩) 0 k) 0 [] (W1.alloc (.cells Z 131))):=by
   have hx:=CL.new HC1.out 131 7 k Z hZ (by unfold maxLen;omega)
   exact ⟨HM1.out.trans hx.md,hx.ce,jo hx.own HM1.out.size,HP.out⟩
  clear HF HK HM1 HC1 hZ
  go_wp2
  generalize (W1.alloc (.cells Z 131))=W2 at*
  generalize W1.heap.size=b1 at*
  go_loopg [8] k (fun g v8 wr=>∃(m:Nat) (t:Ip) (xs:List Mi),m+g=k∧Hid (xs.length=m)∧Hid (∀x∈xs,x.Ok)∧Hid (FB=(xs++(miE r sl g (yy xs) t).1,(miE r sl g (yy xs) t).2))∧Hid (CL w lo p l A c t 131 7 v8 m (Jh xs) wr))
  case atStart=>exact ⟨0,sn, [],by omega,rfl,(fun x hx=>by cases hx),HE.out,HL.out⟩
  case round=>
   clear HE HL
   obtain ⟨m,t,xs,hmk,hxl,HOK,HE,HL⟩:=hrel
   obtain ⟨Av,cv,rfl,_,_⟩:=zh HL.out.own
   cases gk with
   |zero=>
    have hlt:¬(m:Int)<(k:Int):=by omega
    have HEE:Hid (FB=(xs,t)):=by show _=_;rw [HE.out];show (xs++ [],t)=_;rw [lA]
    go_wp2
    go_ret
    exact ⟨_,rfl,by rw [HEE.out,hxl.out];exact HL.out⟩
   |succ g=>
    have hlt:(m:Int)<(k:Int):=by omega
    have C1:=qH (Js HL.out.ce)
    by_cases he:t.err=0
    ·have d0:(t.err==0)=true:=by simp [he]
     obtain ⟨⟨x,t2⟩,hx⟩:∃y,zt r sl t=y:=⟨_,rfl⟩
     have HE2:Hid (FB=((xs++ [x])++(miE r sl g (yy (xs++ [x])) (mvE (yy xs) x t2)).1,(miE r sl g (yy (xs++ [x])) (mvE (yy xs) x t2)).2)):=by
      show _=_
      rw [HE.out,show miE r sl (g+1) (yy xs) t=((zt r sl t).1::(miE r sl g (ext (yy xs) (zt r sl t).1) (mvE (yy xs) (zt r sl t).1 (zt r sl t).2)).1,(miE r sl g (ext (yy xs) (zt r sl t).1) (mvE (yy xs) (zt r sl t).1 (zt r sl t).2)).2) from if_neg fun hh=>hh he,hx,Ya]
      simp
     have C2:=qH (zfF HL.out.ce HL.out.own HP.out HOK.out hxl.out (by omega) (HL.out.row H1.out HN1.out) (HL.out.row H2.out HN2.out) (HL.out.row H3.out HN3.out) HR.out HSL.out hx)
     have hxo:x.Ok:=by have:=zcw (r:=r) (n:=sl) (s:=t);rw [hx] at this;exact this
     have HOK2:Hid (∀y∈xs++ [x],y.Ok):=fun y hy=>by
      rcases List.mem_append.1 hy with hy|hy
      ·exact HOK.out y hy
      ·rw [List.mem_singleton.1 hy];exact hxo
     generalize mvE (yy xs) x t2=t3 at*
     clear he hx HE hxo
     go_wp2_with fail
     refine C1.out.mono ?_
     rintro e W ⟨rfl,rfl⟩
     clear C1
     go_wp2_with fail
     refine C2.out.mono ?_
     rintro e W3 ⟨rfl,hm,hc⟩
     have HL3:=qH (HL.out.next hm hc)
     clear hm hc C2 HL
     have hown:=((Mods.refl No W3).alloc (.cells x.cells.toArray 131)).ownS HL3.out.own fun _ _ hk=>hk.elim
     have hnew:=yI W3 x.cells.toArray 131
     go_wp2_with (at_builtin;refine zB _ rfl (.tmp 27) (.tmp 31) 61 rfl w.heap.size 131 i0 (.agg #[.int .i64 0,.int .i64 0,.int .i64 0,.int .i64 0,.int .i64 0,.int .i64 0,.int .i64 0]) 7 56 Tryz.underlying61 hi0 hz0 hz1 hz2 rfl (by decide) _ _ _ rfl hown (W3.heap.size+1) _ 1 1 _ rfl hnew rfl (zgG x) ?c1 ?c2 ?c3 ?_)
     case c1=>unfold maxLen;omega
     case c2=>omega
     case c3=>have:=HL3.out.md.size;simp;omega
     intro v2 W4 ho2 hg2 hb2
     have HL4:=qH (HL3.out.push ho2 hg2)
     clear ho2 hg2 hb2 hown hnew HL3
     replace HL4:Hid (CL w lo p l A c t3 131 7 v2 (m+1) (Jh (xs++ [x])) W4):=by
      show CL _ _ _ _ _ _ _ _ _ _ _ _ _
      rw [QM,zdH]
      exact HL4.out
     go_wp2
     go_roundg g
     case measure=>omega
     case rel=>exact ⟨m+1,t3,xs++ [x],by omega,by show _=_;rw [lc,hxl.out];rfl,HOK2,HE2,HL4⟩
    ·have d0:(t.err==0)=false:=by simp [he]
     have HEE:Hid (FB=(xs,t)):=by show _=_;rw [HE.out,Jx he];show (xs++ [],t)=_;rw [lA]
     clear he
     go_wp2_with fail
     refine C1.out.mono ?_
     rintro e W ⟨rfl,rfl⟩
     clear C1
     go_wp2
     go_ret
     exact ⟨_,rfl,by rw [HEE.out,hxl.out];exact HL.out⟩
theorem zfG(y:MBlk)(A:Option Addr)(n c:Nat):∀u∈jV.oc (.slice A n c) y,u.oneCell'=true:=by
 intro u hu
 simp only [jV,List.mem_cons,List.not_mem_nil,or_false] at hu
 rcases hu with rfl|rfl|rfl|rfl|rfl<;>rfl
theorem zcy(n:Nat)(hn:n≤1048576):∃Z:Array Value,Z.size=n*5∧∀w,(Instr.makeSlice 26 (.int .i64 0) (.int .i64 (n:Int))).run Tryz.prog w= .ok (.slice (some ⟨w.heap.size,0,none⟩) 0 n) (w.alloc (.cells Z 63)):=by
 obtain ⟨i,hi,hz,hs,hb⟩:=info_parts zb8
 refine ⟨madeCells (Value.agg #[.slice none 0 0,.int .i64 0,.int .i64 0,.int .i64 0,.int .i64 0]).cells (n*i.size),?_,fun w=> ?_⟩
 ·rw [size_madeCells,hs]
 ·have:=run_make (P:=Tryz.prog) w _ _ i _ Tryz.underlying26 hi hz .i64 .i64 0 n (by decide) (by omega) (by rw [hb];omega) (by omega)
  simpa using this
theorem zen(w:World)(A:Option Addr)(n c:Nat)(k a t e:Int):
  Calls Tryz.prog 76 #[.slice A n c,.agg #[.int .i64 k,.int .i64 a,.int .i64 t,.int .i64 e]] w fun en w'=>en= .returned (.agg #[.slice A n c,.int .i64 k,.int .i64 a,.int .i64 t,.int .i64 e])∧Below w.heap.size w w':=by
 obtain ⟨hb,r1,r2⟩:=JC w 57 63 #[.int .i64 k,.int .i64 a,.int .i64 t,.int .i64 e] #[.slice none 0 0,.int .i64 0,.int .i64 0,.int .i64 0,.int .i64 0]
 have HB:=qH hb
 have HR2:=qH r2
 have g0:=r1.k0;have g1:=r1.k1;have g2:=r1.k2;have g3:=r1.k3
 clear hb r1 r2
 go_enter Tryz.func76,Tryz.ntmps76
 go_upto_region 1 with fail
 generalize ((w.alloc (.cells #[.int .i64 k,.int .i64 a,.int .i64 t,.int .i64 e] 57)).alloc (.cells #[.slice none 0 0,.int .i64 0,.int .i64 0,.int .i64 0,.int .i64 0] 63))=W0 at*
 have z0:=HR2.out.k0;have z1:=HR2.out.k1;have z2:=HR2.out.k2;have z3:=HR2.out.k3;have z4:=HR2.out.k4
 have zf0:=HR2.out.frozen 0;have zf1:=HR2.out.frozen 1;have zf2:=HR2.out.frozen 2;have zf3:=HR2.out.frozen 3;have zf4:=HR2.out.frozen 4
 go_wp2
 (try simp only [Exit.inBlock,Exit.then])
 refine bodyPost_ret (v:= .agg #[.slice A n c,.int .i64 k,.int .i64 a,.int .i64 t,.int .i64 e]) ?_ rfl ⟨rfl,HB.out.trans ((Zl W0 (w.heap.size+1) (.slice A n c) (.int .i64 k) (.int .i64 a) (.int .i64 t) (.int .i64 e)).below (by have:=HB.out.size;omega) fun q hq=>by unfold Is at hq;omega)⟩
 exact results_cell_row rfl _ _ (w.heap.size+1) 63 #[.slice A n c,.int .i64 k,.int .i64 a,.int .i64 t,.int .i64 e] (0,0) _ rfl (HR2.out.put5i _ _ _ _ _) Tryz.underlying63 rfl (by kernel_rfl)
theorem Qc{w:World}{lo p:Nat}{l:List Nat}{A:Option Addr}{c:Nat}{s:Ip}(h:CE lo p l A c s w){x1 x2 x3:Nat}{r sl:Int}(h1:Row w x1 82 #[.pointer (some ⟨p,0,none⟩)])(h2:Row w x2 3 #[.int .i64 r])(h3:Row w x3 3 #[.int .i64 sl])(hr:0≤r∧r≤1048576)(hsl:0≤sl∧sl≤1048576)(hn1:x1≠p)(hn2:x2≠p)(hn3:x3≠p):
  Calls Tryz.prog 77 #[.pointer (some ⟨p,0,none⟩),.int .i64 r,.func (.func 74) #[] #[.pointer (some ⟨x1,0,none⟩),.pointer (some ⟨x2,0,none⟩),.pointer (some ⟨x3,0,none⟩)],.func (.func 76) #[] #[]] w
   fun e w'=>∃v,e= .returned v∧NB jV w lo p l A c (zK r sl (yl s).1 (yl s).1.toNat 0 (yl s).2).2 v (zK r sl (yl s).1 (yl s).1.toNat 0 (yl s).2).1 w':=by
 obtain ⟨i0,hi0,hz0,hz1,hz2⟩:=info_parts zb8
 obtain ⟨⟨n,sn⟩,hN⟩:∃y,yu 3 s=y:=⟨_,rfl⟩
 have rn:0≤n∧n≤1048576:=by have:=jm (k:=3) (s:=s);rw [hN] at this;exact this
 have C1:=qH (ZH h 3 (by decide) (by decide))
 rw [hN] at C1
 have hK:yl s=(n,if decide (n=0)=true then zA 14 sn else sn):=by
  unfold yl
  rw [hN]
  by_cases h9:n=0
  ·rw [if_pos h9,if_pos (by simp [h9]),h9]
  ·rw [if_neg h9,if_neg (by simp [h9])]
 obtain ⟨sm,hsm⟩:∃y,(if decide (n=0)=true then zA 14 sn else sn)=y:=⟨_,rfl⟩
 rw [hK,hsm]
 have HSM:=qH hsm
 have H1:=qH h1
 have H2:=qH h2
 have H3:=qH h3
 have HR:=qH hr
 have HSL:=qH hsl
 have HP:=qH h.lt
 have HN1:=qH hn1
 have HN2:=qH hn2
 have HN3:=qH hn3
 dsimp only
 obtain ⟨FB,hFB⟩:∃y,zK r sl n n.toNat 0 sm=y:=⟨_,rfl⟩
 rw [hFB]
 have HF:=qH hFB
 clear h h1 h2 h3 hr hsl hn1 hn2 hn3 hN hFB hK hsm
 obtain ⟨k,rfl⟩:∃k:Nat,n=(k:Int):=⟨n.toNat,by omega⟩
 rw [Int.toNat_natCast] at HF
 obtain ⟨Z,hZ,hmk⟩:=zcy k (by omega)
 go_enter Tryz.func77,Tryz.ntmps77
 go_wp2_with fail
 refine C1.out.mono ?_
 rintro e W1 ⟨rfl,hm,hc⟩
 have HM1:=qH hm
 have C2:=qH (JD hc (decide ((k:Int)=0)) 14 (by decide))
 rw [HSM.out] at C2
 clear hm hc C1 HSM
 go_wp2_with fail
 refine C2.out.mono ?_
 rintro e W2 ⟨rfl,hm,hc⟩
 have HL:Hid (NB jV w lo p l A c sm (.slice (some ⟨W2.heap.size,0,none⟩) 0 k) [] (W2.alloc (.cells Z 63))):=by
  have hx:=NB.new (S:=jV) hc k Z hZ (by unfold maxLen;omega)
  obtain ⟨vs,hv⟩:=hx.ne
  have hmm:=HM1.out.trans hm
  exact ⟨hmm.trans hx.md,hx.ce,⟨vs,hv.rebase hmm.size⟩,HP.out⟩
 clear hm hc C2 HM1 hZ
 go_wp2
 generalize (W2.alloc (.cells Z 63))=W3 at*
 generalize W2.heap.size=b1 at*
 go_loopg [10,11] k (fun g v10 v11 wr=>∃(m:Nat) (tot:Int) (t:Ip) (bs:List MBlk),m+g=k∧v11= .int .i64 (1048576 - tot)∧(0≤tot∧tot≤1048576)∧Hid (bs.length=m)∧Hid (FB=(bs++(zK r sl k g tot t).1,(zK r sl k g tot t).2))∧Hid (NB jV w lo p l A c t v10 bs wr))
 case atStart=>exact ⟨0,0,sm, [],by omega,rfl,by omega,rfl,HF.out.symm,HL.out⟩
 case round=>
  clear HF HL
  obtain ⟨m,tot,t,bs,hmk2,rfl,ht,hbl,HE,HL⟩:=hrel
  obtain ⟨Av,cv,rfl,_,_⟩:=HL.out.slice
  rw [hbl.out] at HL⊢
  cases gk with
  |zero=>
   have hlt:¬(m:Int)<(k:Int):=by omega
   have HEE:Hid (FB=(bs,t)):=by show _=_;rw [HE.out];show (bs++ [],t)=_;rw [lA]
   go_wp2
   go_ret
   exact ⟨_,rfl,by rw [HEE.out];exact HL.out⟩
  |succ g=>
   have hlt:(m:Int)<(k:Int):=by omega
   have C1:=qH (Js HL.out.ce)
   by_cases he:t.err=0
   ·have d0:(t.err==0)=true:=by simp [he]
    have hroom:=zcv (r:=r) (sl:=sl) (n:=k) (s:=t) ht
    have HE2:Hid (FB=((bs++ [⟨(ym r sl tot t).1,(yr r sl k tot t).1⟩])++(zK r sl k g (tot+((ym r sl tot t).1.length:Int)) (yr r sl k tot t).2).1,(zK r sl k g (tot+((ym r sl tot t).1.length:Int)) (yr r sl k tot t).2).2)):=by
     show _=_
     rw [HE.out,show zK r sl k (g+1) tot t=(⟨(ym r sl tot t).1,(yr r sl k tot t).1⟩::(zK r sl k g (tot+yJ tot t) (yr r sl k tot t).2).1,(zK r sl k g (tot+yJ tot t) (yr r sl k tot t).2).2) from if_neg fun hh=>hh he,hroom.2 g]
     simp
    have C2:=qH (zbp HL.out.ce (HL.out.row H1.out HN1.out) (HL.out.row H2.out HN2.out) (HL.out.row H3.out HN3.out) HR.out HSL.out HN1.out HN2.out HN3.out ht)
    have hro:=hroom.1
    unfold yr at HE2
    obtain ⟨⟨xs,t2⟩,hxt⟩:∃y,ym r sl tot t=y:=⟨_,rfl⟩
    rw [hxt] at HE2 C2 hro
    obtain ⟨⟨tm,t3⟩,htm⟩:∃y,yL r k t2=y:=⟨_,rfl⟩
    dsimp only at HE2 C2 hro
    rw [htm] at HE2
    dsimp only at HE2
    clear he hxt hroom HE
    go_wp2_with fail
    refine C1.out.mono ?_
    rintro e W ⟨rfl,rfl⟩
    clear C1
    go_wp2_with fail
    refine C2.out.mono ?_
    rintro e W4 ⟨vc,rfl,hcl⟩
    have HC4:=qH hcl
    obtain ⟨Ac,cc,rfl,_,_⟩:=zh hcl.own
    clear C2 hcl
    have C3:=qH (zdm HC4.out.ce r k (by have:=HR.out;omega) (by omega) htm)
    clear htm
    go_wp2_with fail
    refine C3.out.mono ?_
    rintro e W5 ⟨rfl,hm,hc⟩
    have HC5:=qH (HC4.out.next hm hc)
    clear hm hc C3 HC4
    have C6:=qH (zen W5 Ac xs.length cc tm.kind tm.a tm.to tm.el)
    go_wp2_with fail
    refine C6.out.mono ?_
    rintro e W6 ⟨rfl,hb⟩
    have HC6:=qH (HC5.out.below hb)
    clear hb C6 HC5
    obtain ⟨md,ce,⟨vs,hn⟩,pw⟩:=HL.out
    have hmw:Mods (Is p) wr W6:=HC6.out.md
    have hn6:=hn.mods hmw fun q h1 _ h2=>by unfold Is at h2;omega
    have hvl:vs.length=m:=by rw [hn.len];exact hbl.out
    have hon:=hn6.outer
    rw [hvl] at hon
    have hsz:=md.size
    have hown:=((Mods.refl No W6).alloc (.cells #[.slice Ac xs.length cc,.int .i64 tm.kind,.int .i64 tm.a,.int .i64 tm.to,.int .i64 tm.el] 63)).ownS hon fun _ _ hk=>hk.elim
    have hnew:=yI W6 #[.slice Ac xs.length cc,.int .i64 tm.kind,.int .i64 tm.a,.int .i64 tm.to,.int .i64 tm.el] 63
    have HN:=qH hn
    have HMD:=qH md
    have HMW:=qH hmw
    have HVL:=qH hvl
    clear hn hn6 hon md ce hmw hvl HL
    go_wp2_with (at_builtin;refine zB _ rfl (.tmp 38) (.tmp 46) 26 rfl w.heap.size 63 i0 (.agg #[.slice none 0 0,.int .i64 0,.int .i64 0,.int .i64 0,.int .i64 0]) 5 56 Tryz.underlying26 hi0 hz0 hz1 hz2 rfl (by decide) _ _ _ rfl hown (W6.heap.size+1) _ 1 1 _ rfl hnew rfl (zfG ⟨xs,tm⟩ Ac xs.length cc) ?c1 ?c2 ?c3 ?_)
    case c1=>unfold maxLen;omega
    case c2=>omega
    case c3=>have:=HC6.out.md.size;simp;omega
    intro v2 W7 ho2 hg2 hb2
    have hsn:=HN.out.snoc (x:=(⟨xs,tm⟩:MBlk)) HMW.out (fun q hq=>by unfold Is at hq;omega) hsz HC6.out.own (.cells #[.slice Ac xs.length cc,.int .i64 tm.kind,.int .i64 tm.a,.int .i64 tm.to,.int .i64 tm.el] 63) (by rw [HVL.out];exact ho2) hg2
    have hG:Mods (fun q=>(Value.slice Av m cv).ownBlock=some q) W6 W7:=((Mods.refl _ W6).alloc _).grown hg2 fun q hq=> .inl hq
    have hOB:∀q,(Value.slice Av m cv).ownBlock=some q→w.heap.size≤q:=fun q hq=>(zW HN.out.outer q hq).1
    have HL2:Hid (NB jV w lo p l A c t3 v2 (bs++ [⟨xs,tm⟩]) W7):=
     ⟨(HMD.out.trans HMW.out).then hG fun q hq=> .inr (hOB q hq),HC6.out.ce.mods hG fun q hq=> .inr (lB pw (hOB q hq)),⟨_,hsn⟩,pw⟩
    clear ho2 hg2 hb2 hown hnew HC6 hsn hG hOB HN HMD HMW HVL
    go_wp2
    go_roundg g
    case measure=>omega
    case rel=>exact ⟨m+1,tot+(xs.length:Int),t3,bs++ [⟨xs,tm⟩],by omega,by go_num,by omega,by show _=_;rw [lc,hbl.out];rfl,HE2,HL2⟩
   ·have d0:(t.err==0)=false:=by simp [he]
    have HEE:Hid (FB=(bs,t)):=by show _=_;rw [HE.out,yP he];show (bs++ [],t)=_;rw [lA]
    clear he
    go_wp2_with fail
    refine C1.out.mono ?_
    rintro e W ⟨rfl,rfl⟩
    clear C1
    go_wp2
    go_ret
    exact ⟨_,rfl,by rw [HEE.out];exact HL.out⟩
end Go.Proofs.YtnifhpbgmjcndaaGreat
