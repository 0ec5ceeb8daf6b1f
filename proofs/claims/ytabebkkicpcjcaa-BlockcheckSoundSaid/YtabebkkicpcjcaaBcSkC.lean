/-
  A piece of the walk of the statement on soundness.
-/
import Derived.Test.YtabebkkicpcjcaaBcSk
namespace Go.Proofs.Ytabebkkicpcjcaa
open Go.RowKit
set_option linter.unusedVariables false

set_option maxRecDepth 100000 in
set_option maxHeartbeats 64000000 in
theorem sound_pC : soundSk.R := by
  intro a2 cap2 z2 a3 len3 cap3 z3 a4 len4 cap4 z4 a5 len5 cap5 w x yr ys i0 A1 c1 A2 c2 code bt mach mt n1 n2 HN1 HN2 e2 i1 e3 HXW HRW HSW HD i2 W0 W1 W2 hr9 hs9 HQ HB1 HB2 i3 i4 i5 u16 u51 u52 u53 u54 u55 u56 u57 u58 u59 u60 u61 u62 u63 u64 u65 u66 u67 u68 u69 u70 u71 u72 u73 u74 u75 u76 u77 u78 u79 u80 u81 u82 u83 u84 u85 u86 u87 u88 u89 u90 u91 u92 u93 u94 u95 u96 u97 u98 u99 u100 u101 u102 u103 u104 u105 u106 u107 u108 u109 u110 u111 u112 u113 u114 u115 u116 u117 u118 u119 u120 u121 u122 u123 u124 u125 u126 u127 u128 u129 u130 u131 u132 u133 i6 i7 i8 i9 n o HI Ao co i10 q HTP RC HRC ol i11 hol i12 i13 W3 cx W4 rb HER i14 W5 i15 k0 i16 i17 u148 u149 u150 u151 u152 u153 u154 u155 u156 u157 u158 u159 u160 u161 u162 u163 u164 u165 i18 i19 i20 cF cG gf i21 i22 W6 gg W7 bs ms HWB HML HLX HLR HLS i23 W8 Bx ex W9 xq W10 By ey i24 W11 Bs es i25 i26 W12 yq B i27 r0 y0 HGX HGY HBS HMS HR0 HY0 hn1 hn2 i28 u185 u186 u187 u188 u189 u190 u191 u192 u193 u194 i29 i30 i31 rc SA sc TA tc r1 HR1 W14 i32 i33 i34 i35 i36 i37 u195 u196 u197 u198 u199 u200 u201 u202 u203 u204 i38 i39 i40 RB rd SB sd TB td y1 HGY1 W15 h2b HS2 i41 e0 e1 e4 C i42 i43 i44 i45 nq W16 i46 i47 m HM HM63 gk wr u12 u27 u235 u236 u237 u238 u239 u240 u241 u242 u243 u244 u245 u246 u247 u248 u249 u250 u251 u252 u253 u254 u255 u256 u257 u258 u259 u260 u261 u262 u263 u264 u265 u266 u267 u268 u269 u270 u271 u272 u273 u274 u275 u276 u277 u278 u279 u280 u281 u282 u283 u284 u285 u286 u287 u288 u289 u290 u291 u292 u293 u294 u295 u296 u297 u298 u299 u300 i48 i49 i50 k hg hk hkz hkl b1 o1 i51 HQX i52 i53 i54 i55 i56 v lc gr i57 i58 hvlz W17 HO17 pb rv D e9 j0 j1 g0 g1 g2 g3 g4 g5 g6 g7 g8 g9 d0 d1 d2 hv20 mixed i59 q1 h hh q3 q4 d3 d4 d5 d6 q5
  go_wp2_with fail
  refine wp_region_quiet_grown (by assumption) (by kernel_rfl) ?_
  repeat (with_reducible refine wpQuiet_step (fun K hK => ?_); go_simp; first | (with_reducible refine hK _ ?_; clear hK K) | (apply Exists.intro; refine ⟨fun _ => ?_, hK _ ?_⟩; (go_at_call 18; refine Calls.grown_of (D.out _ _)); clear hK K))
  with_reducible refine wpQuiet_nil ?_
  intro _ hw'
  obtain ⟨⟨nq, osq⟩, hw''⟩ := hw'
  subst hw''
  have HO18 : Hid (O2 B xq yq (some ⟨gr, 0, none⟩) rc SA sc TA tc r1 RB rd SB sd TB td y1 W7 (Go.Sort.grow (W17.drewN nq) osq)) := HO17.out.next (show Grew W17 _ from ⟨nq, osq, rfl⟩).below
  (try dsimp only)
  generalize (Go.Sort.grow (W17.drewN nq) osq) = W18 at *
  clear D HO17 g0 g1 g2 g3 g4 g5 g6 g7 g8 g9 j0 j1
  go_wp2
  go_roundg (m - (k + 1))
  case measure => omega
  case rel =>
    have hm63 := HM63.out
    exact ⟨k + 1, by omega, by rw [IntWalk.wrap64_in _ (by omega)]; go_num, HO18.out⟩

end Go.Proofs.Ytabebkkicpcjcaa
