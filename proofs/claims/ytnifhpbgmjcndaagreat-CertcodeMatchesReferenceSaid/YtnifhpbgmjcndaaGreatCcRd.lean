/- The reference of layer 20: end, Decode (made by wip/lab/genccrd.py). -/
import Derived.Test.YtnifhpbgmjcndaaGreatPk28
import Derived.Test.YtnifhpbgmjcndaaGreatPk20
import Derived.Test.YtnifhpbgmjcndaaGreatFcMfn
import Derived.Test.YtnifhpbgmjcndaaGreatPk22
set_option linter.unusedVariables false
set_option linter.unusedSimpArgs false
set_option linter.unusedSectionVars false
set_option maxRecDepth 100000
set_option maxHeartbeats 16000000
namespace Go.Proofs.YtnifhpbgmjcndaaGreat
open Go.RowKit
theorem RDC.cells{w W:World}{A:Option Addr}{l:List Nat}(h:RDC w A l W):W.cell? ⟨w.heap.size+1,0,none⟩=some (.int .i64 0)∧W.cell? ⟨w.heap.size+1,1,none⟩=some (.int .i64 0)∧W.cell? ⟨w.heap.size+1,2,none⟩=some (.slice none 0 0)∧W.cell? ⟨w.heap.size+1,3,none⟩=some (.int .i64 0)∧W.cell? ⟨w.heap.size+1,4,none⟩=some (.int .i64 0)∧W.cell? ⟨w.heap.size+1,5,none⟩=some (.int .i64 0)∧W.cell? ⟨w.heap.size+1,6,none⟩=some (.slice none 0 0)∧W.cell? ⟨w.heap.size+1,7,none⟩=some (.slice none 0 0)∧
  W.frozen? ⟨w.heap.size,0,none⟩=false∧W.frozen? ⟨w.heap.size,1,none⟩=false∧W.frozen? ⟨w.heap.size,2,none⟩=false∧W.frozen? ⟨w.heap.size,3,none⟩=false∧W.frozen? ⟨w.heap.size,4,none⟩=false∧W.frozen? ⟨w.heap.size,5,none⟩=false∧W.frozen? ⟨w.heap.size,6,none⟩=false∧W.frozen? ⟨w.heap.size,7,none⟩=false∧
  W.cell? ⟨w.heap.size,0,none⟩=some (.int .i64 0)∧W.cell? ⟨w.heap.size,1,none⟩=some (.int .i64 0)∧W.cell? ⟨w.heap.size,2,none⟩=some (.slice none 0 0)∧W.cell? ⟨w.heap.size,3,none⟩=some (.int .i64 0)∧W.cell? ⟨w.heap.size,4,none⟩=some (.int .i64 0)∧W.cell? ⟨w.heap.size,5,none⟩=some (.int .i64 0)∧W.cell? ⟨w.heap.size,6,none⟩=some (.slice none 0 0)∧W.cell? ⟨w.heap.size,7,none⟩=some (.slice none 0 0):=
 ⟨h.y.cell 0,h.y.cell 1,h.y.cell 2,h.y.cell 3,h.y.cell 4,h.y.cell 5,h.y.cell 6,h.y.cell 7,h.z.frozen 0,h.z.frozen 1,h.z.frozen 2,h.z.frozen 3,h.z.frozen 4,h.z.frozen 5,h.z.frozen 6,h.z.frozen 7,h.z.cell 0,h.z.cell 1,h.z.cell 2,h.z.cell 3,h.z.cell 4,h.z.cell 5,h.z.cell 6,h.z.cell 7⟩
theorem NestV.aside20{w w':World}{base:Nat}{v:Value}{vs:List Value}{xs:List (List Pr)}{p:Nat}{cs:Array Value}(h:NestV Jn w base v vs xs)(hr:Row w p 88 cs)(hm:Mods (Is p) w w'):NestV Jn w' base v vs xs:=
 have h1:¬Jn.eo=88:=by decide
 have h2:¬Jn.ei=88:=by decide
 ⟨hm.ownS h.outer fun k hk e=>Jo h.outer hr h1 k hk e,h.len,fun i u x a b=>hm.ownS (h.inner i u x a b) fun k hk e=>Jo (h.inner i u x a b) hr h2 k hk e,h.dist⟩
theorem NestV.aside21{α:Type}{S:Shp α}{w w':World}{base:Nat}{v:Value}{vs:List Value}{xs:List α}{p:Nat}{T:TypeId}{cs:Array Value}(h1:¬S.eo=T)(h2:¬S.ei=T)(h:NestV S w base v vs xs)(hr:Row w p T cs)(hm:Mods (Is p) w w'):NestV S w' base v vs xs:=
 ⟨hm.ownS h.outer fun k hk e=>Jo h.outer hr h1 k hk e,h.len,fun i u x a b=>hm.ownS (h.inner i u x a b) fun k hk e=>Jo (h.inner i u x a b) hr h2 k hk e,h.dist⟩
theorem zhn{p:List Nat}(hp:Byt p)(hl:p.length≤90000)(h:yC (zJ ⟨p,0⟩).2=0):(zJ ⟨p,0⟩).1.bs.length≤90000∧0≤(zJ ⟨p,0⟩).1.regs∧(zJ ⟨p,0⟩).1.regs≤1048576:=by
 obtain ⟨a1,a2⟩:=jN h
 obtain ⟨_,f1,f2,f3,_,_,_⟩:=UN (s:=⟨p,0⟩) hp a1
 have hv:=VF.of f1 f2
 have h9:=congrArg List.length f3
 rw [lc] at h9
 have h8:=Yg (f:=(zJ ⟨p,0⟩).1) (n:=90000) (by have h7:(⟨p,0⟩:Ip).rest.length=p.length:=rfl;omega)
 exact ⟨by omega,hv.r.1,hv.r.2⟩
theorem zho{p:List Nat}(hp:Byt p)(h:yC (zq ⟨p,0⟩).2=0):(zq ⟨p,0⟩).1.regs≤1048576∧(zq ⟨p,0⟩).1.slots≤1048576:=by
 obtain ⟨a1,a2⟩:=jN h
 obtain ⟨_,_,_,_,_,g1,g2,_⟩:=YU (s:=⟨p,0⟩) hp a1
 exact ⟨g1,g2⟩
structure RDE(w:World)(A:Option Addr)(l:List Nat)(bx:Nat)(v:Value)(x:Int)(W:World):Prop where
 k:RDC w A l W
 r:Row W bx 88 #[v,.int .i64 x]
 lo:w.heap.size+1<bx
section
variable {w W W' : World} {A : Option Addr} {l : List Nat} {bx : Nat} {v : Value} {x : Int}
theorem RDE.next(h:RDE w A l bx v x W)(hb:Below W.heap.size W W'):RDE w A l bx v x W':=⟨h.k.next hb,h.r.below hb h.r.lt,h.lo⟩
theorem RDE.drew(h:RDE w A l bx v x W):RDE w A l bx v x W.drew:=h.next (let b:=ld W.heap.size W;⟨b.os,b.tape,b.output,b.size,b.block⟩)
theorem RDE.putz(h:RDE w A l bx v x W):RDE w A l bx v x (((((((((W.setCell ⟨w.heap.size,0,none⟩ (.int .i64 0)).setCell ⟨w.heap.size,1,none⟩ (.int .i64 0)).setCell ⟨w.heap.size,2,none⟩ (.slice none 0 0)).setCell ⟨w.heap.size,3,none⟩ (.int .i64 0)).setCell ⟨w.heap.size,4,none⟩ (.int .i64 0)).setCell ⟨w.heap.size,5,none⟩ (.int .i64 0)).setCell ⟨w.heap.size,6,none⟩ (.slice none 0 0)).setCell ⟨w.heap.size,7,none⟩ (.slice none 0 0))):=by
 have hm:=Q0 W w.heap.size (.int .i64 0) (.int .i64 0) (.slice none 0 0) (.int .i64 0) (.int .i64 0) (.int .i64 0) (.slice none 0 0) (.slice none 0 0)
 have hr:Row (Proofs.YtnifhpbgmjcndaaGreat.put8c W w.heap.size (.int .i64 0) (.int .i64 0) (.slice none 0 0) (.int .i64 0) (.int .i64 0) (.int .i64 0) (.slice none 0 0) (.slice none 0 0)) w.heap.size 31 #[.int .i64 0,.int .i64 0,.slice none 0 0,.int .i64 0,.int .i64 0,.int .i64 0,.slice none 0 0,.slice none 0 0]:=Row.put8c h.k.z _ _ _ _ _ _ _ _
 have hlo:=h.lo
 exact ⟨⟨h.k.blw.trans (hm.below h.k.blw.size fun k hk=>by unfold Is at hk;omega),hr,h.k.y.mods hm fun e=>by unfold Is at e;omega,h.k.see.below (hm.below h.k.blw.size fun k hk=>by unfold Is at hk;omega)⟩,h.r.mods hm fun e=>by unfold Is at e;omega,hlo⟩
end
theorem Yo(w:World)(A:Option Addr)(n c:Nat)(e:Int)(hn:n≤1000000):
  Calls Tryz.prog 37 #[.agg #[.slice A n c,.int .i64 e]] w fun en w'=>en= .returned (.int .i64 (if e=0∧0<n then 2 else e))∧Below w.heap.size w w':=by
 have hr:=Row.new w 88 #[.slice A n c,.int .i64 e]
 have HB:=qH ((ld w.heap.size w).alloc (la _) (.cells #[.slice A n c,.int .i64 e] 88))
 obtain ⟨x,hx⟩:∃y,y=(if e=0∧0<n then (2:Int) else e):=⟨_,rfl⟩
 rw [←hx]
 have HX:=qH hx
 clear hx
 go_enter Tryz.func37,Tryz.ntmps37
 go_upto_region 1 with fail
 generalize (w.alloc (.cells #[.slice A n c,.int .i64 e] 88))=W0 at*
 have p0:=hr.k0;have p1:=hr.k1
 clear hr
 by_cases h0:e=0
 ·have d0:(e==0)=true:=by simp [h0]
  by_cases h1:0<n
  ·have d1:(0:Int)<(n:Int):=by omega
   have HE:Hid (x=2):=by show _=_;rw [HX.out,if_pos ⟨h0,h1⟩]
   clear h0 h1 HX
   go_wp2
   go_ret
   exact ⟨by rw [HE.out];rfl,HB.out⟩
  ·have d1:¬(0:Int)<(n:Int):=by omega
   have HE:Hid (x=e):=by show _=_;rw [HX.out,if_neg fun h=>h1 h.2]
   clear h0 h1 HX
   go_wp2
   go_ret
   exact ⟨by rw [HE.out];rfl,HB.out⟩
 ·have d0:(e==0)=false:=by simp [h0]
  have HE:Hid (x=e):=by show _=_;rw [HX.out,if_neg fun h=>h0 h.1]
  clear h0 HX
  go_wp2
  go_ret
  exact ⟨by rw [HE.out];rfl,HB.out⟩
theorem zcO(A:Option Addr)(l:List Nat)(k:Nat)(w:World)(hs:Sees w w.heap.size A (bts l))(hby:Byt l)(hm:l.length≤90000)(hk:l.length≤k)(hkm:k≤maxLen):
  Calls Tryz.prog 11 #[.slice A l.length k] w (DecP w (yD l)):=by
 obtain ⟨i0,hi,hz0,hz1,hz2⟩:=info_parts Tryz.infoU8c
 have H0:=qH (RDC.start hs)
 have HBY:=qH hby
 have HKM:=qH hkm
 clear hs hby
 unfold maxLen at hkm
 obtain ⟨n,hn⟩:∃n,l.length=n:=⟨_,rfl⟩
 rw [hn] at hm hk⊢
 have HN:=qH hn
 clear hn
 go_enter Tryz.func11,Tryz.ntmps11
 go_upto_region 2 with fail
 generalize ((w.alloc (.cells #[.int .i64 0,.int .i64 0,.slice none 0 0,.int .i64 0,.int .i64 0,.int .i64 0,.slice none 0 0,.slice none 0 0] 31)).alloc (.cells #[.int .i64 0,.int .i64 0,.slice none 0 0,.int .i64 0,.int .i64 0,.int .i64 0,.slice none 0 0,.slice none 0 0] 31))=W0 at*
 by_cases hl2:n<2
 ·have d0:(n:Int)<2:=by omega
  obtain ⟨y0,y1,y2,y3,y4,y5,y6,y7,z0,z1,z2,z3,z4,z5,z6,z7,q0,q1,q2,q3,q4,q5,q6,q7⟩:=H0.out.cells
  have HRP:=qH (H0.out.put (.int .i64 0) (.int .i64 0) (.slice none 0 0) (.int .i64 0) (.int .i64 0) (.int .i64 0) (.slice none 0 0) (.slice none 0 0))
  have HDE:Hid (yD l=(zCt,1)):=if_pos (by rw [HN.out];exact hl2)
  unfold Proofs.YtnifhpbgmjcndaaGreat.put8c at HRP
  go_wp2
  (try simp only [Exit.inBlock,Exit.then])
  refine bodyPost_ret (v:= .tuple #[.agg #[.int .i64 0,.int .i64 0,.slice none 0 0,.int .i64 0,.int .i64 0,.int .i64 0,.slice none 0 0,.slice none 0 0],.int .i64 1]) ?_ rfl (by rw [HDE.out];exact DecP.bad HRP.out.2 _)
  exact zS rfl _ _ w.heap.size 31 #[.int .i64 0,.int .i64 0,.slice none 0 0,.int .i64 0,.int .i64 0,.int .i64 0,.slice none 0 0,.slice none 0 0] (0,0) _ rfl rfl HRP.out.1 Tryz.underlying31 rfl (by kernel_rfl)
 obtain ⟨x0,x1,r1,hl⟩:∃x0 x1 r1,l=x0::x1::r1:=by
  have h9:=HN.out
  match l with
  |x::y::r=>exact ⟨x,y,r,rfl⟩
  | [_]=>simp at h9;omega
  | []=>simp at h9;omega
 have HL:=qH hl
 obtain ⟨b,o,rfl,hbB,hc⟩:=H0.out.see (by rw [hl];simp [bts])
 have c0:=hc 0 _ (by rw [hl];rfl)
 have c1:=hc 1 _ (by rw [hl];rfl)
 have HCC:=qH hc
 have dn:¬(n:Int)<2:=by omega
 have dn1:(0:Int)<(n:Int):=by omega
 have dn2:(1:Int)<(n:Int):=by omega
 simp only [lH] at c0
 have HDL:Hid (x0≠82∨x1≠67→yD l=(zCt,4)):=fun h9=>by
  show (if l.length<2 then _ else _)=_
  rw [if_neg (by rw [HN.out];omega),if_pos (by rw [hl];exact h9)]
 clear hl hc
 by_cases hx0:x0≠82
 ·have d1:((x0:Int) !=82)=true:=by simp;omega
  obtain ⟨y0,y1,y2,y3,y4,y5,y6,y7,z0,z1,z2,z3,z4,z5,z6,z7,q0,q1,q2,q3,q4,q5,q6,q7⟩:=H0.out.cells
  have HRP:=qH (H0.out.put (.int .i64 0) (.int .i64 0) (.slice none 0 0) (.int .i64 0) (.int .i64 0) (.int .i64 0) (.slice none 0 0) (.slice none 0 0))
  have HDE:Hid (yD l=(zCt,4)):=HDL.out (.inl hx0)
  unfold Proofs.YtnifhpbgmjcndaaGreat.put8c at HRP
  clear hx0
  go_wp2
  (try simp only [Exit.inBlock,Exit.then])
  refine bodyPost_ret (v:= .tuple #[.agg #[.int .i64 0,.int .i64 0,.slice none 0 0,.int .i64 0,.int .i64 0,.int .i64 0,.slice none 0 0,.slice none 0 0],.int .i64 4]) ?_ rfl (by rw [HDE.out];exact DecP.bad HRP.out.2 _)
  exact zS rfl _ _ w.heap.size 31 #[.int .i64 0,.int .i64 0,.slice none 0 0,.int .i64 0,.int .i64 0,.int .i64 0,.slice none 0 0,.slice none 0 0] (0,0) _ rfl rfl HRP.out.1 Tryz.underlying31 rfl (by kernel_rfl)
 have d1:((x0:Int) !=82)=false:=by simp;omega
 by_cases hx1:x1≠67
 ·have d2:((x1:Int) !=67)=true:=by simp;omega
  obtain ⟨y0,y1,y2,y3,y4,y5,y6,y7,z0,z1,z2,z3,z4,z5,z6,z7,q0,q1,q2,q3,q4,q5,q6,q7⟩:=H0.out.cells
  have HRP:=qH (H0.out.put (.int .i64 0) (.int .i64 0) (.slice none 0 0) (.int .i64 0) (.int .i64 0) (.int .i64 0) (.slice none 0 0) (.slice none 0 0))
  have HDE:Hid (yD l=(zCt,4)):=HDL.out (.inr hx1)
  unfold Proofs.YtnifhpbgmjcndaaGreat.put8c at HRP
  clear hx1
  go_wp2
  (try simp only [Exit.inBlock,Exit.then])
  refine bodyPost_ret (v:= .tuple #[.agg #[.int .i64 0,.int .i64 0,.slice none 0 0,.int .i64 0,.int .i64 0,.int .i64 0,.slice none 0 0,.slice none 0 0],.int .i64 4]) ?_ rfl (by rw [HDE.out];exact DecP.bad HRP.out.2 _)
  exact zS rfl _ _ w.heap.size 31 #[.int .i64 0,.int .i64 0,.slice none 0 0,.int .i64 0,.int .i64 0,.int .i64 0,.slice none 0 0,.slice none 0 0] (0,0) _ rfl rfl HRP.out.1 Tryz.underlying31 rfl (by kernel_rfl)
 have d2:((x1:Int) !=67)=false:=by simp;omega
 have HXX:Hid (x0=82∧x1=67):=⟨by omega,by omega⟩
 clear hx0 hx1 HDL
 by_cases hl3:n<3
 ·have d3:(n:Int)<3:=by omega
  obtain ⟨y0,y1,y2,y3,y4,y5,y6,y7,z0,z1,z2,z3,z4,z5,z6,z7,q0,q1,q2,q3,q4,q5,q6,q7⟩:=H0.out.cells
  have HRP:=qH (H0.out.put (.int .i64 0) (.int .i64 0) (.slice none 0 0) (.int .i64 0) (.int .i64 0) (.int .i64 0) (.slice none 0 0) (.slice none 0 0))
  have HDE:Hid (yD l=(zCt,1)):=by
     show yD l=_
     unfold yD
     rw [if_neg (by rw [HN.out];omega),if_neg (by rw [HL.out];show¬(x0≠82∨x1≠67);have:=HXX.out;omega),if_pos (by rw [HN.out];exact hl3)]
  unfold Proofs.YtnifhpbgmjcndaaGreat.put8c at HRP
  go_wp2
  (try simp only [Exit.inBlock,Exit.then])
  refine bodyPost_ret (v:= .tuple #[.agg #[.int .i64 0,.int .i64 0,.slice none 0 0,.int .i64 0,.int .i64 0,.int .i64 0,.slice none 0 0,.slice none 0 0],.int .i64 1]) ?_ rfl (by rw [HDE.out];exact DecP.bad HRP.out.2 _)
  exact zS rfl _ _ w.heap.size 31 #[.int .i64 0,.int .i64 0,.slice none 0 0,.int .i64 0,.int .i64 0,.int .i64 0,.slice none 0 0,.slice none 0 0] (0,0) _ rfl rfl HRP.out.1 Tryz.underlying31 rfl (by kernel_rfl)
 have d3:¬(n:Int)<3:=by omega
 obtain ⟨x2,r,hr1⟩:∃x2 r,r1=x2::r:=by
  have h9:=HN.out
  rw [HL.out] at h9
  match r1 with
  |x::r=>exact ⟨x,r,rfl⟩
  | []=>simp at h9;omega
 have HR1:=qH hr1
 have c2:=HCC.out 2 _ (by rw [HL.out,hr1];rfl)
 have dn3:(2:Int)<(n:Int):=by omega
 have HD5:Hid (yD l=if x2≠1 then (zCt,5) else JX r):=by
  show yD l=_
  unfold yD
  rw [if_neg (by rw [HN.out];omega),if_neg (by rw [HL.out];show¬(x0≠82∨x1≠67);have:=HXX.out;omega),if_neg (by rw [HN.out];exact hl3),HL.out,hr1]
  rfl
 clear hr1
 by_cases hx2:x2≠1
 ·have d4:((x2:Int) !=1)=true:=by simp;omega
  obtain ⟨y0,y1,y2,y3,y4,y5,y6,y7,z0,z1,z2,z3,z4,z5,z6,z7,q0,q1,q2,q3,q4,q5,q6,q7⟩:=H0.out.cells
  have HRP:=qH (H0.out.put (.int .i64 0) (.int .i64 0) (.slice none 0 0) (.int .i64 0) (.int .i64 0) (.int .i64 0) (.slice none 0 0) (.slice none 0 0))
  have HDE:Hid (yD l=(zCt,5)):=by show yD l=_;rw [HD5.out,if_pos hx2]
  unfold Proofs.YtnifhpbgmjcndaaGreat.put8c at HRP
  clear hx2
  go_wp2
  (try simp only [Exit.inBlock,Exit.then])
  refine bodyPost_ret (v:= .tuple #[.agg #[.int .i64 0,.int .i64 0,.slice none 0 0,.int .i64 0,.int .i64 0,.int .i64 0,.slice none 0 0,.slice none 0 0],.int .i64 5]) ?_ rfl (by rw [HDE.out];exact DecP.bad HRP.out.2 _)
  exact zS rfl _ _ w.heap.size 31 #[.int .i64 0,.int .i64 0,.slice none 0 0,.int .i64 0,.int .i64 0,.int .i64 0,.slice none 0 0,.slice none 0 0] (0,0) _ rfl rfl HRP.out.1 Tryz.underlying31 rfl (by kernel_rfl)
 have d4:((x2:Int) !=1)=false:=by simp;omega
 have HD0:Hid (yD l=JX r):=by show _=_;rw [HD5.out,if_neg hx2]
 have hnr:n=3+r.length:=by rw [←HN.out,HL.out,HR1.out];simp;omega
 obtain ⟨kk,rfl⟩:∃kk,k=3+kk:=⟨k - 3,by omega⟩
 subst hnr
 clear hx2 HD5 HCC hl2 hl3
 have HS3:Hid (Sees W0 w.heap.size (if kk=0 then some (⟨b,o,none⟩:Addr) else some ⟨b,o+3,none⟩) (bts r)):=by
  have h9:=H0.out.see.drop (k:=3) (cap:=3+kk) (by rw [zg,HN.out];omega)
  rw [HL.out,HR1.out] at h9
  have h8:(if 3+kk=3 then some (⟨b,o,none⟩:Addr) else (some (⟨b,o,none⟩:Addr)).map fun x=>x.add 3)=(if kk=0 then some (⟨b,o,none⟩:Addr) else some ⟨b,o+3,none⟩):=by
   by_cases h7:kk=0
   ·rw [if_pos h7,if_pos (by omega)]
   ·rw [if_neg h7,if_neg (by omega)];simp [Addr.add_lit]
  rw [h8] at h9
  exact h9
 obtain ⟨A2,hite⟩:∃z,(if kk=0 then some (⟨b,o,none⟩:Addr) else some ⟨b,o+3,none⟩)=z:=⟨_,rfl⟩
 rw [hite] at HS3
 have HBR:Hid (Byt r):=fun x hx=>HBY.out x (by rw [HL.out,HR1.out];simp [hx])
 have HL3:=qH (Jp W0 #[.int .u8 1,.int .u8 2,.int .u8 3] 5 zn rfl)
 have hal:=(ld W0.heap.size W0).alloc (la _) (.cells #[.int .u8 1,.int .u8 2,.int .u8 3] 5)
 have H1:=qH (H0.out.next hal)
 have HS4:Hid (Sees (W0.alloc (.cells #[.int .u8 1,.int .u8 2,.int .u8 3] 5)) (W0.heap.size+1) A2 (bts r)):=(HS3.out.below (hal.mono H0.out.blw.size)).more (by have:=H0.out.blw.size;omega)
 have HS5:Hid (W0.heap.size+1≤(W0.alloc (.cells #[.int .u8 1,.int .u8 2,.int .u8 3] 5)).heap.size):=by show _≤_;simp
 have hb3:Byt zn:=by intro c hc;unfold zn at hc;simp at hc;omega
 have hrl:r.length≤1000000:=by omega
 have hkl:r.length≤kk:=by omega
 have hkm3:kk≤maxLen:=by unfold maxLen;omega
 have C1:Hid (Calls Tryz.prog 35 #[.slice A2 r.length kk,.slice (some ⟨W0.heap.size,0,none⟩) 3 3] (W0.alloc (.cells #[.int .u8 1,.int .u8 2,.int .u8 3] 5)) (zdu (W0.alloc (.cells #[.int .u8 1,.int .u8 2,.int .u8 3] 5)) zn r)):=
  zcG (W0.heap.size+1) A2 _ r zn kk 3 _ HS4.out HL3.out HS5.out HBR.out hb3 hrl (by decide) hkl hkm3
 clear hal HL3 HS3
 go_wp2_with fail
 refine C1.out.mono ?_
 rintro e W1 hsp
 obtain ⟨hb1,hsp⟩:=hsp
 have H2:=qH (H1.out.next hb1)
 have hsz:=hb1.size
 clear C1 hb1 H1 H0 HS4 HS5 c0 c1 c2 dn dn1 dn2 dn3 d1 d2 d3 d4
 rcases hsp with ⟨hz,v,vs,rfl,hown,hcl⟩|⟨hnz,rfl⟩
 rotate_left
 ·have hdd:yD l=(zCt,(yg zn r:Int)):=by rw [HD0.out];unfold JX;rw [if_pos hnz]
  generalize yg zn r=sx at*
  have d5:((sx:Int) !=0)=true:=by simp;omega
  have HDD:=qH hdd
  clear hdd hnz
  obtain ⟨y0,y1,y2,y3,y4,y5,y6,y7,z0,z1,z2,z3,z4,z5,z6,z7,q0,q1,q2,q3,q4,q5,q6,q7⟩:=H2.out.cells
  have HRP:=qH (H2.out.put (.int .i64 0) (.int .i64 0) (.slice none 0 0) (.int .i64 0) (.int .i64 0) (.int .i64 0) (.slice none 0 0) (.slice none 0 0))
  have HDE:Hid (yD l=(zCt,(sx:Int))):=HDD.out
  unfold Proofs.YtnifhpbgmjcndaaGreat.put8c at HRP
  go_wp2
  (try simp only [Exit.inBlock,Exit.then])
  refine bodyPost_ret (v:= .tuple #[.agg #[.int .i64 0,.int .i64 0,.slice none 0 0,.int .i64 0,.int .i64 0,.int .i64 0,.slice none 0 0,.slice none 0 0],.int .i64 ((sx:Int))]) ?_ rfl (by rw [HDE.out];exact DecP.bad HRP.out.2 _)
  exact zS rfl _ _ w.heap.size 31 #[.int .i64 0,.int .i64 0,.slice none 0 0,.int .i64 0,.int .i64 0,.int .i64 0,.slice none 0 0,.slice none 0 0] (0,0) _ rfl rfl HRP.out.1 Tryz.underlying31 rfl (by kernel_rfl)
 have hsl:=Zz (ids:=zn) (l:=r) HBR.out hz
 obtain ⟨hpk,hl3⟩:=hsl
 have hps:=ze8 hl3 []
 have HD1:Hid (yD l=Yi ((zL zn r).2.1.getD 0 []) ((zL zn r).2.1.getD 1 []) ((zL zn r).2.1.getD 2 [])):=by show _=_;rw [HD0.out];unfold JX;rw [if_neg (by omega)]
 generalize (zL zn r).2.1.getD 0 []=p0 at*
 generalize (zL zn r).2.1.getD 1 []=p1 at*
 generalize (zL zn r).2.1.getD 2 []=p2 at*
 rw [hps] at hpk hcl
 have hpb:Byt p0∧Byt p1∧Byt p2:=⟨fun c hc=>HBR.out c (by rw [←hpk];exact JB zn _ rfl p0 (by simp) c hc),fun c hc=>HBR.out c (by rw [←hpk];exact JB zn _ rfl p1 (by simp) c hc),fun c hc=>HBR.out c (by rw [←hpk];exact JB zn _ rfl p2 (by simp) c hc)⟩
 have hpz:p0.length+p1.length+p2.length≤90000:=by
  have h9:=j8 zn [p0,p1,p2] rfl
  rw [hpk] at h9
  simp only [jG] at h9
  omega
 obtain ⟨A0,k0,e0,l0,m0,s0⟩:=hcl.2 0 p0 rfl
 obtain ⟨A1,k1,e1,l1,m1,s1⟩:=hcl.2 1 p1 rfl
 obtain ⟨A3,k3,e3,l3,m3,s3⟩:=hcl.2 2 p2 rfl
 have hvl:vs.length=3:=hcl.1
 obtain ⟨Av,cv,rfl,hcv,_⟩:=yi hown rfl
 rw [hvl] at hown hcv⊢
 have hsv:Sees W1 W1.heap.size Av vs:=Sees.of_own hown
 obtain ⟨bv,ov,rfl,hbv,hcc⟩:=hsv (by intro e;rw [e] at hvl;cases hvl)
 have HPT:Hid (∀W,Below W1.heap.size W1 W→(W.cell? ⟨bv,ov,none⟩=some (.slice A0 p0.length k0)∧W.cell? ⟨bv,ov+1,none⟩=some (.slice A1 p1.length k1)∧W.cell? ⟨bv,ov+2,none⟩=some (.slice A3 p2.length k3))∧Sees W W1.heap.size A0 (bts p0)∧Sees W W1.heap.size A1 (bts p1)∧Sees W W1.heap.size A3 (bts p2)):=fun W h=>
  ⟨⟨(h.cell (p:=⟨bv,ov,none⟩) hbv).trans (hcc 0 _ e0),(h.cell (p:=⟨bv,ov+1,none⟩) hbv).trans (hcc 1 _ e1),(h.cell (p:=⟨bv,ov+2,none⟩) hbv).trans (hcc 2 _ e3)⟩,(s0.more hsz).below h,(s1.more hsz).below h,(s3.more hsz).below h⟩
 have HB1:=qH (ld W1.heap.size W1)
 clear hite hown hcl s0 s1 s3 hcc hsz hsv e0 e1 e3 hpk hps hl3 hz HD0 HL HR1 HXX HN HBR hb3
 obtain ⟨⟨g0,g1,g2⟩,t0,t1,t2⟩:=HPT.out _ HB1.out
 go_wp2_with (at_builtin;refine zv _ rfl (.tmp 49) (.tmp 52) 22 rfl W1.heap.size 5 i0 (.int .u8 0) 1 Tryz.underlying22 hi hz0 hz1 hz2 rfl _ _ _ rfl (World.ownsRow_made W1 #[] 0 (la _) (by decide) rfl) W1.heap.size _ _ _ (bts p0) rfl ((t0.more HB1.out.size).alloc (la _) _) (zg _) (ye _) ?c1 ?c2 ?c3 ?_)
 case c1=>unfold maxLen;omega
 case c2=>omega
 case c3=>simp
 intro va W5 ho5 hg5
 have hb5:Below W1.heap.size W1 W5:=((ld _ _).alloc (la _) _).grown hg5 (by simp) (fun k hk=>by simp [Value.ownBlock] at hk;omega)
 obtain ⟨A5,c5,rfl,hc5a,hc5b⟩:=yi ho5 (zg _)
 have hiv:IpV W5 W5.heap.size A5 c5 ⟨p0,0⟩:=⟨Sees.of_own ho5,hc5a,hc5b,hpb.1,by show p0.length≤100000;omega⟩
 have C3:Hid (Calls Tryz.prog 36 #[.agg #[.slice A5 p0.length c5,.int .i64 0]] W5 (RQF W5 W5.heap.size (zJ ⟨p0,0⟩).1 (zJ ⟨p0,0⟩).2)):=zbv hiv (la _)
 have HD2:Hid (yD l=if yC (zJ ⟨p0,0⟩).2≠0 then (zCt,yC (zJ ⟨p0,0⟩).2) else Ul (zJ ⟨p0,0⟩).1 p1 p2):=HD1.out
 have HFF:Hid (yC (zJ ⟨p0,0⟩).2=0→(zJ ⟨p0,0⟩).1.bs.length≤90000∧0≤(zJ ⟨p0,0⟩).1.regs∧(zJ ⟨p0,0⟩).1.regs≤1048576):=zhn hpb.1 (by omega)
 generalize (zJ ⟨p0,0⟩).1=f at*
 generalize (zJ ⟨p0,0⟩).2=t at*
 have HB5:=qH (HB1.out.trans (hb5.mono HB1.out.size))
 have H5:=qH (H2.out.next hb5)
 clear ho5 hg5 hiv HD1 HB1 H2 hc5a hc5b hb5 g0 g1 g2 t0 t1 t2
 go_wp2_with fail
 refine C3.out.mono ?_
 rintro e W6 ⟨v,vs6,A6,c6,rfl,hn,hip,hb⟩
 obtain ⟨Af,cf,rfl,_,_,_⟩:=ZW hn
 clear C3
 have hal:=(ld W6.heap.size W6).alloc (la _) (.cells #[.int .i64 f.args,.int .i64 f.regs,.slice Af f.bs.length cf] 25)
 have hal2:=hal.alloc hal.size (.cells #[.slice A6 t.rest.length c6,.int .i64 t.err] 88)
 have R7:=qH ((Row.new W6 25 #[.int .i64 f.args,.int .i64 f.regs,.slice Af f.bs.length cf]).alloc (.cells #[.slice A6 t.rest.length c6,.int .i64 t.err] 88))
 have R8:=qH (Row.new' (W:=W6.alloc (.cells #[.int .i64 f.args,.int .i64 f.regs,.slice Af f.bs.length cf] 25)) (p:=W6.heap.size+1) (by simp) 88 #[.slice A6 t.rest.length c6,.int .i64 t.err])
 have H7:=qH (H5.out.next (hb.trans (hal2.mono hb.size)))
 have HB7:=qH (HB5.out.trans ((hb.trans (hal2.mono hb.size)).mono HB5.out.size))
 have HN7:=qH ((hn.below hal2).rebase (lf H5.out.blw.size (la _)))
 have htl:=hip.sm
 have H5lt:Hid (w.heap.size+1<W5.heap.size):=H5.out.y.lt
 have hbsz:=qH hb.size
 clear hn hip hb hal hal2 HB5 H5
 go_upto_region 14 with fail
 generalize ((W6.alloc (.cells #[.int .i64 f.args,.int .i64 f.regs,.slice Af f.bs.length cf] 25)).alloc (.cells #[.slice A6 t.rest.length c6,.int .i64 t.err] 88))=W7 at*
 have HLO:Hid (w.heap.size+1<W6.heap.size+1):=by have h8:=H5lt.out;have h9:W5.heap.size≤W6.heap.size:=hbsz.out;show _<_;omega
 have HLP:Hid (w.heap.size+1<W6.heap.size):=by have h8:=H5lt.out;have h9:W5.heap.size≤W6.heap.size:=hbsz.out;show _<_;omega
 generalize W6.heap.size=b7 at*
 have HE7:Hid (RDE w (some ⟨b,o,none⟩) l (b7+1) (.slice A6 t.rest.length c6) t.err W7):=⟨H7.out,R8.out,HLO.out⟩
 obtain ⟨ex,hex⟩:∃y,y=yC t:=⟨_,rfl⟩
 rw [←hex] at HD2 HFF
 have KE:Hid (∀W,RDE w (some ⟨b,o,none⟩) l (b7+1) (.slice A6 t.rest.length c6) t.err W→Calls Tryz.prog 37 #[.agg #[.slice A6 t.rest.length c6,.int .i64 t.err]] W fun e W'=>e= .returned (.int .i64 ex)∧RDE w (some ⟨b,o,none⟩) l (b7+1) (.slice A6 t.rest.length c6) t.err W'∧Below W.heap.size W W'):=fun W h=>(Yo W A6 t.rest.length c6 t.err (by omega)).mono (by
  rintro e W' ⟨rfl,hb⟩
  exact ⟨by rw [hex];rfl,h.next hb,hb⟩)
 clear hex
 have g0:=R8.out.k0;have g1:=R8.out.k1
 go_wp2_with fail
 refine (KE.out _ HE7.out).mono ?_
 rintro e W8 ⟨rfl,he8,hb8⟩
 have HE8:=qH he8
 have HB8:=qH (HB7.out.trans (hb8.mono HB7.out.size))
 have R9:=qH (R7.out.below hb8 R7.out.lt)
 have HN8:=qH (HN7.out.below hb8)
 clear he8 hb8 g0 g1 HE7 HB7 H7 R7 R8 HN7
 by_cases hex:ex≠0
 ·have dx:(ex !=0)=true:=by simp [hex]
  have HDE:Hid (yD l=(zCt,ex)):=by show yD l=_;rw [HD2.out,if_pos hex]
  clear hex HD2 HN8 R9 HPT
  go_wp2_with fail
  have HS9:Hid (∀V,RDE w (some ⟨b,o,none⟩) l (b7+1) (.slice A6 t.rest.length c6) t.err V→((V.cell? ⟨w.heap.size+1,0,none⟩=some (.int .i64 0)∧V.cell? ⟨w.heap.size+1,1,none⟩=some (.int .i64 0)∧V.cell? ⟨w.heap.size+1,2,none⟩=some (.slice none 0 0)∧V.cell? ⟨w.heap.size+1,3,none⟩=some (.int .i64 0)∧V.cell? ⟨w.heap.size+1,4,none⟩=some (.int .i64 0)∧V.cell? ⟨w.heap.size+1,5,none⟩=some (.int .i64 0)∧V.cell? ⟨w.heap.size+1,6,none⟩=some (.slice none 0 0)∧V.cell? ⟨w.heap.size+1,7,none⟩=some (.slice none 0 0))∧V.cell? ⟨b7+1,0,none⟩=some (.slice A6 t.rest.length c6)∧V.cell? ⟨b7+1,1,none⟩=some (.int .i64 t.err))):=fun V h=>⟨⟨h.k.y.cell 0,h.k.y.cell 1,h.k.y.cell 2,h.k.y.cell 3,h.k.y.cell 4,h.k.y.cell 5,h.k.y.cell 6,h.k.y.cell 7⟩,h.r.cell 0,h.r.cell 1⟩
  refine wp_region_held_drew (S:=fun w'=>((w'.cell? ⟨w.heap.size+1,0,none⟩=some (.int .i64 0)∧w'.cell? ⟨w.heap.size+1,1,none⟩=some (.int .i64 0)∧w'.cell? ⟨w.heap.size+1,2,none⟩=some (.slice none 0 0)∧w'.cell? ⟨w.heap.size+1,3,none⟩=some (.int .i64 0)∧w'.cell? ⟨w.heap.size+1,4,none⟩=some (.int .i64 0)∧w'.cell? ⟨w.heap.size+1,5,none⟩=some (.int .i64 0)∧w'.cell? ⟨w.heap.size+1,6,none⟩=some (.slice none 0 0)∧w'.cell? ⟨w.heap.size+1,7,none⟩=some (.slice none 0 0))∧w'.cell? ⟨b7+1,0,none⟩=some (.slice A6 t.rest.length c6)∧w'.cell? ⟨b7+1,1,none⟩=some (.int .i64 t.err))) (by kernel_rfl) (HS9.out _ HE8.out.drew) (fun hHeld=> ?_)
  have HV0:=qH HE8.out.drew
  clear HE8
  generalize hVV:W8.drew=V0 at*
  clear hVV
  refine ze 0 61 (.agg #[.int .i64 0,.int .i64 0,.slice none 0 0,.int .i64 0,.int .i64 0,.int .i64 0,.slice none 0 0,.slice none 0 0]) rfl rfl (by kernel_rfl) (by kernel_rfl) (by kernel_rfl) (fun _ _ _ h=>h) (Or.inl ⟨by rfl,?_⟩) hHeld ?_
  ·intro w9 hSw
   (try dsimp only at hSw)
   go_simp
  (try simp only [Act.put,lh,li,lj])
  refine ze 1 62 (.agg #[.slice A6 t.rest.length c6,.int .i64 t.err]) rfl rfl (by kernel_rfl) (by kernel_rfl) (by kernel_rfl) (fun _ _ _ h=>h) (Or.inl ⟨by rfl,?_⟩) hHeld ?_
  ·intro w9 hSw
   (try dsimp only at hSw)
   go_simp
  (try simp only [Act.put,lh,li,lj])
  refine wpAnyH_ready (rs:= [2]) (by kernel_rfl) (by simp) ?_
  refine AllReadyH.cons rfl (fun K hK=> ?_) lq
  go_simp
  refine (KE.out V0 HV0.out).mono ?_
  rintro e V1 ⟨rfl,hV,_⟩
  (try go_wp2_with fail)
  have HV1:=qH hV
  refine hK.out _ _ (HS9.out _ hV) (fun hHeld=> ?_)
  clear hK K hV
  refine wpAnyH_ready (rs:= [3]) (by kernel_rfl) (by simp) ?_
  refine AllReadyH.cons rfl (fun K hK=> ?_) lq
  obtain ⟨y0,y1,y2,y3,y4,y5,y6,y7,z0,z1,z2,z3,z4,z5,z6,z7,q0,q1,q2,q3,q4,q5,q6,q7⟩:=HV1.out.k.cells
  have HV2:=qH HV1.out.putz
  go_simp
  refine hK.out _ _ (HS9.out _ HV2.out) (fun hHeld=> ?_)
  clear hK K y0 y1 y2 y3 y4 y5 y6 y7 z0 z1 z2 z3 z4 z5 z6 z7 q0 q1 q2 q3 q4 q5 q6 q7 HV1
  generalize ((((((((V1.setCell ⟨w.heap.size,0,none⟩ (.int .i64 0)).setCell ⟨w.heap.size,1,none⟩ (.int .i64 0)).setCell ⟨w.heap.size,2,none⟩ (.slice none 0 0)).setCell ⟨w.heap.size,3,none⟩ (.int .i64 0)).setCell ⟨w.heap.size,4,none⟩ (.int .i64 0)).setCell ⟨w.heap.size,5,none⟩ (.int .i64 0)).setCell ⟨w.heap.size,6,none⟩ (.slice none 0 0)).setCell ⟨w.heap.size,7,none⟩ (.slice none 0 0))=V2 at*
  refine ze 4 3 (.int .i64 ex) rfl rfl (by kernel_rfl) (by kernel_rfl) (by kernel_rfl) (fun _ _ _ h=>h) (Or.inl ⟨by rfl,?_⟩) hHeld ?_
  ·intro w9 hSw
   (try dsimp only at hSw)
   go_simp
  (try simp only [Act.put,lh,li,lj])
  refine wpAnyH_done (by kernel_rfl) ?_ _
  clear hHeld
  go_wp2
  (try simp only [Exit.inBlock,Exit.then])
  refine bodyPost_ret (v:= .tuple #[.agg #[.int .i64 0,.int .i64 0,.slice none 0 0,.int .i64 0,.int .i64 0,.int .i64 0,.slice none 0 0,.slice none 0 0],.int .i64 ex]) ?_ rfl (by rw [HDE.out];exact DecP.bad HV2.out.k.blw _)
  exact zS rfl _ _ w.heap.size 31 #[.int .i64 0,.int .i64 0,.slice none 0 0,.int .i64 0,.int .i64 0,.int .i64 0,.slice none 0 0,.slice none 0 0] (0,0) _ rfl rfl HV2.out.k.z Tryz.underlying31 rfl (by kernel_rfl)
 have dx:(ex !=0)=false:=by simp;omega
 have HD3:Hid (yD l=Ul f p1 p2):=by show _=_;rw [HD2.out,if_neg hex]
 have H8:=qH HE8.out.k
 have HFB:=qH (HFF.out (by omega))
 have HLO8:Hid (w.heap.size+1<b7):=HLP.out
 clear hex HD2 HE8 KE HFF
 obtain ⟨⟨g0,g1,g2⟩,t0,t1,t2⟩:=HPT.out _ HB8.out
 have hbv8:bv<W8.heap.size:=lB hbv HB8.out.size
 go_wp2_with (at_builtin;refine zv _ rfl (.tmp 65) (.tmp 68) 22 rfl W8.heap.size 5 i0 (.int .u8 0) 1 Tryz.underlying22 hi hz0 hz1 hz2 rfl _ _ _ rfl (World.ownsRow_made W8 #[] 0 (la _) (by decide) rfl) W8.heap.size _ _ _ (bts p1) rfl ((t1.more HB8.out.size).alloc (la _) _) (zg _) (ye _) ?c1 ?c2 ?c3 ?_)
 case c1=>unfold maxLen;omega
 case c2=>omega
 case c3=>simp
 intro va W15 ho5 hg5
 have hb5:Below W8.heap.size W8 W15:=((ld _ _).alloc (la _) _).grown hg5 (by simp) (fun k hk=>by simp [Value.ownBlock] at hk;omega)
 obtain ⟨A15,c15,rfl,hc5a,hc5b⟩:=yi ho5 (zg _)
 have hiv:IpV W15 W15.heap.size A15 c15 ⟨p1,0⟩:=⟨Sees.of_own ho5,hc5a,hc5b,hpb.2.1,by show p1.length≤100000;omega⟩
 have C3:Hid (Calls Tryz.prog 38 #[.agg #[.slice A15 p1.length c15,.int .i64 0]] W15 (RQG W15 W15.heap.size (zq ⟨p1,0⟩).1 (zq ⟨p1,0⟩).2)):=zab hiv (la _)
 have HD4:Hid (yD l=if yC (zq ⟨p1,0⟩).2≠0 then (zCt,yC (zq ⟨p1,0⟩).2) else if f.bs.length≠(zq ⟨p1,0⟩).1.ms.length∨f.args≠(zq ⟨p1,0⟩).1.args then (zCt,14) else Yh f (zq ⟨p1,0⟩).1 p2):=HD3.out
 have HGG:Hid (yC (zq ⟨p1,0⟩).2=0→(zq ⟨p1,0⟩).1.regs≤1048576∧(zq ⟨p1,0⟩).1.slots≤1048576):=zho hpb.2.1
 generalize (zq ⟨p1,0⟩).1=g at*
 generalize (zq ⟨p1,0⟩).2=u at*
 have HB15:=qH (HB8.out.trans (hb5.mono HB8.out.size))
 have H15:=qH (H8.out.next hb5)
 have R15:=qH (R9.out.below hb5 R9.out.lt)
 have HN15:=qH (HN8.out.below hb5)
 clear ho5 hg5 hiv HD3 HB8 H8 R9 HN8 hc5a hc5b hb5 g0 g1 g2 t0 t1 t2
 go_wp2_with fail
 refine C3.out.mono ?_
 rintro e W16 ⟨v,vs16,A16,c16,rfl,hn,hip,hb⟩
 obtain ⟨Ag,cg,rfl,_,_⟩:=zh hn.outer
 rw [hn.len] at hn⊢
 clear C3
 have hal:=(ld W16.heap.size W16).alloc (la _) (.cells #[.int .i64 g.args,.int .i64 g.regs,.int .i64 g.slots,.slice Ag g.ms.length cg] 28)
 have hal2:=hal.alloc hal.size (.cells #[.slice A16 u.rest.length c16,.int .i64 u.err] 88)
 have R17:=qH ((Row.new W16 28 #[.int .i64 g.args,.int .i64 g.regs,.int .i64 g.slots,.slice Ag g.ms.length cg]).alloc (.cells #[.slice A16 u.rest.length c16,.int .i64 u.err] 88))
 have R18:=qH (Row.new' (W:=W16.alloc (.cells #[.int .i64 g.args,.int .i64 g.regs,.int .i64 g.slots,.slice Ag g.ms.length cg] 28)) (p:=W16.heap.size+1) (by simp) 88 #[.slice A16 u.rest.length c16,.int .i64 u.err])
 have hb9:=hb.trans (hal2.mono hb.size)
 have H17:=qH (H15.out.next hb9)
 have HB17:=qH (HB15.out.trans (hb9.mono HB15.out.size))
 have R27:=qH (R15.out.below hb9 R15.out.lt)
 have HN17:=qH (HN15.out.below hb9)
 have HG17:=qH ((hn.below hal2).rebase (lf H15.out.blw.size (la _)))
 have hul:=hip.sm
 have HLO17:Hid (w.heap.size+1<W16.heap.size+1):=by have h8:=H15.out.y.lt;have h9:=hb.size;show _<_;omega
 have HLT17:Hid (b7<W16.heap.size):=lB R15.out.lt hb.size
 clear hn hip hb hal hal2 hb9 HB15 H15 R15 HN15
 go_upto_region 17 with fail
 generalize ((W16.alloc (.cells #[.int .i64 g.args,.int .i64 g.regs,.int .i64 g.slots,.slice Ag g.ms.length cg] 28)).alloc (.cells #[.slice A16 u.rest.length c16,.int .i64 u.err] 88))=W17 at*
 generalize W16.heap.size=b17 at*
 have HE17:Hid (RDE w (some ⟨b,o,none⟩) l (b17+1) (.slice A16 u.rest.length c16) u.err W17):=⟨H17.out,R18.out,HLO17.out⟩
 obtain ⟨ex,hex⟩:∃y,y=yC u:=⟨_,rfl⟩
 rw [←hex] at HD4 HGG
 have KE:Hid (∀W,RDE w (some ⟨b,o,none⟩) l (b17+1) (.slice A16 u.rest.length c16) u.err W→Calls Tryz.prog 37 #[.agg #[.slice A16 u.rest.length c16,.int .i64 u.err]] W fun e W'=>e= .returned (.int .i64 ex)∧RDE w (some ⟨b,o,none⟩) l (b17+1) (.slice A16 u.rest.length c16) u.err W'∧Below W.heap.size W W'):=fun W h=>(Yo W A16 u.rest.length c16 u.err (by omega)).mono (by
  rintro e W' ⟨rfl,hb⟩
  exact ⟨by rw [hex];rfl,h.next hb,hb⟩)
 clear hex
 have g0:=R18.out.k0;have g1:=R18.out.k1
 go_wp2_with fail
 refine (KE.out _ HE17.out).mono ?_
 rintro e W18 ⟨rfl,he8,hb8⟩
 have HE18:=qH he8
 have HB18:=qH (HB17.out.trans (hb8.mono HB17.out.size))
 have R28:=qH (R27.out.below hb8 R27.out.lt)
 have R29:=qH (R17.out.below hb8 R17.out.lt)
 have HN18:=qH (HN17.out.below hb8)
 have HG18:=qH (HG17.out.below hb8)
 clear he8 hb8 g0 g1 HE17 HB17 H17 R17 R18 R27 HN17 HG17
 by_cases hex:ex≠0
 ·have dx2:(ex !=0)=true:=by simp [hex]
  have HDE:Hid (yD l=(zCt,ex)):=by show yD l=_;rw [HD4.out,if_pos hex]
  clear hex HD4 HN18 HG18 R28 R29 HPT
  go_wp2_with fail
  have HS9:Hid (∀V,RDE w (some ⟨b,o,none⟩) l (b17+1) (.slice A16 u.rest.length c16) u.err V→((V.cell? ⟨w.heap.size+1,0,none⟩=some (.int .i64 0)∧V.cell? ⟨w.heap.size+1,1,none⟩=some (.int .i64 0)∧V.cell? ⟨w.heap.size+1,2,none⟩=some (.slice none 0 0)∧V.cell? ⟨w.heap.size+1,3,none⟩=some (.int .i64 0)∧V.cell? ⟨w.heap.size+1,4,none⟩=some (.int .i64 0)∧V.cell? ⟨w.heap.size+1,5,none⟩=some (.int .i64 0)∧V.cell? ⟨w.heap.size+1,6,none⟩=some (.slice none 0 0)∧V.cell? ⟨w.heap.size+1,7,none⟩=some (.slice none 0 0))∧V.cell? ⟨b17+1,0,none⟩=some (.slice A16 u.rest.length c16)∧V.cell? ⟨b17+1,1,none⟩=some (.int .i64 u.err))):=fun V h=>⟨⟨h.k.y.cell 0,h.k.y.cell 1,h.k.y.cell 2,h.k.y.cell 3,h.k.y.cell 4,h.k.y.cell 5,h.k.y.cell 6,h.k.y.cell 7⟩,h.r.cell 0,h.r.cell 1⟩
  refine wp_region_held_drew (S:=fun w'=>((w'.cell? ⟨w.heap.size+1,0,none⟩=some (.int .i64 0)∧w'.cell? ⟨w.heap.size+1,1,none⟩=some (.int .i64 0)∧w'.cell? ⟨w.heap.size+1,2,none⟩=some (.slice none 0 0)∧w'.cell? ⟨w.heap.size+1,3,none⟩=some (.int .i64 0)∧w'.cell? ⟨w.heap.size+1,4,none⟩=some (.int .i64 0)∧w'.cell? ⟨w.heap.size+1,5,none⟩=some (.int .i64 0)∧w'.cell? ⟨w.heap.size+1,6,none⟩=some (.slice none 0 0)∧w'.cell? ⟨w.heap.size+1,7,none⟩=some (.slice none 0 0))∧w'.cell? ⟨b17+1,0,none⟩=some (.slice A16 u.rest.length c16)∧w'.cell? ⟨b17+1,1,none⟩=some (.int .i64 u.err))) (by kernel_rfl) (HS9.out _ HE18.out.drew) (fun hHeld=> ?_)
  have HV0:=qH HE18.out.drew
  clear HE18
  generalize hVV:W18.drew=V0 at*
  clear hVV
  refine ze 0 77 (.agg #[.int .i64 0,.int .i64 0,.slice none 0 0,.int .i64 0,.int .i64 0,.int .i64 0,.slice none 0 0,.slice none 0 0]) rfl rfl (by kernel_rfl) (by kernel_rfl) (by kernel_rfl) (fun _ _ _ h=>h) (Or.inl ⟨by rfl,?_⟩) hHeld ?_
  ·intro w9 hSw
   (try dsimp only at hSw)
   go_simp
  (try simp only [Act.put,lh,li,lj])
  refine ze 1 78 (.agg #[.slice A16 u.rest.length c16,.int .i64 u.err]) rfl rfl (by kernel_rfl) (by kernel_rfl) (by kernel_rfl) (fun _ _ _ h=>h) (Or.inl ⟨by rfl,?_⟩) hHeld ?_
  ·intro w9 hSw
   (try dsimp only at hSw)
   go_simp
  (try simp only [Act.put,lh,li,lj])
  refine wpAnyH_ready (rs:= [2]) (by kernel_rfl) (by simp) ?_
  refine AllReadyH.cons rfl (fun K hK=> ?_) lq
  go_simp
  refine (KE.out V0 HV0.out).mono ?_
  rintro e V1 ⟨rfl,hV,_⟩
  (try go_wp2_with fail)
  have HV1:=qH hV
  refine hK.out _ _ (HS9.out _ hV) (fun hHeld=> ?_)
  clear hK K hV
  refine wpAnyH_ready (rs:= [3]) (by kernel_rfl) (by simp) ?_
  refine AllReadyH.cons rfl (fun K hK=> ?_) lq
  obtain ⟨y0,y1,y2,y3,y4,y5,y6,y7,z0,z1,z2,z3,z4,z5,z6,z7,q0,q1,q2,q3,q4,q5,q6,q7⟩:=HV1.out.k.cells
  have HV2:=qH HV1.out.putz
  go_simp
  refine hK.out _ _ (HS9.out _ HV2.out) (fun hHeld=> ?_)
  clear hK K y0 y1 y2 y3 y4 y5 y6 y7 z0 z1 z2 z3 z4 z5 z6 z7 q0 q1 q2 q3 q4 q5 q6 q7 HV1
  generalize ((((((((V1.setCell ⟨w.heap.size,0,none⟩ (.int .i64 0)).setCell ⟨w.heap.size,1,none⟩ (.int .i64 0)).setCell ⟨w.heap.size,2,none⟩ (.slice none 0 0)).setCell ⟨w.heap.size,3,none⟩ (.int .i64 0)).setCell ⟨w.heap.size,4,none⟩ (.int .i64 0)).setCell ⟨w.heap.size,5,none⟩ (.int .i64 0)).setCell ⟨w.heap.size,6,none⟩ (.slice none 0 0)).setCell ⟨w.heap.size,7,none⟩ (.slice none 0 0))=V2 at*
  refine ze 4 3 (.int .i64 ex) rfl rfl (by kernel_rfl) (by kernel_rfl) (by kernel_rfl) (fun _ _ _ h=>h) (Or.inl ⟨by rfl,?_⟩) hHeld ?_
  ·intro w9 hSw
   (try dsimp only at hSw)
   go_simp
  (try simp only [Act.put,lh,li,lj])
  refine wpAnyH_done (by kernel_rfl) ?_ _
  clear hHeld
  go_wp2
  (try simp only [Exit.inBlock,Exit.then])
  refine bodyPost_ret (v:= .tuple #[.agg #[.int .i64 0,.int .i64 0,.slice none 0 0,.int .i64 0,.int .i64 0,.int .i64 0,.slice none 0 0,.slice none 0 0],.int .i64 ex]) ?_ rfl (by rw [HDE.out];exact DecP.bad HV2.out.k.blw _)
  exact zS rfl _ _ w.heap.size 31 #[.int .i64 0,.int .i64 0,.slice none 0 0,.int .i64 0,.int .i64 0,.int .i64 0,.slice none 0 0,.slice none 0 0] (0,0) _ rfl rfl HV2.out.k.z Tryz.underlying31 rfl (by kernel_rfl)
 have dx2:(ex !=0)=false:=by simp;omega
 have HD5:Hid (yD l=if f.bs.length≠g.ms.length∨f.args≠g.args then (zCt,14) else Yh f g p2):=by show _=_;rw [HD4.out,if_neg hex]
 have HGB:=qH (HGG.out (by omega))
 have H18:=qH HE18.out.k
 clear hex HD4 HE18 KE HGG
 have f0:=R28.out.k0;have f2:=R28.out.k2;have m0:=R29.out.k0;have m3:=R29.out.k3
 by_cases hc1:f.bs.length≠g.ms.length
 ·have d6:((f.bs.length:Int) !=(g.ms.length:Int))=true:=by simp;omega
  have HDD:Hid (yD l=(zCt,14)):=by show _=_;rw [HD5.out,if_pos (.inl hc1)]
  clear hc1 HD5 HN18 HG18 HPT
  obtain ⟨y0,y1,y2,y3,y4,y5,y6,y7,z0,z1,z2,z3,z4,z5,z6,z7,q0,q1,q2,q3,q4,q5,q6,q7⟩:=H18.out.cells
  have HRP:=qH (H18.out.put (.int .i64 0) (.int .i64 0) (.slice none 0 0) (.int .i64 0) (.int .i64 0) (.int .i64 0) (.slice none 0 0) (.slice none 0 0))
  have HDE:Hid (yD l=(zCt,14)):=HDD.out
  unfold Proofs.YtnifhpbgmjcndaaGreat.put8c at HRP
  go_wp2
  (try simp only [Exit.inBlock,Exit.then])
  refine bodyPost_ret (v:= .tuple #[.agg #[.int .i64 0,.int .i64 0,.slice none 0 0,.int .i64 0,.int .i64 0,.int .i64 0,.slice none 0 0,.slice none 0 0],.int .i64 14]) ?_ rfl (by rw [HDE.out];exact DecP.bad HRP.out.2 _)
  exact zS rfl _ _ w.heap.size 31 #[.int .i64 0,.int .i64 0,.slice none 0 0,.int .i64 0,.int .i64 0,.int .i64 0,.slice none 0 0,.slice none 0 0] (0,0) _ rfl rfl HRP.out.1 Tryz.underlying31 rfl (by kernel_rfl)
 have hc1:f.bs.length=g.ms.length:=by omega
 have d6:((f.bs.length:Int) !=(g.ms.length:Int))=false:=by simp [hc1]
 by_cases hc2:f.args≠g.args
 ·have d7:(f.args !=g.args)=true:=by simp [hc2]
  have HDD:Hid (yD l=(zCt,14)):=by show _=_;rw [HD5.out,if_pos (.inr hc2)]
  clear hc1 hc2 HD5 HN18 HG18 HPT
  obtain ⟨y0,y1,y2,y3,y4,y5,y6,y7,z0,z1,z2,z3,z4,z5,z6,z7,q0,q1,q2,q3,q4,q5,q6,q7⟩:=H18.out.cells
  have HRP:=qH (H18.out.put (.int .i64 0) (.int .i64 0) (.slice none 0 0) (.int .i64 0) (.int .i64 0) (.int .i64 0) (.slice none 0 0) (.slice none 0 0))
  have HDE:Hid (yD l=(zCt,14)):=HDD.out
  unfold Proofs.YtnifhpbgmjcndaaGreat.put8c at HRP
  go_wp2
  (try simp only [Exit.inBlock,Exit.then])
  refine bodyPost_ret (v:= .tuple #[.agg #[.int .i64 0,.int .i64 0,.slice none 0 0,.int .i64 0,.int .i64 0,.int .i64 0,.slice none 0 0,.slice none 0 0],.int .i64 14]) ?_ rfl (by rw [HDE.out];exact DecP.bad HRP.out.2 _)
  exact zS rfl _ _ w.heap.size 31 #[.int .i64 0,.int .i64 0,.slice none 0 0,.int .i64 0,.int .i64 0,.int .i64 0,.slice none 0 0,.slice none 0 0] (0,0) _ rfl rfl HRP.out.1 Tryz.underlying31 rfl (by kernel_rfl)
 have hc2:f.args=g.args:=by omega
 have d7:(f.args !=g.args)=false:=by simp [hc2]
 have HD6:Hid (yD l=Yh f g p2):=by show _=_;rw [HD5.out,if_neg (by intro h9;rcases h9 with h9|h9<;>omega)]
 have HC1:=qH hc1
 have HC2:=qH hc2
 clear hc1 hc2 HD5
 go_upto_region 21 with fail
 clear f0 f2 m0 m3
 have hbv18:bv<W18.heap.size:=lB hbv HB18.out.size
 have HS9:Hid (∀V,Below W18.heap.size W18 V→V.cell? ⟨bv,ov+2,none⟩=some (.slice A3 p2.length k3)∧(V.cell? ⟨b7,1,none⟩=some (.int .i64 f.regs)∧V.cell? ⟨b7,2,none⟩=some (.slice Af f.bs.length cf))∧V.cell? ⟨b17,1,none⟩=some (.int .i64 g.regs)∧V.cell? ⟨b17,2,none⟩=some (.int .i64 g.slots)):=fun V h=>
  ⟨(h.cell (p:=⟨bv,ov+2,none⟩) hbv18).trans (HPT.out _ HB18.out).1.2.2,⟨(h.cell (p:=⟨b7,1,none⟩) R28.out.lt).trans (R28.out.cell 1),(h.cell (p:=⟨b7,2,none⟩) R28.out.lt).trans (R28.out.cell 2)⟩,(h.cell (p:=⟨b17,1,none⟩) R29.out.lt).trans (R29.out.cell 1),(h.cell (p:=⟨b17,2,none⟩) R29.out.lt).trans (R29.out.cell 2)⟩
 obtain ⟨⟨ws,z⟩,hwz⟩:∃y,yA f.regs g.regs g.slots f.bs.length ⟨p2,0⟩=y:=⟨_,rfl⟩
 have KG:Hid (∀V A25 c25,IpV V V.heap.size A25 c25 ⟨p2,0⟩→Calls Tryz.prog 39 #[.agg #[.slice A25 p2.length c25,.int .i64 0],.int .i64 (f.bs.length:Int),.int .i64 f.regs,.int .i64 g.regs,.int .i64 g.slots] V (RGW V V.heap.size ws z)):=fun V A25 c25 h=>by
  have h9:=zcE (m:=(f.bs.length:Int)) (vr:=f.regs) (r:=g.regs) (n:=g.slots) h (la _) ⟨by omega,by have:=HFB.out;omega⟩ ⟨HFB.out.2.1,by have:=HFB.out;omega⟩ (by have:=HGB.out;omega) (by have:=HGB.out;omega)
  rw [Int.toNat_natCast,hwz] at h9
  exact h9
 have HWZ:=qH hwz
 have hbl9:f.bs.length≤90000:=HFB.out.1
 clear hwz
 go_cut [11,12] from 13 (fun s11 s12 wx=>∃Aw cw bz Az cz,s11= .slice Aw ws.length cw∧s12= .pointer (some ⟨bz,0,none⟩)∧W18.heap.size≤bz∧z.rest.length≤100000∧Hid (Below W18.heap.size W18 wx)∧Hid (Row wx bz 88 #[.slice Az z.rest.length cz,.int .i64 z.err])∧∃vsw,Hid (NestV Jn wx W18.heap.size (.slice Aw ws.length cw) vsw ws))
 case first=>
  clear HN18 HG18 HD6 HWZ H18
  go_wp2_with fail
  refine wp_region_held_drew (S:=fun w'=>w'.cell? ⟨bv,ov+2,none⟩=some (.slice A3 p2.length k3)∧(w'.cell? ⟨b7,1,none⟩=some (.int .i64 f.regs)∧w'.cell? ⟨b7,2,none⟩=some (.slice Af f.bs.length cf))∧w'.cell? ⟨b17,1,none⟩=some (.int .i64 g.regs)∧w'.cell? ⟨b17,2,none⟩=some (.int .i64 g.slots)) (by kernel_rfl) (HS9.out _ (ld _ _).drew) (fun hHeld=> ?_)
  have HB0:Hid (Below W18.heap.size W18 W18.drew):=(ld _ _).drew
  generalize hVV:W18.drew=V0 at*
  clear hVV
  refine ze 1 97 (.slice (some ⟨bv,ov,none⟩) 3 cv) rfl rfl (by kernel_rfl) (by kernel_rfl) (by kernel_rfl) (fun _ _ _ h=>h) (Or.inl ⟨by rfl,?_⟩) hHeld ?_
  ·intro w9 hSw
   (try dsimp only at hSw)
   go_simp
  (try simp only [Act.put,lh,li,lj])
  refine ze 2 98 (.pointer (some ⟨bv,ov+2,none⟩)) rfl rfl (by kernel_rfl) (by kernel_rfl) (by kernel_rfl) (fun _ _ _ h=>h) (Or.inl ⟨by rfl,?_⟩) hHeld ?_
  ·intro w9 hSw
   (try dsimp only at hSw)
   go_simp
  (try simp only [Act.put,lh,li,lj])
  refine ze 3 99 (.slice A3 p2.length k3) rfl rfl (by kernel_rfl) (by kernel_rfl) (by kernel_rfl) (fun _ _ _ h=>h) (Or.inl ⟨by rfl,?_⟩) hHeld ?_
  ·intro w9 hSw
   (try dsimp only at hSw)
   go_simp
  (try simp only [Act.put,lh,li,lj])
  refine ze 6 102 (.pointer (some ⟨b7,2,none⟩)) rfl rfl (by kernel_rfl) (by kernel_rfl) (by kernel_rfl) (fun _ _ _ h=>h) (Or.inl ⟨by rfl,?_⟩) hHeld ?_
  ·intro w9 hSw
   (try dsimp only at hSw)
   go_simp
  (try simp only [Act.put,lh,li,lj])
  refine ze 7 103 (.slice Af f.bs.length cf) rfl rfl (by kernel_rfl) (by kernel_rfl) (by kernel_rfl) (fun _ _ _ h=>h) (Or.inl ⟨by rfl,?_⟩) hHeld ?_
  ·intro w9 hSw
   (try dsimp only at hSw)
   go_simp
  (try simp only [Act.put,lh,li,lj])
  refine ze 8 104 (.int .i64 (f.bs.length:Int)) rfl rfl (by kernel_rfl) (by kernel_rfl) (by kernel_rfl) (fun _ _ _ h=>h) (Or.inl ⟨by rfl,?_⟩) hHeld ?_
  ·intro w9 hSw
   (try dsimp only at hSw)
   go_simp
  (try simp only [Act.put,lh,li,lj])
  refine ze 9 105 (.pointer (some ⟨b7,1,none⟩)) rfl rfl (by kernel_rfl) (by kernel_rfl) (by kernel_rfl) (fun _ _ _ h=>h) (Or.inl ⟨by rfl,?_⟩) hHeld ?_
  ·intro w9 hSw
   (try dsimp only at hSw)
   go_simp
  (try simp only [Act.put,lh,li,lj])
  refine ze 10 106 (.int .i64 f.regs) rfl rfl (by kernel_rfl) (by kernel_rfl) (by kernel_rfl) (fun _ _ _ h=>h) (Or.inl ⟨by rfl,?_⟩) hHeld ?_
  ·intro w9 hSw
   (try dsimp only at hSw)
   go_simp
  (try simp only [Act.put,lh,li,lj])
  refine ze 11 107 (.pointer (some ⟨b17,1,none⟩)) rfl rfl (by kernel_rfl) (by kernel_rfl) (by kernel_rfl) (fun _ _ _ h=>h) (Or.inl ⟨by rfl,?_⟩) hHeld ?_
  ·intro w9 hSw
   (try dsimp only at hSw)
   go_simp
  (try simp only [Act.put,lh,li,lj])
  refine ze 12 108 (.int .i64 g.regs) rfl rfl (by kernel_rfl) (by kernel_rfl) (by kernel_rfl) (fun _ _ _ h=>h) (Or.inl ⟨by rfl,?_⟩) hHeld ?_
  ·intro w9 hSw
   (try dsimp only at hSw)
   go_simp
  (try simp only [Act.put,lh,li,lj])
  refine ze 13 109 (.pointer (some ⟨b17,2,none⟩)) rfl rfl (by kernel_rfl) (by kernel_rfl) (by kernel_rfl) (fun _ _ _ h=>h) (Or.inl ⟨by rfl,?_⟩) hHeld ?_
  ·intro w9 hSw
   (try dsimp only at hSw)
   go_simp
  (try simp only [Act.put,lh,li,lj])
  refine ze 14 110 (.int .i64 g.slots) rfl rfl (by kernel_rfl) (by kernel_rfl) (by kernel_rfl) (fun _ _ _ h=>h) (Or.inl ⟨by rfl,?_⟩) hHeld ?_
  ·intro w9 hSw
   (try dsimp only at hSw)
   go_simp
  (try simp only [Act.put,lh,li,lj])
  refine wpAnyH_ready (rs:= [0,19]) (by kernel_rfl) (by simp) ?_
  refine AllReadyH.cons rfl (fun K hK=> ?_) ?_
  ·go_simp
   have HO:=qH (Qo V0 5 1)
   have HEB:Hid (W18.heap.size≤V0.heap.size):=HB0.out.size
   have HB1:=qH (HB0.out.alloc HB0.out.size (.cells #[] 5))
   refine hK.out _ _ (HS9.out _ HB1.out) (fun hHeld=> ?_)
   clear hK K
   generalize V0.heap.size=eb at*
   generalize V0.alloc (.cells #[] 5)=V1 at*
   refine wpAnyH_ready (rs:= [4,19]) (by kernel_rfl) (by simp) ?_
   refine AllReadyH.cons rfl (fun K hK=> ?_) ?_
   ·refine yt _ rfl (.tmp 96) (.tmp 99) 22 rfl eb 5 i0 (.int .u8 0) 1 1 Tryz.underlying22 hi hz0 hz1 hz2 rfl (by decide) (.slice (some ⟨eb,0,none⟩) 0 0) 0 [] rfl HO.out W1.heap.size A3 p2.length k3 (bts p2) rfl (HPT.out _ (HB18.out.trans (HB1.out.mono HB18.out.size))).2.2.2 (by rw [zg,Nat.mul_one]) (ye _) (by unfold maxLen;omega) (by omega) (by have:=(jr HO.out eb rfl).2;omega) ?_
    intro va V2 ho hg _
    (try simp only [Act.put,lv,lw,lx,lh,lj,li])
    have hb9:=HB1.out.grown hg HB1.out.size (fun k hk=>by simp [Value.ownBlock] at hk;subst hk;exact HEB.out)
    have HB2:=qH hb9
    replace ho:V2.ownsRow eb 5 1 va p2.length (bts p2):=by simpa using ho
    obtain ⟨A25,c25,rfl,hc5a,hc5b⟩:=yi ho (zg _)
    have HI:Hid (IpV V2 V2.heap.size A25 c25 ⟨p2,0⟩):=⟨Sees.of_own ho,hc5a,hc5b,hpb.2.2,by show p2.length≤100000;omega⟩
    clear ho hg hb9 hc5a hc5b HO
    refine hK.out _ _ (HS9.out _ HB2.out) (fun hHeld=> ?_)
    clear hK K
    refine ze 5 101 (.agg #[.slice A25 p2.length c25,.int .i64 0]) rfl rfl (by kernel_rfl) (by kernel_rfl) (by kernel_rfl) (fun _ _ _ h=>h) (Or.inl ⟨by rfl,?_⟩) hHeld ?_
    ·intro w9 hSw
     (try dsimp only at hSw)
     go_simp
    (try simp only [Act.put,lh,li,lj])
    refine wpAnyH_ready (rs:= [15,19]) (by kernel_rfl) (by simp) ?_
    refine AllReadyH.cons rfl (fun K hK=> ?_) ?_
    ·go_simp
     refine (KG.out V2 A25 c25 HI.out).mono ?_
     rintro e V3 ⟨v,vsw,Az,cz,rfl,hn,hip,hb⟩
     (try go_wp2_with fail)
     obtain ⟨Aw,cw,rfl,_,_⟩:=zh hn.outer
     rw [hn.len] at hn⊢
     have HW:=qH (hn.rebase HB2.out.size)
     have HB3:=qH (HB2.out.trans (hb.mono HB2.out.size))
     have HZL:=qH hip.sm
     clear hn hip hb HI
     refine hK.out _ _ (HS9.out _ HB3.out) (fun hHeld=> ?_)
     clear hK K
     refine ze 16 95 (.tuple #[.slice Aw ws.length cw,.agg #[.slice Az z.rest.length cz,.int .i64 z.err]]) rfl rfl (by kernel_rfl) (by kernel_rfl) (by kernel_rfl) (fun _ _ _ h=>h) (Or.inl ⟨by rfl,?_⟩) hHeld ?_
     ·intro w9 hSw
      (try dsimp only at hSw)
      go_simp
     (try simp only [Act.put,lh,li,lj])
     refine ze 17 112 (.slice Aw ws.length cw) rfl rfl (by kernel_rfl) (by kernel_rfl) (by kernel_rfl) (fun _ _ _ h=>h) (Or.inl ⟨by rfl,?_⟩) hHeld ?_
     ·intro w9 hSw
      (try dsimp only at hSw)
      go_simp
     (try simp only [Act.put,lh,li,lj])
     refine ze 18 113 (.agg #[.slice Az z.rest.length cz,.int .i64 z.err]) rfl rfl (by kernel_rfl) (by kernel_rfl) (by kernel_rfl) (fun _ _ _ h=>h) (Or.inl ⟨by rfl,?_⟩) hHeld ?_
     ·intro w9 hSw
      (try dsimp only at hSw)
      go_simp
     (try simp only [Act.put,lh,li,lj])
     refine wpAnyH_ready (rs:= [19]) (by kernel_rfl) (by simp) ?_
     refine AllReadyH.cons rfl (fun K hK=> ?_) lq
     go_simp
     have HRO:=qH (Row.new V3 88 #[.slice none 0 0,.int .i64 0])
     have HBZ:Hid (W18.heap.size≤V3.heap.size):=HB3.out.size
     have hal:=(ld V3.heap.size V3).alloc (la _) (.cells #[.slice none 0 0,.int .i64 0] 88)
     have HB4:=qH (HB3.out.alloc HB3.out.size (.cells #[.slice none 0 0,.int .i64 0] 88))
     have HW2:=qH (HW.out.below hal)
     clear HW
     have HW:=HW2
     clear HW2
     refine hK.out _ _ (HS9.out _ HB4.out) (fun hHeld=> ?_)
     clear hK K
     clear hal
     generalize V3.heap.size=bz at*
     generalize V3.alloc (.cells #[.slice none 0 0,.int .i64 0] 88)=V4 at*
     refine ze 20 11 (.slice Aw ws.length cw) rfl rfl (by kernel_rfl) (by kernel_rfl) (by kernel_rfl) (fun _ _ _ h=>h) (Or.inl ⟨by rfl,?_⟩) hHeld ?_
     ·intro w9 hSw
      (try dsimp only at hSw)
      go_simp
     (try simp only [Act.put,lh,li,lj])
     refine wpAnyH_ready (rs:= [21]) (by kernel_rfl) (by simp) ?_
     refine AllReadyH.cons rfl (fun K hK=> ?_) lq
     have f0:=HRO.out.k0;have f1:=HRO.out.k1
     have g0:=HRO.out.frozen 0;have g1:=HRO.out.frozen 1
     have hm9:Mods (Is bz) V4 ((V4.setCell ⟨bz,0,none⟩ (.slice Az z.rest.length cz)).setCell ⟨bz,1,none⟩ (.int .i64 z.err)):=((Mods.refl _ _).put 0 _).put 1 _
     have HB9:=qH (HB4.out.trans (hm9.below HB4.out.size fun k hk=>by unfold Is at hk;rw [hk];exact HBZ.out))
     have HR9:Hid (Row ((V4.setCell ⟨bz,0,none⟩ (.slice Az z.rest.length cz)).setCell ⟨bz,1,none⟩ (.int .i64 z.err)) bz 88 #[.slice Az z.rest.length cz,.int .i64 z.err]):=(HRO.out.put 0 _).put 1 _
     have HW9:=qH (NestV.aside20 HW.out HRO.out hm9)
     skip
     go_simp
     refine hK.out _ _ (HS9.out _ HB9.out) (fun hHeld=> ?_)
     clear hK K f0 f1 g0 g1 hm9
     refine wpAnyH_done (by kernel_rfl) ?_ _
     clear hHeld
     go_wp2_with fail
     go_meet
     case rel=>exact ⟨Aw,cw,bz,Az,cz,rfl,rfl,HBZ.out,HZL.out,HB9.out,HR9.out,vsw,HW9.out⟩
    ·refine AllReadyH.cons rfl (fun K hK=> ?_) lq
     go_simp
     have HRO:=qH (Row.new V2 88 #[.slice none 0 0,.int .i64 0])
     have HBZ:Hid (W18.heap.size≤V2.heap.size):=HB2.out.size
     have hal:=(ld V2.heap.size V2).alloc (la _) (.cells #[.slice none 0 0,.int .i64 0] 88)
     have HB3:=qH (HB2.out.alloc HB2.out.size (.cells #[.slice none 0 0,.int .i64 0] 88))
     have HI2:Hid (IpV (V2.alloc (.cells #[.slice none 0 0,.int .i64 0] 88)) (V2.alloc (.cells #[.slice none 0 0,.int .i64 0] 88)).heap.size A25 c25 ⟨p2,0⟩):=⟨(HI.out.see.below hal).more hal.size,HI.out.le,HI.out.cm,HI.out.byt,HI.out.sm⟩
     clear HI
     have HI:=HI2
     clear HI2
     refine hK.out _ _ (HS9.out _ HB3.out) (fun hHeld=> ?_)
     clear hK K
     clear hal
     generalize V2.heap.size=bz at*
     generalize V2.alloc (.cells #[.slice none 0 0,.int .i64 0] 88)=V3 at*
     refine wpAnyH_ready (rs:= [15]) (by kernel_rfl) (by simp) ?_
     refine AllReadyH.cons rfl (fun K hK=> ?_) lq
     go_simp
     refine (KG.out V3 A25 c25 HI.out).mono ?_
     rintro e V4 ⟨v,vsw,Az,cz,rfl,hn,hip,hb⟩
     (try go_wp2_with fail)
     obtain ⟨Aw,cw,rfl,_,_⟩:=zh hn.outer
     rw [hn.len] at hn⊢
     have HW:=qH (hn.rebase HB3.out.size)
     have HB4:=qH (HB3.out.trans (hb.mono HB3.out.size))
     have HZL:=qH hip.sm
     have HR2:=qH (HRO.out.below hb HRO.out.lt)
     clear HRO
     have HRO:=HR2
     clear HR2
     clear hn hip hb HI
     refine hK.out _ _ (HS9.out _ HB4.out) (fun hHeld=> ?_)
     clear hK K
     refine ze 16 95 (.tuple #[.slice Aw ws.length cw,.agg #[.slice Az z.rest.length cz,.int .i64 z.err]]) rfl rfl (by kernel_rfl) (by kernel_rfl) (by kernel_rfl) (fun _ _ _ h=>h) (Or.inl ⟨by rfl,?_⟩) hHeld ?_
     ·intro w9 hSw
      (try dsimp only at hSw)
      go_simp
     (try simp only [Act.put,lh,li,lj])
     refine ze 17 112 (.slice Aw ws.length cw) rfl rfl (by kernel_rfl) (by kernel_rfl) (by kernel_rfl) (fun _ _ _ h=>h) (Or.inl ⟨by rfl,?_⟩) hHeld ?_
     ·intro w9 hSw
      (try dsimp only at hSw)
      go_simp
     (try simp only [Act.put,lh,li,lj])
     refine ze 18 113 (.agg #[.slice Az z.rest.length cz,.int .i64 z.err]) rfl rfl (by kernel_rfl) (by kernel_rfl) (by kernel_rfl) (fun _ _ _ h=>h) (Or.inl ⟨by rfl,?_⟩) hHeld ?_
     ·intro w9 hSw
      (try dsimp only at hSw)
      go_simp
     (try simp only [Act.put,lh,li,lj])
     refine ze 20 11 (.slice Aw ws.length cw) rfl rfl (by kernel_rfl) (by kernel_rfl) (by kernel_rfl) (fun _ _ _ h=>h) (Or.inl ⟨by rfl,?_⟩) hHeld ?_
     ·intro w9 hSw
      (try dsimp only at hSw)
      go_simp
     (try simp only [Act.put,lh,li,lj])
     refine wpAnyH_ready (rs:= [21]) (by kernel_rfl) (by simp) ?_
     refine AllReadyH.cons rfl (fun K hK=> ?_) lq
     have f0:=HRO.out.k0;have f1:=HRO.out.k1
     have g0:=HRO.out.frozen 0;have g1:=HRO.out.frozen 1
     have hm9:Mods (Is bz) V4 ((V4.setCell ⟨bz,0,none⟩ (.slice Az z.rest.length cz)).setCell ⟨bz,1,none⟩ (.int .i64 z.err)):=((Mods.refl _ _).put 0 _).put 1 _
     have HB9:=qH (HB4.out.trans (hm9.below HB4.out.size fun k hk=>by unfold Is at hk;rw [hk];exact HBZ.out))
     have HR9:Hid (Row ((V4.setCell ⟨bz,0,none⟩ (.slice Az z.rest.length cz)).setCell ⟨bz,1,none⟩ (.int .i64 z.err)) bz 88 #[.slice Az z.rest.length cz,.int .i64 z.err]):=(HRO.out.put 0 _).put 1 _
     have HW9:=qH (NestV.aside20 HW.out HRO.out hm9)
     skip
     go_simp
     refine hK.out _ _ (HS9.out _ HB9.out) (fun hHeld=> ?_)
     clear hK K f0 f1 g0 g1 hm9
     refine wpAnyH_done (by kernel_rfl) ?_ _
     clear hHeld
     go_wp2_with fail
     go_meet
     case rel=>exact ⟨Aw,cw,bz,Az,cz,rfl,rfl,HBZ.out,HZL.out,HB9.out,HR9.out,vsw,HW9.out⟩
   ·refine AllReadyH.cons rfl (fun K hK=> ?_) lq
    go_simp
    have HRO:=qH (Row.new V1 88 #[.slice none 0 0,.int .i64 0])
    have HBZ:Hid (W18.heap.size≤V1.heap.size):=HB1.out.size
    have hal:=(ld V1.heap.size V1).alloc (la _) (.cells #[.slice none 0 0,.int .i64 0] 88)
    have HB2:=qH (HB1.out.alloc HB1.out.size (.cells #[.slice none 0 0,.int .i64 0] 88))
    have hnb:¬V1.heap.size=eb:=by have:=(jr HO.out eb rfl).2;omega
    have HNB:=qH hnb
    clear hnb
    have HO2:=qH (((Mods.refl No V1).alloc (.cells #[.slice none 0 0,.int .i64 0] 88)).own HO.out fun _ _ hk=>hk.elim)
    clear HO
    have HO:=HO2
    clear HO2
    refine hK.out _ _ (HS9.out _ HB2.out) (fun hHeld=> ?_)
    clear hK K
    clear hal
    generalize V1.heap.size=bz at*
    generalize V1.alloc (.cells #[.slice none 0 0,.int .i64 0] 88)=V2 at*
    refine wpAnyH_ready (rs:= [4]) (by kernel_rfl) (by simp) ?_
    refine AllReadyH.cons rfl (fun K hK=> ?_) lq
    refine yt _ rfl (.tmp 96) (.tmp 99) 22 rfl eb 5 i0 (.int .u8 0) 1 1 Tryz.underlying22 hi hz0 hz1 hz2 rfl (by decide) (.slice (some ⟨eb,0,none⟩) 0 0) 0 [] rfl HO.out W1.heap.size A3 p2.length k3 (bts p2) rfl (HPT.out _ (HB18.out.trans (HB2.out.mono HB18.out.size))).2.2.2 (by rw [zg,Nat.mul_one]) (ye _) (by unfold maxLen;omega) (by omega) (by have:=(jr HO.out eb rfl).2;omega) ?_
    intro va V3 ho hg _
    (try simp only [Act.put,lv,lw,lx,lh,lj,li])
    have hb9:=HB2.out.grown hg HB2.out.size (fun k hk=>by simp [Value.ownBlock] at hk;subst hk;exact HEB.out)
    have HB3:=qH hb9
    have HR2:=qH (HRO.out.mods ((Mods.refl (fun k=>k=eb) V2).grown hg fun k hk=>by simp [Value.ownBlock] at hk;exact .inl hk.symm) HNB.out)
    clear HRO
    have HRO:=HR2
    clear HR2
    replace ho:V3.ownsRow eb 5 1 va p2.length (bts p2):=by simpa using ho
    obtain ⟨A25,c25,rfl,hc5a,hc5b⟩:=yi ho (zg _)
    have HI:Hid (IpV V3 V3.heap.size A25 c25 ⟨p2,0⟩):=⟨Sees.of_own ho,hc5a,hc5b,hpb.2.2,by show p2.length≤100000;omega⟩
    clear ho hg hb9 hc5a hc5b HO
    refine hK.out _ _ (HS9.out _ HB3.out) (fun hHeld=> ?_)
    clear hK K
    refine ze 5 101 (.agg #[.slice A25 p2.length c25,.int .i64 0]) rfl rfl (by kernel_rfl) (by kernel_rfl) (by kernel_rfl) (fun _ _ _ h=>h) (Or.inl ⟨by rfl,?_⟩) hHeld ?_
    ·intro w9 hSw
     (try dsimp only at hSw)
     go_simp
    (try simp only [Act.put,lh,li,lj])
    refine wpAnyH_ready (rs:= [15]) (by kernel_rfl) (by simp) ?_
    refine AllReadyH.cons rfl (fun K hK=> ?_) lq
    go_simp
    refine (KG.out V3 A25 c25 HI.out).mono ?_
    rintro e V4 ⟨v,vsw,Az,cz,rfl,hn,hip,hb⟩
    (try go_wp2_with fail)
    obtain ⟨Aw,cw,rfl,_,_⟩:=zh hn.outer
    rw [hn.len] at hn⊢
    have HW:=qH (hn.rebase HB3.out.size)
    have HB4:=qH (HB3.out.trans (hb.mono HB3.out.size))
    have HZL:=qH hip.sm
    have HR2:=qH (HRO.out.below hb HRO.out.lt)
    clear HRO
    have HRO:=HR2
    clear HR2
    clear hn hip hb HI
    refine hK.out _ _ (HS9.out _ HB4.out) (fun hHeld=> ?_)
    clear hK K
    refine ze 16 95 (.tuple #[.slice Aw ws.length cw,.agg #[.slice Az z.rest.length cz,.int .i64 z.err]]) rfl rfl (by kernel_rfl) (by kernel_rfl) (by kernel_rfl) (fun _ _ _ h=>h) (Or.inl ⟨by rfl,?_⟩) hHeld ?_
    ·intro w9 hSw
     (try dsimp only at hSw)
     go_simp
    (try simp only [Act.put,lh,li,lj])
    refine ze 17 112 (.slice Aw ws.length cw) rfl rfl (by kernel_rfl) (by kernel_rfl) (by kernel_rfl) (fun _ _ _ h=>h) (Or.inl ⟨by rfl,?_⟩) hHeld ?_
    ·intro w9 hSw
     (try dsimp only at hSw)
     go_simp
    (try simp only [Act.put,lh,li,lj])
    refine ze 18 113 (.agg #[.slice Az z.rest.length cz,.int .i64 z.err]) rfl rfl (by kernel_rfl) (by kernel_rfl) (by kernel_rfl) (fun _ _ _ h=>h) (Or.inl ⟨by rfl,?_⟩) hHeld ?_
    ·intro w9 hSw
     (try dsimp only at hSw)
     go_simp
    (try simp only [Act.put,lh,li,lj])
    refine ze 20 11 (.slice Aw ws.length cw) rfl rfl (by kernel_rfl) (by kernel_rfl) (by kernel_rfl) (fun _ _ _ h=>h) (Or.inl ⟨by rfl,?_⟩) hHeld ?_
    ·intro w9 hSw
     (try dsimp only at hSw)
     go_simp
    (try simp only [Act.put,lh,li,lj])
    refine wpAnyH_ready (rs:= [21]) (by kernel_rfl) (by simp) ?_
    refine AllReadyH.cons rfl (fun K hK=> ?_) lq
    have f0:=HRO.out.k0;have f1:=HRO.out.k1
    have g0:=HRO.out.frozen 0;have g1:=HRO.out.frozen 1
    have hm9:Mods (Is bz) V4 ((V4.setCell ⟨bz,0,none⟩ (.slice Az z.rest.length cz)).setCell ⟨bz,1,none⟩ (.int .i64 z.err)):=((Mods.refl _ _).put 0 _).put 1 _
    have HB9:=qH (HB4.out.trans (hm9.below HB4.out.size fun k hk=>by unfold Is at hk;rw [hk];exact HBZ.out))
    have HR9:Hid (Row ((V4.setCell ⟨bz,0,none⟩ (.slice Az z.rest.length cz)).setCell ⟨bz,1,none⟩ (.int .i64 z.err)) bz 88 #[.slice Az z.rest.length cz,.int .i64 z.err]):=(HRO.out.put 0 _).put 1 _
    have HW9:=qH (NestV.aside20 HW.out HRO.out hm9)
    skip
    go_simp
    refine hK.out _ _ (HS9.out _ HB9.out) (fun hHeld=> ?_)
    clear hK K f0 f1 g0 g1 hm9
    refine wpAnyH_done (by kernel_rfl) ?_ _
    clear hHeld
    go_wp2_with fail
    go_meet
    case rel=>exact ⟨Aw,cw,bz,Az,cz,rfl,rfl,HBZ.out,HZL.out,HB9.out,HR9.out,vsw,HW9.out⟩
  ·refine AllReadyH.cons rfl (fun K hK=> ?_) lq
   go_simp
   have HRO:=qH (Row.new V0 88 #[.slice none 0 0,.int .i64 0])
   have HBZ:Hid (W18.heap.size≤V0.heap.size):=HB0.out.size
   have hal:=(ld V0.heap.size V0).alloc (la _) (.cells #[.slice none 0 0,.int .i64 0] 88)
   have HB1:=qH (HB0.out.alloc HB0.out.size (.cells #[.slice none 0 0,.int .i64 0] 88))
   refine hK.out _ _ (HS9.out _ HB1.out) (fun hHeld=> ?_)
   clear hK K
   clear hal
   generalize V0.heap.size=bz at*
   generalize V0.alloc (.cells #[.slice none 0 0,.int .i64 0] 88)=V1 at*
   refine wpAnyH_ready (rs:= [0]) (by kernel_rfl) (by simp) ?_
   refine AllReadyH.cons rfl (fun K hK=> ?_) lq
   go_simp
   have HO:=qH (Qo V1 5 1)
   have HEB:Hid (W18.heap.size≤V1.heap.size):=HB1.out.size
   have HB2:=qH (HB1.out.alloc HB1.out.size (.cells #[] 5))
   have hnb:¬bz=V1.heap.size:=by have:=HRO.out.lt;omega
   have HNB:=qH hnb
   have HR2:=qH (HRO.out.alloc (.cells #[] 5))
   clear HRO hnb
   have HRO:=HR2
   clear HR2
   refine hK.out _ _ (HS9.out _ HB2.out) (fun hHeld=> ?_)
   clear hK K
   generalize V1.heap.size=eb at*
   generalize V1.alloc (.cells #[] 5)=V2 at*
   refine wpAnyH_ready (rs:= [4]) (by kernel_rfl) (by simp) ?_
   refine AllReadyH.cons rfl (fun K hK=> ?_) lq
   refine yt _ rfl (.tmp 96) (.tmp 99) 22 rfl eb 5 i0 (.int .u8 0) 1 1 Tryz.underlying22 hi hz0 hz1 hz2 rfl (by decide) (.slice (some ⟨eb,0,none⟩) 0 0) 0 [] rfl HO.out W1.heap.size A3 p2.length k3 (bts p2) rfl (HPT.out _ (HB18.out.trans (HB2.out.mono HB18.out.size))).2.2.2 (by rw [zg,Nat.mul_one]) (ye _) (by unfold maxLen;omega) (by omega) (by have:=(jr HO.out eb rfl).2;omega) ?_
   intro va V3 ho hg _
   (try simp only [Act.put,lv,lw,lx,lh,lj,li])
   have hb9:=HB2.out.grown hg HB2.out.size (fun k hk=>by simp [Value.ownBlock] at hk;subst hk;exact HEB.out)
   have HB3:=qH hb9
   have HR2:=qH (HRO.out.mods ((Mods.refl (fun k=>k=eb) V2).grown hg fun k hk=>by simp [Value.ownBlock] at hk;exact .inl hk.symm) HNB.out)
   clear HRO
   have HRO:=HR2
   clear HR2
   replace ho:V3.ownsRow eb 5 1 va p2.length (bts p2):=by simpa using ho
   obtain ⟨A25,c25,rfl,hc5a,hc5b⟩:=yi ho (zg _)
   have HI:Hid (IpV V3 V3.heap.size A25 c25 ⟨p2,0⟩):=⟨Sees.of_own ho,hc5a,hc5b,hpb.2.2,by show p2.length≤100000;omega⟩
   clear ho hg hb9 hc5a hc5b HO
   refine hK.out _ _ (HS9.out _ HB3.out) (fun hHeld=> ?_)
   clear hK K
   refine ze 5 101 (.agg #[.slice A25 p2.length c25,.int .i64 0]) rfl rfl (by kernel_rfl) (by kernel_rfl) (by kernel_rfl) (fun _ _ _ h=>h) (Or.inl ⟨by rfl,?_⟩) hHeld ?_
   ·intro w9 hSw
    (try dsimp only at hSw)
    go_simp
   (try simp only [Act.put,lh,li,lj])
   refine wpAnyH_ready (rs:= [15]) (by kernel_rfl) (by simp) ?_
   refine AllReadyH.cons rfl (fun K hK=> ?_) lq
   go_simp
   refine (KG.out V3 A25 c25 HI.out).mono ?_
   rintro e V4 ⟨v,vsw,Az,cz,rfl,hn,hip,hb⟩
   (try go_wp2_with fail)
   obtain ⟨Aw,cw,rfl,_,_⟩:=zh hn.outer
   rw [hn.len] at hn⊢
   have HW:=qH (hn.rebase HB3.out.size)
   have HB4:=qH (HB3.out.trans (hb.mono HB3.out.size))
   have HZL:=qH hip.sm
   have HR2:=qH (HRO.out.below hb HRO.out.lt)
   clear HRO
   have HRO:=HR2
   clear HR2
   clear hn hip hb HI
   refine hK.out _ _ (HS9.out _ HB4.out) (fun hHeld=> ?_)
   clear hK K
   refine ze 16 95 (.tuple #[.slice Aw ws.length cw,.agg #[.slice Az z.rest.length cz,.int .i64 z.err]]) rfl rfl (by kernel_rfl) (by kernel_rfl) (by kernel_rfl) (fun _ _ _ h=>h) (Or.inl ⟨by rfl,?_⟩) hHeld ?_
   ·intro w9 hSw
    (try dsimp only at hSw)
    go_simp
   (try simp only [Act.put,lh,li,lj])
   refine ze 17 112 (.slice Aw ws.length cw) rfl rfl (by kernel_rfl) (by kernel_rfl) (by kernel_rfl) (fun _ _ _ h=>h) (Or.inl ⟨by rfl,?_⟩) hHeld ?_
   ·intro w9 hSw
    (try dsimp only at hSw)
    go_simp
   (try simp only [Act.put,lh,li,lj])
   refine ze 18 113 (.agg #[.slice Az z.rest.length cz,.int .i64 z.err]) rfl rfl (by kernel_rfl) (by kernel_rfl) (by kernel_rfl) (fun _ _ _ h=>h) (Or.inl ⟨by rfl,?_⟩) hHeld ?_
   ·intro w9 hSw
    (try dsimp only at hSw)
    go_simp
   (try simp only [Act.put,lh,li,lj])
   refine ze 20 11 (.slice Aw ws.length cw) rfl rfl (by kernel_rfl) (by kernel_rfl) (by kernel_rfl) (fun _ _ _ h=>h) (Or.inl ⟨by rfl,?_⟩) hHeld ?_
   ·intro w9 hSw
    (try dsimp only at hSw)
    go_simp
   (try simp only [Act.put,lh,li,lj])
   refine wpAnyH_ready (rs:= [21]) (by kernel_rfl) (by simp) ?_
   refine AllReadyH.cons rfl (fun K hK=> ?_) lq
   have f0:=HRO.out.k0;have f1:=HRO.out.k1
   have g0:=HRO.out.frozen 0;have g1:=HRO.out.frozen 1
   have hm9:Mods (Is bz) V4 ((V4.setCell ⟨bz,0,none⟩ (.slice Az z.rest.length cz)).setCell ⟨bz,1,none⟩ (.int .i64 z.err)):=((Mods.refl _ _).put 0 _).put 1 _
   have HB9:=qH (HB4.out.trans (hm9.below HB4.out.size fun k hk=>by unfold Is at hk;rw [hk];exact HBZ.out))
   have HR9:Hid (Row ((V4.setCell ⟨bz,0,none⟩ (.slice Az z.rest.length cz)).setCell ⟨bz,1,none⟩ (.int .i64 z.err)) bz 88 #[.slice Az z.rest.length cz,.int .i64 z.err]):=(HRO.out.put 0 _).put 1 _
   have HW9:=qH (NestV.aside20 HW.out HRO.out hm9)
   skip
   go_simp
   refine hK.out _ _ (HS9.out _ HB9.out) (fun hHeld=> ?_)
   clear hK K f0 f1 g0 g1 hm9
   refine wpAnyH_done (by kernel_rfl) ?_ _
   clear hHeld
   go_wp2_with fail
   go_meet
   case rel=>exact ⟨Aw,cw,bz,Az,cz,rfl,rfl,HBZ.out,HZL.out,HB9.out,HR9.out,vsw,HW9.out⟩
 case rest=>
  obtain ⟨Aw,cw,bz,Az,cz,rfl,rfl,hbz,hzl,HB9,HR9,vsw,HW9⟩:=hcut
  generalize wc=W20 at*
  have HE20:Hid (RDE w (some ⟨b,o,none⟩) l bz (.slice Az z.rest.length cz) z.err W20):=⟨H18.out.next HB9.out,HR9.out,by have:=H18.out.y.lt;omega⟩
  obtain ⟨ex,hex⟩:∃y,y=yC z:=⟨_,rfl⟩
  have KE:Hid (∀W,RDE w (some ⟨b,o,none⟩) l bz (.slice Az z.rest.length cz) z.err W→Calls Tryz.prog 37 #[.agg #[.slice Az z.rest.length cz,.int .i64 z.err]] W fun e W'=>e= .returned (.int .i64 ex)∧RDE w (some ⟨b,o,none⟩) l bz (.slice Az z.rest.length cz) z.err W'∧Below W.heap.size W W'):=fun W h=>(Yo W Az z.rest.length cz z.err (by omega)).mono (by
   rintro e W' ⟨rfl,hb⟩
   exact ⟨by rw [hex];rfl,h.next hb,hb⟩)
  have HD7:Hid (yD l=if ex≠0 then (zCt,ex) else (⟨f.args,f.regs,f.bs,g.args,g.regs,g.slots,g.ms,ws⟩,0)):=by
   show _=_
   rw [HD6.out]
   unfold Yh
   rw [HWZ.out,hex]
  have R30:=qH (R28.out.below HB9.out R28.out.lt)
  have R31:=qH (R29.out.below HB9.out R29.out.lt)
  have N30:=qH (HN18.out.below HB9.out)
  have N31:=qH (HG18.out.below HB9.out)
  have N32:=qH (HW9.out.rebase H18.out.blw.size)
  have g0:=HR9.out.k0;have g1:=HR9.out.k1
  clear hex HD6 HWZ R28 R29 HN18 HG18 HW9 HB9 HR9 H18 HPT HS9 KG
  go_wp2_with fail
  refine (KE.out _ HE20.out).mono ?_
  rintro e W21 ⟨rfl,he,hb⟩
  have HE21:=qH he
  have R40:=qH (R30.out.below hb R30.out.lt)
  have R41:=qH (R31.out.below hb R31.out.lt)
  have N40:=qH (N30.out.below hb)
  have N41:=qH (N31.out.below hb)
  have N42:=qH (N32.out.below hb)
  clear he hb g0 g1 HE20 R30 R31 N30 N31 N32
  by_cases hex:ex≠0
  ·have dx3:(ex !=0)=true:=by simp [hex]
   have HDE:Hid (yD l=(zCt,ex)):=by show yD l=_;rw [HD7.out,if_pos hex]
   clear hex HD7 R40 R41 N40 N41 N42
   go_wp2_with fail
   have HS9:Hid (∀V,RDE w (some ⟨b,o,none⟩) l (bz) (.slice Az z.rest.length cz) z.err V→((V.cell? ⟨w.heap.size+1,0,none⟩=some (.int .i64 0)∧V.cell? ⟨w.heap.size+1,1,none⟩=some (.int .i64 0)∧V.cell? ⟨w.heap.size+1,2,none⟩=some (.slice none 0 0)∧V.cell? ⟨w.heap.size+1,3,none⟩=some (.int .i64 0)∧V.cell? ⟨w.heap.size+1,4,none⟩=some (.int .i64 0)∧V.cell? ⟨w.heap.size+1,5,none⟩=some (.int .i64 0)∧V.cell? ⟨w.heap.size+1,6,none⟩=some (.slice none 0 0)∧V.cell? ⟨w.heap.size+1,7,none⟩=some (.slice none 0 0))∧V.cell? ⟨bz,0,none⟩=some (.slice Az z.rest.length cz)∧V.cell? ⟨bz,1,none⟩=some (.int .i64 z.err))):=fun V h=>⟨⟨h.k.y.cell 0,h.k.y.cell 1,h.k.y.cell 2,h.k.y.cell 3,h.k.y.cell 4,h.k.y.cell 5,h.k.y.cell 6,h.k.y.cell 7⟩,h.r.cell 0,h.r.cell 1⟩
   refine wp_region_held_drew (S:=fun w'=>((w'.cell? ⟨w.heap.size+1,0,none⟩=some (.int .i64 0)∧w'.cell? ⟨w.heap.size+1,1,none⟩=some (.int .i64 0)∧w'.cell? ⟨w.heap.size+1,2,none⟩=some (.slice none 0 0)∧w'.cell? ⟨w.heap.size+1,3,none⟩=some (.int .i64 0)∧w'.cell? ⟨w.heap.size+1,4,none⟩=some (.int .i64 0)∧w'.cell? ⟨w.heap.size+1,5,none⟩=some (.int .i64 0)∧w'.cell? ⟨w.heap.size+1,6,none⟩=some (.slice none 0 0)∧w'.cell? ⟨w.heap.size+1,7,none⟩=some (.slice none 0 0))∧w'.cell? ⟨bz,0,none⟩=some (.slice Az z.rest.length cz)∧w'.cell? ⟨bz,1,none⟩=some (.int .i64 z.err))) (by kernel_rfl) (HS9.out _ HE21.out.drew) (fun hHeld=> ?_)
   have HV0:=qH HE21.out.drew
   clear HE21
   generalize hVV:W21.drew=V0 at*
   clear hVV
   refine ze 0 117 (.agg #[.int .i64 0,.int .i64 0,.slice none 0 0,.int .i64 0,.int .i64 0,.int .i64 0,.slice none 0 0,.slice none 0 0]) rfl rfl (by kernel_rfl) (by kernel_rfl) (by kernel_rfl) (fun _ _ _ h=>h) (Or.inl ⟨by rfl,?_⟩) hHeld ?_
   ·intro w9 hSw
    (try dsimp only at hSw)
    go_simp
   (try simp only [Act.put,lh,li,lj])
   refine ze 1 118 (.agg #[.slice Az z.rest.length cz,.int .i64 z.err]) rfl rfl (by kernel_rfl) (by kernel_rfl) (by kernel_rfl) (fun _ _ _ h=>h) (Or.inl ⟨by rfl,?_⟩) hHeld ?_
   ·intro w9 hSw
    (try dsimp only at hSw)
    go_simp
   (try simp only [Act.put,lh,li,lj])
   refine wpAnyH_ready (rs:= [2]) (by kernel_rfl) (by simp) ?_
   refine AllReadyH.cons rfl (fun K hK=> ?_) lq
   go_simp
   refine (KE.out V0 HV0.out).mono ?_
   rintro e V1 ⟨rfl,hV,_⟩
   (try go_wp2_with fail)
   have HV1:=qH hV
   refine hK.out _ _ (HS9.out _ hV) (fun hHeld=> ?_)
   clear hK K hV
   refine wpAnyH_ready (rs:= [3]) (by kernel_rfl) (by simp) ?_
   refine AllReadyH.cons rfl (fun K hK=> ?_) lq
   obtain ⟨y0,y1,y2,y3,y4,y5,y6,y7,z0,z1,z2,z3,z4,z5,z6,z7,q0,q1,q2,q3,q4,q5,q6,q7⟩:=HV1.out.k.cells
   have HV2:=qH HV1.out.putz
   go_simp
   refine hK.out _ _ (HS9.out _ HV2.out) (fun hHeld=> ?_)
   clear hK K y0 y1 y2 y3 y4 y5 y6 y7 z0 z1 z2 z3 z4 z5 z6 z7 q0 q1 q2 q3 q4 q5 q6 q7 HV1
   generalize ((((((((V1.setCell ⟨w.heap.size,0,none⟩ (.int .i64 0)).setCell ⟨w.heap.size,1,none⟩ (.int .i64 0)).setCell ⟨w.heap.size,2,none⟩ (.slice none 0 0)).setCell ⟨w.heap.size,3,none⟩ (.int .i64 0)).setCell ⟨w.heap.size,4,none⟩ (.int .i64 0)).setCell ⟨w.heap.size,5,none⟩ (.int .i64 0)).setCell ⟨w.heap.size,6,none⟩ (.slice none 0 0)).setCell ⟨w.heap.size,7,none⟩ (.slice none 0 0))=V2 at*
   refine ze 4 3 (.int .i64 ex) rfl rfl (by kernel_rfl) (by kernel_rfl) (by kernel_rfl) (fun _ _ _ h=>h) (Or.inl ⟨by rfl,?_⟩) hHeld ?_
   ·intro w9 hSw
    (try dsimp only at hSw)
    go_simp
   (try simp only [Act.put,lh,li,lj])
   refine wpAnyH_done (by kernel_rfl) ?_ _
   clear hHeld
   go_wp2
   (try simp only [Exit.inBlock,Exit.then])
   refine bodyPost_ret (v:= .tuple #[.agg #[.int .i64 0,.int .i64 0,.slice none 0 0,.int .i64 0,.int .i64 0,.int .i64 0,.slice none 0 0,.slice none 0 0],.int .i64 ex]) ?_ rfl (by rw [HDE.out];exact DecP.bad HV2.out.k.blw _)
   exact zS rfl _ _ w.heap.size 31 #[.int .i64 0,.int .i64 0,.slice none 0 0,.int .i64 0,.int .i64 0,.int .i64 0,.slice none 0 0,.slice none 0 0] (0,0) _ rfl rfl HV2.out.k.z Tryz.underlying31 rfl (by kernel_rfl)
  have dx3:(ex !=0)=false:=by simp;omega
  have HD8:Hid (yD l=(⟨f.args,f.regs,f.bs,g.args,g.regs,g.slots,g.ms,ws⟩,0)):=by show _=_;rw [HD7.out,if_neg hex]
  have H21:=qH HE21.out.k
  clear hex HD7 HE21 KE
  obtain ⟨y0,y1,y2,y3,y4,y5,y6,y7,z0,z1,z2,z3,z4,z5,z6,z7,q0,q1,q2,q3,q4,q5,q6,q7⟩:=H21.out.cells
  have f0:=R40.out.k0;have f1:=R40.out.k1;have f2:=R40.out.k2
  have m0:=R41.out.k0;have m1:=R41.out.k1;have m2:=R41.out.k2;have m3:=R41.out.k3
  have HRP:=qH (H21.out.put (.int .i64 f.args) (.int .i64 f.regs) (.slice Af f.bs.length cf) (.int .i64 g.args) (.int .i64 g.regs) (.int .i64 g.slots) (.slice Ag g.ms.length cg) (.slice Aw ws.length cw))
  have hm8:=Q0 W21 w.heap.size (.int .i64 f.args) (.int .i64 f.regs) (.slice Af f.bs.length cf) (.int .i64 g.args) (.int .i64 g.regs) (.int .i64 g.slots) (.slice Ag g.ms.length cg) (.slice Aw ws.length cw)
  have M0:=qH (NestV.aside21 (T:=31) (by decide) (by decide) N40.out H21.out.z hm8)
  have M1:=qH (NestV.aside21 (T:=31) (by decide) (by decide) N41.out H21.out.z hm8)
  have M2:=qH (NestV.aside21 (T:=31) (by decide) (by decide) N42.out H21.out.z hm8)
  clear hm8 N40 N41 N42
  unfold Proofs.YtnifhpbgmjcndaaGreat.put8c at HRP M0 M1 M2
  go_wp2
  (try simp only [Exit.inBlock,Exit.then])
  refine bodyPost_ret (v:= .tuple #[.agg #[.int .i64 f.args,.int .i64 f.regs,.slice Af f.bs.length cf,.int .i64 g.args,.int .i64 g.regs,.int .i64 g.slots,.slice Ag g.ms.length cg,.slice Aw ws.length cw],.int .i64 0]) ?_ rfl (by rw [HD8.out];exact ⟨_,_,_,_,_,_,_,_,_,rfl,M0.out,M1.out,M2.out,HRP.out.2⟩)
  exact zS rfl _ _ w.heap.size 31 #[.int .i64 f.args,.int .i64 f.regs,.slice Af f.bs.length cf,.int .i64 g.args,.int .i64 g.regs,.int .i64 g.slots,.slice Ag g.ms.length cg,.slice Aw ws.length cw] (0,0) _ rfl rfl HRP.out.1 Tryz.underlying31 rfl (by kernel_rfl)
end Go.Proofs.YtnifhpbgmjcndaaGreat
