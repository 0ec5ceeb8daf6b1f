import Derived.Test.YtnifhpbgmjcndaaGreatPk2
set_option linter.unusedVariables false
set_option linter.unusedSimpArgs false
set_option maxRecDepth 100000
set_option maxHeartbeats 1000000
namespace Go.Proofs.YtnifhpbgmjcndaaGreat
abbrev Pr:=Int × Int
def ltP(p q:Pr):Bool:=decide (p.1<q.1∨(p.1=q.1∧p.2<q.2))
theorem Yv{p q:Pr}:ltP p q=true↔p.1<q.1∨(p.1=q.1∧p.2<q.2):=by simp [ltP]
def prs(l:List Pr):List Value:=l.flatMap fun p=> [.int .i64 p.1,.int .i64 p.2]
theorem UG(l:List Pr):(prs l).length=l.length*2:=by
 induction l with
 |nil=>rfl
 |cons x r ih=>simp only [prs,List.flatMap_cons,lc,lp,lE] at*;omega
theorem Up:∀{l:List Pr} {i:Nat} (hi:i<l.length),(prs l)[i*2]?=some (.int .i64 l[i].1)∧(prs l)[i*2+1]?=some (.int .i64 l[i].2)
 | [],_,h=>by simp at h
 |x::r,0,_=>by simp [prs]
 |x::r,i+1,h=>by
  have:=Up (l:=r) (i:=i) (by simpa using h)
  simp only [lw]
  refine ⟨?_,?_⟩
  ·rw [show (i+1)*2=i*2+1+1 by omega]
   exact this.1
  ·rw [show (i+1)*2+1=i*2+1+1+1 by omega]
   exact this.2
theorem jB{w:World}{B:Nat}{A:Option Addr}{l:List Pr}(h:Sees w B A (prs l)){i:Nat}(hi:i<l.length):
  ∃b o,A=some ⟨b,o,none⟩∧b<B∧w.cell? ⟨b,o+i*2,none⟩=some (.int .i64 l[i].1)∧w.cell? ⟨b,o+i*2+1,none⟩=some (.int .i64 l[i].2):=by
 obtain ⟨b,o,e,hb,hc⟩:=h (by
  intro e
  have:=congrArg List.length e
  rw [UG,lE] at this
  omega)
 exact ⟨b,o,e,hb,hc _ _ (Up hi).1,by rw [Nat.add_assoc];exact hc _ _ (Up hi).2⟩
end Go.Proofs.YtnifhpbgmjcndaaGreat
namespace Go.Proofs.YtnifhpbgmjcndaaGreat
open Go.RowKit
theorem zbM(x y:Int)(w:World):Calls Tryz.prog 201 #[.int .i64 x,.int .i64 y] w fun e w'=>e= .returned (.int .i64 (Lib.compareInt x y))∧w'=w:=by
 have hn:∀v W,Calls Tryz.prog 203 #[.int .i64 v] W fun e w'=>e= .returned (.bool false)∧w'=W:=fun v W=>by
  go_enter Tryz.func203,Tryz.ntmps203
  go_wp2
  go_ret
  exact ⟨by simp,rfl⟩
 go_enter Tryz.func201,Tryz.ntmps201
 go_wp2_with (go_at_call 203;refine (hn _ _).mono ?_;rintro e w' ⟨rfl,rfl⟩)
 all_goals (go_ret;refine ⟨?_,rfl⟩;unfold Lib.compareInt;(repeat' split)<;>first|rfl|(exfalso;omega))
theorem zbN(x y:Int)(w:World):Calls Tryz.prog 202 #[.int .i64 x,.int .i64 y] w fun e w'=>e= .returned (.int .i64 (Lib.compareInt x y))∧w'=w:=by
 have hn:∀v W,Calls Tryz.prog 204 #[.int .i64 v] W fun e w'=>e= .returned (.bool false)∧w'=W:=fun v W=>by
  go_enter Tryz.func204,Tryz.ntmps204
  go_wp2
  go_ret
  exact ⟨by simp,rfl⟩
 go_enter Tryz.func202,Tryz.ntmps202
 go_wp2_with (go_at_call 204;refine (hn _ _).mono ?_;rintro e w' ⟨rfl,rfl⟩)
 all_goals (go_ret;refine ⟨?_,rfl⟩;unfold Lib.compareInt;(repeat' split)<;>first|rfl|(exfalso;omega))
def orP(x y:Int):Int:=if x=0 then y else x
theorem zgO{x:Int}(h:x=0)(y:Int):orP x y=y:=if_pos h
theorem zhz{x:Int}(h:¬x=0)(y:Int):orP x y=x:=if_neg h
theorem zdD(b c:Nat)(x y:Int)(w:World)(h0:w.cell? ⟨b,0,none⟩=some (.int .i64 x))(h1:w.cell? ⟨b,1,none⟩=some (.int .i64 y)):
  Calls Tryz.prog 200 #[.slice (some ⟨b,0,none⟩) 2 c] w fun e w'=>e= .returned (.int .i64 (orP x y))∧w'=w:=by
 by_cases hx:x=0
 ·have e1:(x !=0)=false:=by simp [hx]
  have HX:=qH hx
  clear hx
  by_cases hy:y=0
  ·have e2:(y !=0)=false:=by simp [hy]
   have HY:=qH hy
   clear hy
   go_enter Tryz.func200,Tryz.ntmps200
   go_wp2
   refine wp_loop_rounds 3 ?_
   rw [rounds_succ]
   go_wp2
   rw [rounds_succ]
   go_wp2
   rw [rounds_succ]
   go_wp2
   go_ret
   exact ⟨by rw [zgO HX.out,HY.out];rfl,rfl⟩
  ·have e2:(y !=0)=true:=by simp [hy]
   clear hy
   go_enter Tryz.func200,Tryz.ntmps200
   go_wp2
   refine wp_loop_rounds 2 ?_
   rw [rounds_succ]
   go_wp2
   rw [rounds_succ]
   go_wp2
   go_ret
   exact ⟨by rw [zgO HX.out];rfl,rfl⟩
 ·have e1:(x !=0)=true:=by simp [hx]
  have HX:=qH hx
  clear hx
  go_enter Tryz.func200,Tryz.ntmps200
  go_wp2
  refine wp_loop_rounds 1 ?_
  rw [rounds_succ]
  go_wp2
  go_ret
  exact ⟨by rw [zhz HX.out];rfl,rfl⟩
def zeI(p q:Pr):Int:=orP (Lib.compareInt p.1 q.1) (Lib.compareInt p.2 q.2)
theorem zgc(p q:Pr):decide (zeI p q<0)=ltP p q:=by
 unfold zeI orP ltP Lib.compareInt
 by_cases h1:p.1<q.1
 ·simp [h1]
 ·by_cases h2:q.1<p.1
  ·have h3:¬p.1=q.1:=by omega
   simp [h1,h2,h3]
  ·have h3:p.1=q.1:=by omega
   by_cases h4:p.2<q.2
   ·simp [h3,h4]
   ·by_cases h5:q.2<p.2
    ·simp [h3,h4,h5]
    ·simp [h3,h4,h5]
theorem zat(p q:Pr)(w:World):Calls Tryz.prog 197 #[.agg #[.int .i64 p.1,.int .i64 p.2],.agg #[.int .i64 q.1,.int .i64 q.2]] w fun e w'=>e= .returned (.int .i64 (zeI p q))∧Grew w w':=by
 obtain ⟨p1,p2⟩:=p
 obtain ⟨q1,q2⟩:=q
 unfold zeI
 dsimp only
 have C1:=qH fun W=>zbM p1 q1 W
 have C2:=qH fun W=>zbN p2 q2 W
 generalize Lib.compareInt p1 q1=x at C1⊢
 generalize Lib.compareInt p2 q2=y at C2⊢
 have hA:=(Row.new w 55 #[.int .i64 p1,.int .i64 p2]).alloc (.cells #[.int .i64 q1,.int .i64 q2] 55)
 have hB:=Row.new (w.alloc (.cells #[.int .i64 p1,.int .i64 p2] 55)) 55 #[.int .i64 q1,.int .i64 q2]
 rw [show (w.alloc (.cells #[.int .i64 p1,.int .i64 p2] 55)).heap.size=w.heap.size+1 by simp] at hB
 have HG:=qH (((Grew.refl w).alloc (.cells #[.int .i64 p1,.int .i64 p2] 55)).alloc (.cells #[.int .i64 q1,.int .i64 q2] 55))
 go_enter Tryz.func197,Tryz.ntmps197
 go_upto_region 1 with fail
 generalize ((w.alloc (.cells #[.int .i64 p1,.int .i64 p2] 55)).alloc (.cells #[.int .i64 q1,.int .i64 q2] 55))=W0 at*
 have a0:=hA.k0;have a1:=hA.k1;have b0:=hB.k0;have b1:=hB.k1
 have n0:=(Row.new W0 3 #[.int .i64 x,.int .i64 y]).cell 0
 have n1:=(Row.new W0 3 #[.int .i64 x,.int .i64 y]).cell 1
 have C3:Hid (Calls Tryz.prog 200 #[.slice (some ⟨W0.heap.size,0,none⟩) 2 2] (W0.alloc (.cells #[.int .i64 x,.int .i64 y] 3)).drew fun e w'=>e= .returned (.int .i64 (orP x y))∧w'=(W0.alloc (.cells #[.int .i64 x,.int .i64 y] 3)).drew):=zdD W0.heap.size 2 x y (W0.alloc (.cells #[.int .i64 x,.int .i64 y] 3)).drew n0 n1
 clear n0 n1
 clear hA hB
 have HS:Hid (∀W,Grew W0 W→W.cell? ⟨w.heap.size,0,none⟩=some (.int .i64 p1)∧W.cell? ⟨w.heap.size,1,none⟩=some (.int .i64 p2)∧W.cell? ⟨w.heap.size+1,0,none⟩=some (.int .i64 q1)∧W.cell? ⟨w.heap.size+1,1,none⟩=some (.int .i64 q2)):=fun W h=>⟨h.cell a0,h.cell a1,h.cell b0,h.cell b1⟩
 have hG:=Grew.refl W0
 go_region_held3 (fun w'=>w'.cell? ⟨w.heap.size,0,none⟩=some (.int .i64 p1)∧w'.cell? ⟨w.heap.size,1,none⟩=some (.int .i64 p2)∧w'.cell? ⟨w.heap.size+1,0,none⟩=some (.int .i64 q1)∧w'.cell? ⟨w.heap.size+1,1,none⟩=some (.int .i64 q2)) (first|exact HS.out _ hG|exact HS.out _ hG.drew|exact HS.out _ (hG.drew.alloc _)|exact HS.out _ (hG.alloc _)) (first
  |(go_at_call 201;go_must (refine (C1.out _).mono ?_;rintro e w' ⟨rfl,rfl⟩))
  |(go_at_call 202;go_must (refine (C2.out _).mono ?_;rintro e w' ⟨rfl,rfl⟩))
  |(go_at_call 200;go_must (refine C3.out.mono ?_;rintro e w' ⟨rfl,rfl⟩)))
 go_wp2
 go_ret
 exact ⟨rfl,(HG.out.alloc _).drew⟩
theorem zeJ(p q:Pr)(w:World):Calls Tryz.prog 189 #[.agg #[.int .i64 p.1,.int .i64 p.2],.agg #[.int .i64 q.1,.int .i64 q.2]] w fun e w'=>e= .returned (.bool (ltP p q))∧Grew w w':=by
 have C1:=qH fun W=>zat p q W
 rw [←zgc]
 obtain ⟨p1,p2⟩:=p
 obtain ⟨q1,q2⟩:=q
 dsimp only at C1
 generalize zeI (p1,p2) (q1,q2)=x at C1⊢
 have hA:=(Row.new w 55 #[.int .i64 p1,.int .i64 p2]).alloc (.cells #[.int .i64 q1,.int .i64 q2] 55)
 have hB:=Row.new (w.alloc (.cells #[.int .i64 p1,.int .i64 p2] 55)) 55 #[.int .i64 q1,.int .i64 q2]
 rw [show (w.alloc (.cells #[.int .i64 p1,.int .i64 p2] 55)).heap.size=w.heap.size+1 by simp] at hB
 have HG:=qH (((Grew.refl w).alloc (.cells #[.int .i64 p1,.int .i64 p2] 55)).alloc (.cells #[.int .i64 q1,.int .i64 q2] 55))
 go_enter Tryz.func189,Tryz.ntmps189
 go_upto_region 1 with fail
 generalize ((w.alloc (.cells #[.int .i64 p1,.int .i64 p2] 55)).alloc (.cells #[.int .i64 q1,.int .i64 q2] 55))=W0 at*
 have a0:=hA.k0;have a1:=hA.k1;have b0:=hB.k0;have b1:=hB.k1
 clear hA hB
 go_wp2_with fail
 refine (C1.out _).mono ?_
 rintro e W1 ⟨rfl,hG⟩
 go_wp2
 go_ret
 exact ⟨rfl,HG.out.trans hG⟩
theorem zdE(p q:Pr)(w:World):Calls Tryz.prog 115 #[.agg #[.int .i64 p.1,.int .i64 p.2],.agg #[.int .i64 q.1,.int .i64 q.2]] w fun e w'=>e= .returned (.bool (ltP p q))∧Grew w w':=by
 obtain ⟨p1,p2⟩:=p
 obtain ⟨q1,q2⟩:=q
 dsimp only
 obtain ⟨bb,hbb⟩:∃b,b=ltP (p1,p2) (q1,q2):=⟨_,rfl⟩
 rw [←hbb]
 have HBB:=qH hbb
 clear hbb
 have hA:=(Row.new w 55 #[.int .i64 p1,.int .i64 p2]).alloc (.cells #[.int .i64 q1,.int .i64 q2] 55)
 have hB:=Row.new (w.alloc (.cells #[.int .i64 p1,.int .i64 p2] 55)) 55 #[.int .i64 q1,.int .i64 q2]
 rw [show (w.alloc (.cells #[.int .i64 p1,.int .i64 p2] 55)).heap.size=w.heap.size+1 by simp] at hB
 have HG:=qH (((Grew.refl w).alloc (.cells #[.int .i64 p1,.int .i64 p2] 55)).alloc (.cells #[.int .i64 q1,.int .i64 q2] 55))
 by_cases he:p1=q1
 ·have e1:(p1 !=q1)=false:=by simp [he]
  have HE:=qH he
  clear he
  go_enter Tryz.func115,Tryz.ntmps115
  go_upto_region 1 with fail
  generalize ((w.alloc (.cells #[.int .i64 p1,.int .i64 p2] 55)).alloc (.cells #[.int .i64 q1,.int .i64 q2] 55))=W0 at*
  have a0:=hA.k0;have a1:=hA.k1;have b0:=hB.k0;have b1:=hB.k1
  clear hA hB
  go_wp2
  go_ret
  refine ⟨?_,HG.out⟩
  rw [HBB.out]
  have h1:=HE.out
  simp [ltP,h1]
 ·have e1:(p1 !=q1)=true:=by simp [he]
  have HE:=qH he
  clear he
  go_enter Tryz.func115,Tryz.ntmps115
  go_upto_region 1 with fail
  generalize ((w.alloc (.cells #[.int .i64 p1,.int .i64 p2] 55)).alloc (.cells #[.int .i64 q1,.int .i64 q2] 55))=W0 at*
  have a0:=hA.k0;have a1:=hA.k1;have b0:=hB.k0;have b1:=hB.k1
  clear hA hB
  go_wp2
  go_ret
  refine ⟨?_,HG.out⟩
  rw [HBB.out]
  have h1:=HE.out
  simp [ltP,h1]
theorem zg5(p q:Pr)(w:World):(binOp .neq 55 (.agg #[.int .i64 p.1,.int .i64 p.2]) (.agg #[.int .i64 q.1,.int .i64 q.2])).run Tryz.prog w= .ok (.bool (!decide (p=q))) w:=by
 have u3:=Tryz.underlying3
 have a3:=Tryz.isAgg3
 have z3:=Tryz.sizeOf3
 have u23:=Tryz.underlying53
 have a23:=Tryz.isAgg53
 have z23:=Tryz.sizeOf53
 have hS:Tryz.prog.underlying 55=some (.struct (Tryz.prog.fieldsOf 55)):=by kernel_rfl
 have hp:Tryz.prog.stoodInHeld 55=false:=by kernel_rfl
 rw [run_neq_struct,show (10000:Nat)=9999+1 from rfl,run_equalIn_agg w 9999 55 _ _ hS hp]
 simp only [Program.fieldsOf,Tryz.underlying55]
 obtain ⟨p1,p2⟩:=p
 obtain ⟨q1,q2⟩:=q
 go_simp
 by_cases h1:p1=q1<;>by_cases h2:p2=q2<;>simp [h1,h2]
theorem zeK:Tryz.prog.eqGuardType Tryz.prog.depth 55=false:=by kernel_rfl
theorem zdF{l r:List Pr}{k:Nat}(h:l.take k=r.take k)(hl:k<l.length)(hr:k<r.length)(he:l[k]=r[k]):l.take (k+1)=r.take (k+1):=by
 rw [List.take_succ_eq_append_getElem hl,List.take_succ_eq_append_getElem hr,h,he]
theorem zbO(B:Nat)(A A':Option Addr)(l r:List Pr)(c c':Nat)(w:World)(hs:Sees w B A (prs l))(hs':Sees w B A' (prs r))(hm:l.length≤maxLen)(hm':r.length≤maxLen):
  Calls Tryz.prog 109 #[.slice A l.length c,.slice A' r.length c'] w fun e w'=>e= .returned (.bool (decide (l=r)))∧Grew w w':=by
 unfold maxLen at hm hm'
 have hG:=zeK
 obtain ⟨bb,hbb⟩:∃b,b=decide (l=r):=⟨_,rfl⟩
 rw [←hbb]
 have HBB:=qH hbb
 clear hbb
 have HG:=qH (Grew.refl w)
 by_cases hlen:l.length=r.length
 ·have e1:((l.length:Int) !=(r.length:Int))=false:=by simp [hlen]
  have HL:=qH hlen
  clear hlen
  go_enter Tryz.func109,Tryz.ntmps109
  go_wp2
  go_loopw [5] (fun i wr=>∃k n:Nat,k≤l.length∧i= .int .i64 k∧Hid (l.take k=r.take k)∧wr=w.drewN n) (fun i _=>l.length - (intOf i).toNat)
  case atStart=>exact ⟨0,0,lF _,rfl,by simp [Hid],rfl⟩
  case round=>
   obtain ⟨k,n,hk,rfl,HT,rfl⟩:=hrel
   by_cases hlt:k<l.length
   ·have hltr:k<r.length:=by have:=HL.out;omega
    obtain ⟨b,o,rfl,_,hc0,hc1⟩:=jB hs hlt
    obtain ⟨b',o',rfl,_,hd0,hd1⟩:=jB hs' hltr
    have hq:∀W,(binOp .neq 55 (.agg #[.int .i64 l[k].1,.int .i64 l[k].2]) (.agg #[.int .i64 r[k].1,.int .i64 r[k].2])).run Tryz.prog W= .ok (.bool (!decide (l[k]=r[k]))) W:=fun W=>zg5 _ _ W
    by_cases hxy:l[k]=r[k]
    ·have HS:=qH (zdF HT.out hlt hltr hxy)
     have hq':(!decide (l[k]=r[k]))=false:=by simp [hxy]
     rw [hq'] at hq
     clear hs hs' HT hxy hq'
     generalize l[k].1=x1 at*
     generalize l[k].2=x2 at*
     generalize r[k].1=y1 at*
     generalize r[k].2=y2 at*
     go_wp2
     go_quiet (fail)
     go_wp2
     go_roundw
     case rel=>exact ⟨k+1,_,by omega,by go_num,HS.out,rfl⟩
     case measure=>simp [intOf];omega
    ·have HE:=qH (show decide (l=r)=false from decide_eq_false fun e=>hxy (by subst e;rfl))
     have hq':(!decide (l[k]=r[k]))=true:=by simp [hxy]
     rw [hq'] at hq
     clear hs hs' HT hxy hq'
     generalize l[k].1=x1 at*
     generalize l[k].2=x2 at*
     generalize r[k].1=y1 at*
     generalize r[k].2=y2 at*
     go_wp2
     go_quiet (fail)
     go_wp2
     go_ret
     rw [HBB.out,HE.out]
     exact ⟨rfl,(HG.out.drewN _).drewN _⟩
   ·have HE:=qH (show decide (l=r)=true from decide_eq_true (by have hl:=HL.out;have ht:=HT.out;rw [List.take_of_length_le (by omega),List.take_of_length_le (by omega)] at ht;exact ht))
    clear HT hs hs'
    go_wp2
    go_ret
    rw [HBB.out,HE.out]
    exact ⟨rfl,HG.out.drewN _⟩
 ·have HE:=qH (show decide (l=r)=false from decide_eq_false fun e=>hlen (by rw [e]))
  have e1:((l.length:Int) !=(r.length:Int))=true:=by simp;omega
  clear hlen
  go_enter Tryz.func109,Tryz.ntmps109
  go_wp2
  go_ret
  rw [HBB.out,HE.out]
  exact ⟨rfl,HG.out⟩
end Go.Proofs.YtnifhpbgmjcndaaGreat
