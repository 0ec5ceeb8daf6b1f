/- The statements' examples: awake returns true (made by wip/lab/genccawk.py). -/
import Derived.Test.YtnifhpbgmjcndaaGreatPk30
import Derived.Test.YtnifhpbgmjcndaaGreatPk27
set_option linter.unusedVariables false
set_option linter.unusedSimpArgs false
set_option maxRecDepth 100000
set_option maxHeartbeats 8000000
namespace Go.Proofs.YtnifhpbgmjcndaaGreat
open Go.RowKit Go.Deep
def ZK:Ct:=⟨0,1, [⟨[],⟨3,0,0,0⟩⟩],0,1,0, [⟨[],⟨3,0,0,0⟩⟩], [[((0:Int),(0:Int))]]⟩
def ZL:List Nat:= [82,67,1,1,6,0,1,1,0,3,0,2,7,0,1,0,1,0,3,0,3,3,1,0,0]
theorem ccV:zV ZK=0:=by kernel_rfl
theorem ccVz:zV zCt=14:=by kernel_rfl
theorem zfX:zP ZK=ZL:=by kernel_rfl
theorem ccsm:SmC ZK:=⟨⟨by decide,by decide,by decide⟩,⟨by decide,by decide,by decide,by decide⟩,by decide,by decide⟩
theorem zhP:SmC zCt:=⟨⟨by decide,by decide,by decide⟩,⟨by decide,by decide,by decide,by decide⟩,by decide,by decide⟩
theorem zgX:ZK.Wf:=by
 refine ⟨rfl,rfl,rfl,rfl,rfl,fun y hy=> ?_,fun y hy=> ?_,fun l hl p hp=> ?_⟩
 ·simp only [ZK,List.mem_singleton] at hy
  subst hy
  exact ⟨fun y hy=>by simp at hy,rfl,rfl,rfl,rfl⟩
 ·simp only [ZK,List.mem_singleton] at hy
  subst hy
  exact ⟨fun y hy=>by simp at hy,rfl,rfl,rfl,rfl⟩
 ·simp only [ZK,List.mem_singleton] at hl
  subst hl
  simp only [List.mem_singleton] at hp
  subst hp
  exact ⟨rfl,rfl⟩
theorem zhQ:zCt.Wf:=⟨rfl,rfl,rfl,rfl,rfl,fun y hy=>by simp [zCt] at hy,fun y hy=>by simp [zCt] at hy,fun y hy=>by simp [zCt] at hy⟩
theorem zhR:yD ZL=(ZK,0):=by
 have hv:=CV.of ccV ccsm (zfV zgX)
 rw [←zfX]
 exact zfa ccV hv.ci hv.cr hv.cl
theorem ccD2:yD [82,67]=(zCt,1):=by kernel_rfl
theorem ccD3:yD [82,82,1]=(zCt,4):=by kernel_rfl
theorem ccD4:yD [82,67,2]=(zCt,5):=by kernel_rfl
theorem Row.sees20{W:World}{p:Nat}{T:TypeId}{cs:Array Value}{xs:List Value}(h:Row W p T cs)(hx:xs=cs.toList)(hB:p<W.heap.size):Sees W W.heap.size (some ⟨p,0,none⟩) xs:=fun _=>
 ⟨p,0,rfl,hB,fun i u hu=>by
  rw [lI,h.cell i]
  subst hx
  simpa using hu⟩
theorem zcM{W:World}{p:Nat}{T:TypeId}{t:Tm}(h:Row W p T #[.slice none 0 0,.int .i64 t.kind,.int .i64 t.a,.int .i64 t.to,.int .i64 t.el]):BlksAt W W.heap.size (some ⟨p,0,none⟩) [⟨[],t⟩]:=fun _=>
 ⟨p,0,rfl,h.lt,fun i x hx=>by
  rcases i with _|i
  ·simp only [lk,Option.some.injEq] at hx
   subst hx
   exact ⟨⟨none,0,h.cell 0,la _,lF _,fun hn=>absurd rfl hn⟩,h.cell 1,h.cell 2,h.cell 3,h.cell 4⟩
  ·simp at hx⟩
theorem zbD{W:World}{p:Nat}{T:TypeId}{t:Tm}(h:Row W p T #[.slice none 0 0,.int .i64 t.kind,.int .i64 t.a,.int .i64 t.to,.int .i64 t.el]):MBlksAt W W.heap.size (some ⟨p,0,none⟩) [⟨[],t⟩]:=fun _=>
 ⟨p,0,rfl,h.lt,fun i x hx=>by
  rcases i with _|i
  ·simp only [lk,Option.some.injEq] at hx
   subst hx
   exact ⟨⟨none,0,h.cell 0,la _,lF _,fun hn=>absurd rfl hn⟩,h.cell 1,h.cell 2,h.cell 3,h.cell 4⟩
  ·simp at hx⟩
theorem zhS(W:World):CeAt W W.heap.size none 0 none 0 none 0 zCt:=
 ⟨fun hn=>absurd rfl hn,fun hn=>absurd rfl hn,⟨[],fun hn=>absurd rfl hn,CellsP.nil _ _⟩,⟨la _,lF _⟩,⟨la _,lF _⟩,⟨la _,lF _⟩⟩
structure AwE(w:World)(z:Nat)(W:World):Prop where
 blw:Below w.heap.size w W
 r1:Row W (z+1) 60 #[.slice none 0 0,.int .i64 3,.int .i64 0,.int .i64 0,.int .i64 0]
 r2:Row W (z+1+1) 63 #[.slice none 0 0,.int .i64 3,.int .i64 0,.int .i64 0,.int .i64 0]
 r3:Row W (z+1+1+1) 55 #[.int .i64 0,.int .i64 0]
 r4:Row W (z+1+1+1+1) 52 #[.slice (some ⟨z+1+1+1,0,none⟩) 1 1]
 r5:Row W (z+1+1+1+1+1) 31 #[.int .i64 0,.int .i64 1,.slice (some ⟨z+1,0,none⟩) 1 1,.int .i64 0,.int .i64 1,.int .i64 0,.slice (some ⟨z+1+1,0,none⟩) 1 1,.slice (some ⟨z+1+1+1+1,0,none⟩) 1 1]
 r6:Row W (z+1+1+1+1+1+1) 5 #[.int .u8 82,.int .u8 67,.int .u8 1,.int .u8 1,.int .u8 6,.int .u8 0,.int .u8 1,.int .u8 1,.int .u8 0,.int .u8 3,.int .u8 0,.int .u8 2,.int .u8 7,.int .u8 0,.int .u8 1,.int .u8 0,.int .u8 1,.int .u8 0,.int .u8 3,.int .u8 0,.int .u8 3,.int .u8 3,.int .u8 1,.int .u8 0,.int .u8 0]
theorem AwE.next{w W W':World}{z:Nat}(h:AwE w z W)(hb:Below W.heap.size W W'):AwE w z W':=
 ⟨h.blw.trans (hb.mono h.blw.size),h.r1.below hb h.r1.lt,h.r2.below hb h.r2.lt,h.r3.below hb h.r3.lt,h.r4.below hb h.r4.lt,h.r5.below hb h.r5.lt,h.r6.below hb h.r6.lt⟩
theorem AwE.ce{w W:World}{z:Nat}(h:AwE w z W):CeAt W W.heap.size (some ⟨z+1,0,none⟩) 1 (some ⟨z+1+1,0,none⟩) 1 (some ⟨z+1+1+1+1,0,none⟩) 1 ZK:=
 ⟨zcM (t:=⟨3,0,0,0⟩) h.r1,zbD (t:=⟨3,0,0,0⟩) h.r2,⟨[.slice (some ⟨z+1+1+1,0,none⟩) 1 1],h.r4.sees20 rfl h.r4.lt,(CellsP.nil _ _).snoc (x:= [((0:Int),(0:Int))]) (c:=1) (la _) (by decide) (h.r3.sees20 rfl h.r3.lt)⟩,⟨la _,by decide⟩,⟨la _,by decide⟩,⟨la _,by decide⟩⟩
theorem AwE.want{w W:World}{z:Nat}(h:AwE w z W):Sees W W.heap.size (some ⟨z+1+1+1+1+1+1,0,none⟩) (bts ZL):=h.r6.sees20 rfl h.r6.lt
theorem AwE.two{w W:World}{z:Nat}(h:AwE w z W):Sees W W.heap.size (some ⟨z+1+1+1+1+1+1,0,none⟩) (bts [82,67]):=h.want.take (k:=2)
theorem AwE.start(w:World):AwE w w.heap.size (((((((w.alloc (.cells #[.int .i64 3,.int .i64 0,.int .i64 0,.int .i64 0] 57)).alloc (.cells #[.slice none 0 0,.int .i64 3,.int .i64 0,.int .i64 0,.int .i64 0] 60)).alloc (.cells #[.slice none 0 0,.int .i64 3,.int .i64 0,.int .i64 0,.int .i64 0] 63)).alloc (.cells #[.int .i64 0,.int .i64 0] 55)).alloc (.cells #[.slice (some ⟨w.heap.size+1+1+1,0,none⟩) 1 1] 52)).alloc (.cells #[.int .i64 0,.int .i64 1,.slice (some ⟨w.heap.size+1,0,none⟩) 1 1,.int .i64 0,.int .i64 1,.int .i64 0,.slice (some ⟨w.heap.size+1+1,0,none⟩) 1 1,.slice (some ⟨w.heap.size+1+1+1+1,0,none⟩) 1 1] 31)).alloc (.cells #[.int .u8 82,.int .u8 67,.int .u8 1,.int .u8 1,.int .u8 6,.int .u8 0,.int .u8 1,.int .u8 1,.int .u8 0,.int .u8 3,.int .u8 0,.int .u8 2,.int .u8 7,.int .u8 0,.int .u8 1,.int .u8 0,.int .u8 1,.int .u8 0,.int .u8 3,.int .u8 0,.int .u8 3,.int .u8 3,.int .u8 1,.int .u8 0,.int .u8 0] 5)):=by
 have hb:Below w.heap.size w (((((((w.alloc (.cells #[.int .i64 3,.int .i64 0,.int .i64 0,.int .i64 0] 57)).alloc (.cells #[.slice none 0 0,.int .i64 3,.int .i64 0,.int .i64 0,.int .i64 0] 60)).alloc (.cells #[.slice none 0 0,.int .i64 3,.int .i64 0,.int .i64 0,.int .i64 0] 63)).alloc (.cells #[.int .i64 0,.int .i64 0] 55)).alloc (.cells #[.slice (some ⟨w.heap.size+1+1+1,0,none⟩) 1 1] 52)).alloc (.cells #[.int .i64 0,.int .i64 1,.slice (some ⟨w.heap.size+1,0,none⟩) 1 1,.int .i64 0,.int .i64 1,.int .i64 0,.slice (some ⟨w.heap.size+1+1,0,none⟩) 1 1,.slice (some ⟨w.heap.size+1+1+1+1,0,none⟩) 1 1] 31)).alloc (.cells #[.int .u8 82,.int .u8 67,.int .u8 1,.int .u8 1,.int .u8 6,.int .u8 0,.int .u8 1,.int .u8 1,.int .u8 0,.int .u8 3,.int .u8 0,.int .u8 2,.int .u8 7,.int .u8 0,.int .u8 1,.int .u8 0,.int .u8 1,.int .u8 0,.int .u8 3,.int .u8 0,.int .u8 3,.int .u8 3,.int .u8 1,.int .u8 0,.int .u8 0] 5)):=(((((((ld w.heap.size w).alloc (la _) _).alloc (by simp) _).alloc (by simp;omega) _).alloc (by simp;omega) _).alloc (by simp;omega) _).alloc (by simp;omega) _).alloc (by simp;omega) _
 exact ⟨hb,(((((Row.new' (W:=(w.alloc (.cells #[.int .i64 3,.int .i64 0,.int .i64 0,.int .i64 0] 57))) (p:=w.heap.size+1) (by simp) _ _).alloc _).alloc _).alloc _).alloc _).alloc _,((((Row.new' (W:=((w.alloc (.cells #[.int .i64 3,.int .i64 0,.int .i64 0,.int .i64 0] 57)).alloc (.cells #[.slice none 0 0,.int .i64 3,.int .i64 0,.int .i64 0,.int .i64 0] 60))) (p:=w.heap.size+1+1) (by simp) _ _).alloc _).alloc _).alloc _).alloc _,(((Row.new' (W:=(((w.alloc (.cells #[.int .i64 3,.int .i64 0,.int .i64 0,.int .i64 0] 57)).alloc (.cells #[.slice none 0 0,.int .i64 3,.int .i64 0,.int .i64 0,.int .i64 0] 60)).alloc (.cells #[.slice none 0 0,.int .i64 3,.int .i64 0,.int .i64 0,.int .i64 0] 63))) (p:=w.heap.size+1+1+1) (by simp) _ _).alloc _).alloc _).alloc _,((Row.new' (W:=((((w.alloc (.cells #[.int .i64 3,.int .i64 0,.int .i64 0,.int .i64 0] 57)).alloc (.cells #[.slice none 0 0,.int .i64 3,.int .i64 0,.int .i64 0,.int .i64 0] 60)).alloc (.cells #[.slice none 0 0,.int .i64 3,.int .i64 0,.int .i64 0,.int .i64 0] 63)).alloc (.cells #[.int .i64 0,.int .i64 0] 55))) (p:=w.heap.size+1+1+1+1) (by simp) _ _).alloc _).alloc _,(Row.new' (W:=(((((w.alloc (.cells #[.int .i64 3,.int .i64 0,.int .i64 0,.int .i64 0] 57)).alloc (.cells #[.slice none 0 0,.int .i64 3,.int .i64 0,.int .i64 0,.int .i64 0] 60)).alloc (.cells #[.slice none 0 0,.int .i64 3,.int .i64 0,.int .i64 0,.int .i64 0] 63)).alloc (.cells #[.int .i64 0,.int .i64 0] 55)).alloc (.cells #[.slice (some ⟨w.heap.size+1+1+1,0,none⟩) 1 1] 52))) (p:=w.heap.size+1+1+1+1+1) (by simp) _ _).alloc _,Row.new' (W:=((((((w.alloc (.cells #[.int .i64 3,.int .i64 0,.int .i64 0,.int .i64 0] 57)).alloc (.cells #[.slice none 0 0,.int .i64 3,.int .i64 0,.int .i64 0,.int .i64 0] 60)).alloc (.cells #[.slice none 0 0,.int .i64 3,.int .i64 0,.int .i64 0,.int .i64 0] 63)).alloc (.cells #[.int .i64 0,.int .i64 0] 55)).alloc (.cells #[.slice (some ⟨w.heap.size+1+1+1,0,none⟩) 1 1] 52)).alloc (.cells #[.int .i64 0,.int .i64 1,.slice (some ⟨w.heap.size+1,0,none⟩) 1 1,.int .i64 0,.int .i64 1,.int .i64 0,.slice (some ⟨w.heap.size+1+1,0,none⟩) 1 1,.slice (some ⟨w.heap.size+1+1+1+1,0,none⟩) 1 1] 31))) (p:=w.heap.size+1+1+1+1+1+1) (by simp) _ _⟩
structure AwF(w:World)(z:Nat)(Ab:Option Addr)(A1:Option Addr)(k1:Nat)(A2:Option Addr)(k2:Nat)(A3:Option Addr)(k3:Nat)(bx:Nat)(W:World):Prop where
 e:AwE w z W
 b:Sees W W.heap.size Ab (bts ZL)
 d:CeAt W W.heap.size A1 k1 A2 k2 A3 k3 ZK
 r:Row W bx 31 #[.int .i64 0,.int .i64 1,.slice A1 1 k1,.int .i64 0,.int .i64 1,.int .i64 0,.slice A2 1 k2,.slice A3 1 k3]
theorem AwF.next{w W W':World}{z:Nat}{Ab A1 A2 A3:Option Addr}{k1 k2 k3 bx:Nat}(h:AwF w z Ab A1 k1 A2 k2 A3 k3 bx W)(hb:Below W.heap.size W W'):AwF w z Ab A1 k1 A2 k2 A3 k3 bx W':=
 ⟨h.e.next hb,(h.b.below hb).more hb.size,(h.d.below hb).more hb.size,h.r.below hb h.r.lt⟩
theorem zbE(w:World):Calls Tryz.prog 8 #[] w fun e w'=>e= .returned (.bool true)∧Below w.heap.size w w':=by
 have H0:=qH (AwE.start w)
 go_enter Tryz.func8,Tryz.ntmps8
 go_upto_region 4 with fail
 generalize (((((((w.alloc (.cells #[.int .i64 3,.int .i64 0,.int .i64 0,.int .i64 0] 57)).alloc (.cells #[.slice none 0 0,.int .i64 3,.int .i64 0,.int .i64 0,.int .i64 0] 60)).alloc (.cells #[.slice none 0 0,.int .i64 3,.int .i64 0,.int .i64 0,.int .i64 0] 63)).alloc (.cells #[.int .i64 0,.int .i64 0] 55)).alloc (.cells #[.slice (some ⟨w.heap.size+1+1+1,0,none⟩) 1 1] 52)).alloc (.cells #[.int .i64 0,.int .i64 1,.slice (some ⟨w.heap.size+1,0,none⟩) 1 1,.int .i64 0,.int .i64 1,.int .i64 0,.slice (some ⟨w.heap.size+1+1,0,none⟩) 1 1,.slice (some ⟨w.heap.size+1+1+1+1,0,none⟩) 1 1] 31)).alloc (.cells #[.int .u8 82,.int .u8 67,.int .u8 1,.int .u8 1,.int .u8 6,.int .u8 0,.int .u8 1,.int .u8 1,.int .u8 0,.int .u8 3,.int .u8 0,.int .u8 2,.int .u8 7,.int .u8 0,.int .u8 1,.int .u8 0,.int .u8 1,.int .u8 0,.int .u8 3,.int .u8 0,.int .u8 3,.int .u8 3,.int .u8 1,.int .u8 0,.int .u8 0] 5))=W0 at*
 generalize hzz:w.heap.size=z at*
 have hz:z<W0.heap.size:=by have:=H0.out.r1.lt;omega
 have E1:Hid (∀W,AwE w z W→Calls Tryz.prog 12 #[.agg #[.int .i64 0,.int .i64 1,.slice (some ⟨z+1,0,none⟩) 1 1,.int .i64 0,.int .i64 1,.int .i64 0,.slice (some ⟨z+1+1,0,none⟩) 1 1,.slice (some ⟨z+1+1+1+1,0,none⟩) 1 1]] W fun e w'=>∃A k,e= .returned (.tuple #[.slice A 25 k,.int .i64 0])∧Sees w' w'.heap.size A (bts ZL)∧Below W.heap.size W w'):=fun W h=>(Yn (c:=ZK) W h.ce ccsm zgX).mono (by
  rintro e w' ⟨hb,⟨_,A,k,rfl,ho⟩|⟨h9,_⟩⟩
  ·rw [zfX] at ho
   exact ⟨A,k,by rw [zfX];rfl,Sees.of_own ho,hb⟩
  ·exact absurd ccV h9)
 have D1:Hid (∀W,AwE w z W→Calls Tryz.prog 10 #[.slice (some ⟨z+1+1+1+1+1+1,0,none⟩) 25 25] W fun e w'=>∃A1 k1 A2 k2 A3 k3,e= .returned (.tuple #[.agg #[.int .i64 0,.int .i64 1,.slice A1 1 k1,.int .i64 0,.int .i64 1,.int .i64 0,.slice A2 1 k2,.slice A3 1 k3],.int .i64 0])∧CeAt w' w'.heap.size A1 k1 A2 k2 A3 k3 ZK∧Below W.heap.size W w'):=fun W h=>by
  have q:=JM _ ZL 25 W h.want (by intro x hx;unfold ZL at hx;simp at hx;omega) (by decide) (by decide) (by decide)
  rw [zhR] at q
  refine q.mono ?_
  rintro e w' ⟨A1,k1,v1,A2,k2,v2,A3,k3,v3,rfl,n1,n2,n3,hb⟩
  exact ⟨A1,k1,A2,k2,A3,k3,rfl,UX (c:=ZK) (inv:=ZK.inv) n1 n2 n3 (fun x hx y hy=>by simp only [ZK,List.mem_singleton] at hx;subst hx;cases hy),hb⟩
 have D2:Hid (∀W,AwE w z W→Calls Tryz.prog 10 #[.slice (some ⟨z+1+1+1+1+1+1,0,none⟩) 2 25] W fun e w'=>∃B1 j1 B2 j2 B3 j3,e= .returned (.tuple #[.agg #[.int .i64 0,.int .i64 0,.slice B1 0 j1,.int .i64 0,.int .i64 0,.int .i64 0,.slice B2 0 j2,.slice B3 0 j3],.int .i64 1])∧Below W.heap.size W w'):=fun W h=>by
  have q:=JM _ [82,67] 25 W h.two (by intro x hx;simp at hx;omega) (by decide) (by decide) (by decide)
  rw [ccD2] at q
  refine q.mono ?_
  rintro e w' ⟨A1,k1,v1,A2,k2,v2,A3,k3,v3,rfl,n1,n2,n3,hb⟩
  exact ⟨A1,k1,A2,k2,A3,k3,rfl,hb⟩
 have D3:Hid (∀W:World,Calls Tryz.prog 10 #[.slice (some ⟨W.heap.size,0,none⟩) 3 3] (W.alloc (.cells #[.int .u8 82,.int .u8 82,.int .u8 1] 5)) fun e w'=>∃B1 j1 B2 j2 B3 j3,e= .returned (.tuple #[.agg #[.int .i64 0,.int .i64 0,.slice B1 0 j1,.int .i64 0,.int .i64 0,.int .i64 0,.slice B2 0 j2,.slice B3 0 j3],.int .i64 4])∧Below W.heap.size W w'):=fun W=>by
  have q:=JM (some ⟨W.heap.size,0,none⟩) [82,82,1] 3 (W.alloc (.cells #[.int .u8 82,.int .u8 82,.int .u8 1] 5)) ((Jp W #[.int .u8 82,.int .u8 82,.int .u8 1] 5 [82,82,1] rfl).more (by simp)) (by intro x hx;simp at hx;omega) (by decide) (by decide) (by decide)
  rw [ccD3] at q
  refine q.mono ?_
  rintro e w' ⟨A1,k1,v1,A2,k2,v2,A3,k3,v3,rfl,n1,n2,n3,hb⟩
  exact ⟨A1,k1,A2,k2,A3,k3,rfl,((ld W.heap.size W).alloc (la _) _).trans (hb.mono (by simp))⟩
 have D4:Hid (∀W:World,Calls Tryz.prog 10 #[.slice (some ⟨W.heap.size,0,none⟩) 3 3] (W.alloc (.cells #[.int .u8 82,.int .u8 67,.int .u8 2] 5)) fun e w'=>∃B1 j1 B2 j2 B3 j3,e= .returned (.tuple #[.agg #[.int .i64 0,.int .i64 0,.slice B1 0 j1,.int .i64 0,.int .i64 0,.int .i64 0,.slice B2 0 j2,.slice B3 0 j3],.int .i64 5])∧Below W.heap.size W w'):=fun W=>by
  have q:=JM (some ⟨W.heap.size,0,none⟩) [82,67,2] 3 (W.alloc (.cells #[.int .u8 82,.int .u8 67,.int .u8 2] 5)) ((Jp W #[.int .u8 82,.int .u8 67,.int .u8 2] 5 [82,67,2] rfl).more (by simp)) (by intro x hx;simp at hx;omega) (by decide) (by decide) (by decide)
  rw [ccD4] at q
  refine q.mono ?_
  rintro e w' ⟨A1,k1,v1,A2,k2,v2,A3,k3,v3,rfl,n1,n2,n3,hb⟩
  exact ⟨A1,k1,A2,k2,A3,k3,rfl,((ld W.heap.size W).alloc (la _) _).trans (hb.mono (by simp))⟩
 have E2:Hid (∀W:World,Calls Tryz.prog 12 #[.agg #[.int .i64 0,.int .i64 0,.slice none 0 0,.int .i64 0,.int .i64 0,.int .i64 0,.slice none 0 0,.slice none 0 0]] W fun e w'=>e= .returned (.tuple #[.slice none 0 0,.int .i64 14])∧Below W.heap.size W w'):=fun W=>(Yn (c:=zCt) W (zhS W) zhP zhQ).mono (by
  rintro e w' ⟨hb,⟨h9,_⟩|⟨_,rfl⟩⟩
  ·rw [ccVz] at h9;exact absurd h9 (by decide)
  ·exact ⟨by rw [ccVz],hb⟩)
 have c0:=H0.out.r5.k0;have c1:=H0.out.r5.k1;have c2:=H0.out.r5.k2;have c3:=H0.out.r5.k3;have c4:=H0.out.r5.k4;have c5:=H0.out.r5.k5;have c6:=H0.out.r5.k6;have c7:=H0.out.r5.k7
 go_wp2_with fail
 refine (E1.out _ H0.out).mono ?_
 rintro e W1 ⟨Ab,kb,rfl,hs,hb⟩
 have H1:=qH (H0.out.next hb)
 have HS1:=qH hs
 clear hs hb H0 c0 c1 c2 c3 c4 c5 c6 c7 E1
 go_wp2_with fail
 refine (D1.out _ H1.out).mono ?_
 rintro e W2 ⟨A1,k1,A2,k2,A3,k3,rfl,hc,hb⟩
 have hal:=(ld W2.heap.size W2).alloc (la _) (.cells #[.int .i64 0,.int .i64 1,.slice A1 1 k1,.int .i64 0,.int .i64 1,.int .i64 0,.slice A2 1 k2,.slice A3 1 k3] 31)
 have H2:Hid (AwF w z Ab A1 k1 A2 k2 A3 k3 W2.heap.size (W2.alloc (.cells #[.int .i64 0,.int .i64 1,.slice A1 1 k1,.int .i64 0,.int .i64 1,.int .i64 0,.slice A2 1 k2,.slice A3 1 k3] 31))):=
  ⟨(H1.out.next hb).next hal,(((HS1.out.below hb).more hb.size).below hal).more hal.size,(hc.below hal).more hal.size,Row.new _ _ _⟩
 clear hc hb hal H1 HS1 D1
 go_upto_region 6 with fail
 generalize (W2.alloc (.cells #[.int .i64 0,.int .i64 1,.slice A1 1 k1,.int .i64 0,.int .i64 1,.int .i64 0,.slice A2 1 k2,.slice A3 1 k3] 31))=W3 at*
 generalize W2.heap.size=bx at*
 go_wp2_with fail
 refine (D2.out _ H2.out.e).mono ?_
 rintro e W4 ⟨B1,j1,B2,j2,B3,j3,rfl,hb⟩
 have H3:=qH (H2.out.next (hb.alloc hb.size (.cells #[.int .i64 0,.int .i64 0,.slice B1 0 j1,.int .i64 0,.int .i64 0,.int .i64 0,.slice B2 0 j2,.slice B3 0 j3] 31)))
 clear hb H2
 go_upto_region 7 with fail
 generalize (W4.alloc (.cells #[.int .i64 0,.int .i64 0,.slice B1 0 j1,.int .i64 0,.int .i64 0,.int .i64 0,.slice B2 0 j2,.slice B3 0 j3] 31))=W5 at*
 generalize W4.heap.size=y7 at*
 go_wp2_with fail
 refine (D3.out _).mono ?_
 rintro e W6 ⟨C1,l1,C2,l2,C3,l3,rfl,hb⟩
 have H4:=qH (H3.out.next (hb.alloc hb.size (.cells #[.int .i64 0,.int .i64 0,.slice C1 0 l1,.int .i64 0,.int .i64 0,.int .i64 0,.slice C2 0 l2,.slice C3 0 l3] 31)))
 clear hb H3
 go_upto_region 8 with fail
 generalize (W6.alloc (.cells #[.int .i64 0,.int .i64 0,.slice C1 0 l1,.int .i64 0,.int .i64 0,.int .i64 0,.slice C2 0 l2,.slice C3 0 l3] 31))=W7 at*
 generalize W6.heap.size=y8 at*
 go_wp2_with fail
 refine (D4.out _).mono ?_
 rintro e W8 ⟨D1,m1,D2,m2,D3,m3,rfl,hb⟩
 have H5:=qH (H4.out.next (hb.alloc hb.size (.cells #[.int .i64 0,.int .i64 0,.slice D1 0 m1,.int .i64 0,.int .i64 0,.int .i64 0,.slice D2 0 m2,.slice D3 0 m3] 31)))
 clear hb H4
 go_upto_region 9 with fail
 generalize (W8.alloc (.cells #[.int .i64 0,.int .i64 0,.slice D1 0 m1,.int .i64 0,.int .i64 0,.int .i64 0,.slice D2 0 m2,.slice D3 0 m3] 31))=W9 at*
 generalize W8.heap.size=y9 at*
 go_wp2_with fail
 refine (E2.out _).mono ?_
 rintro e W10 ⟨rfl,hb⟩
 have H6:=qH (H5.out.next hb)
 clear hb H5
 have c0:=H6.out.e.r5.k0;have c1:=H6.out.e.r5.k1;have c2:=H6.out.e.r5.k2;have c3:=H6.out.e.r5.k3;have c4:=H6.out.e.r5.k4;have c5:=H6.out.e.r5.k5;have c6:=H6.out.e.r5.k6;have c7:=H6.out.e.r5.k7
 have d0:=H6.out.r.k0;have d1:=H6.out.r.k1;have d2:=H6.out.r.k2;have d3:=H6.out.r.k3;have d4:=H6.out.r.k4;have d5:=H6.out.r.k5;have d6:=H6.out.r.k6;have d7:=H6.out.r.k7
 go_wp2_with fail
 refine (zfz ZL 25 _ _ _ _ W10.heap.size W10 H6.out.b H6.out.e.want rfl (by decide)).mono ?_
 rintro e W11 ⟨rfl,n7,h7⟩
 have H7:=qH (H6.out.next (h7 ▸ jz (ld _ _) n7))
 have K0:∀p:Addr,W11.cell? p=W10.cell? p:=fun p=>h7 ▸ rfl
 rw [←K0] at c0 c1 c2 c3 c4 c5 c6 c7 d0 d1 d2 d3 d4 d5 d6 d7
 clear h7 K0 H6
 go_wp2_with fail
 refine (ZJ (c:=ZK) (d:=ZK) W11 H7.out.d H7.out.e.ce (by decide) (by decide) (by decide) (by decide) (by decide) true (by simp)).mono ?_
 rintro e W12 ⟨rfl,hb⟩
 have H8:=qH (H7.out.next hb)
 clear hb H7 c0 c1 c2 c3 c4 c5 c6 c7 d0 d1 d2 d3 d4 d5 d6 d7
 go_wp2
 go_ret
 exact ⟨rfl,H8.out.e.blw⟩
end Go.Proofs.YtnifhpbgmjcndaaGreat
