/- The program of layer 18: Func (made by wip/lab/genfcpd.py). -/
import Derived.Test.YtnifhpbgmjcndaaGreatPk9
set_option linter.unusedVariables false
set_option linter.unusedSimpArgs false
set_option linter.unusedSectionVars false
set_option maxRecDepth 100000
set_option maxHeartbeats 8000000
namespace Go.Proofs.YtnifhpbgmjcndaaGreat
open Go.RowKit
structure FR(w:World)(lo p:Nat)(l:List Nat)(A:Option Addr)(c:Nat)(t:Ip)(T:TypeId)(zs:Array Value)(W:World):Prop where
 md:Mods (Is p) w W
 ce:CE lo p l A c t W
 bx:Row W w.heap.size 82 #[.pointer (some ⟨p,0,none⟩)]
 z_:Row W (w.heap.size+1) T zs
 pw:p<w.heap.size
structure BX(w:World)(x:Nat)(T:TypeId)(cs:Array Value)(W:World):Prop where
 lo:w.heap.size+1<x
 row:Row W x T cs
section
variable {w W W' : World} {lo p : Nat} {l : List Nat} {A : Option Addr} {c : Nat} {t t' : Ip} {T T' : TypeId} {zs cs cs' : Array Value} {x y : Nat}
theorem CE.drew(h:CE lo p l A c t W):CE lo p l A c t W.drew:=let ⟨i,hc,hr⟩:=h;⟨i,hc.drew,hr⟩
theorem FR.new(h:CE lo p l A c t w)(T:TypeId)(zs:Array Value):FR w lo p l A c t T zs ((w.alloc (.cells #[.pointer (some ⟨p,0,none⟩)] 82)).alloc (.cells zs T)):=
 ⟨((Mods.refl _ _).alloc _).alloc _,(h.alloc _).alloc _,(Row.new _ _ _).alloc _,Row.new' (by simp) _ _,h.lt⟩
theorem FR.sz(h:FR w lo p l A c t T zs W):w.heap.size+1+1≤W.heap.size:=h.z_.lt
theorem FR.drew(h:FR w lo p l A c t T zs W):FR w lo p l A c t T zs W.drew:=⟨h.md.drew,h.ce.drew,h.bx,h.z_,h.pw⟩
theorem FR.next(h:FR w lo p l A c t T zs W)(hm:Mods (Is p) W W')(hc:CE lo p l A c t' W'):FR w lo p l A c t' T zs W':=by
 obtain ⟨md,ce,bx,z_,pw⟩:=h
 exact ⟨md.trans hm,hc,bx.mods hm (fun e=>by unfold Is at e;omega),z_.mods hm (fun e=>by unfold Is at e;omega),pw⟩
theorem FR.alloc(h:FR w lo p l A c t T zs W)(o:Obj):FR w lo p l A c t T zs (W.alloc o):=⟨h.md.alloc o,h.ce.alloc o,h.bx.alloc o,h.z_.alloc o,h.pw⟩
theorem FR.mods(h:FR w lo p l A c t T zs W)(hy:w.heap.size+1<y)(hm:Mods (Is y) W W'):FR w lo p l A c t T zs W':=by
 obtain ⟨md,ce,bx,z_,pw⟩:=h
 exact ⟨md.then hm fun k hk=> .inr (by unfold Is at hk;omega),ce.mods hm fun k hk=> .inr (by unfold Is at hk;omega),bx.mods hm (fun e=>by unfold Is at e;omega),z_.mods hm (fun e=>by unfold Is at e;omega),pw⟩
theorem FR.fin(h:FR w lo p l A c t T zs W)(hm:Mods (Is (w.heap.size+1)) W W'):Mods (Is p) w W'∧CE lo p l A c t W':=by
 obtain ⟨md,ce,bx,z_,pw⟩:=h
 exact ⟨md.then hm fun k hk=> .inr (by unfold Is at hk;omega),ce.mods hm fun k hk=> .inr (by unfold Is at hk;omega)⟩
theorem BX.new(h:FR w lo p l A c t T' zs W)(T:TypeId)(cs:Array Value):BX w W.heap.size T cs (W.alloc (.cells cs T)):=⟨by have:=h.sz;omega,Row.new _ _ _⟩
theorem BX.drew(h:BX w x T cs W):BX w x T cs W.drew:=⟨h.lo,h.row⟩
theorem BX.next(h:BX w x T cs W)(hm:Mods (Is p) W W')(hp:p<w.heap.size):BX w x T cs W':=⟨h.lo,h.row.mods hm (fun e=>by unfold Is at e;have:=h.lo;omega)⟩
theorem BX.alloc(h:BX w x T cs W)(o:Obj):BX w x T cs (W.alloc o):=⟨h.lo,h.row.alloc o⟩
theorem BX.put{u0:Value}(h:BX w x T #[u0] W)(u:Value):BX w x T #[u] (W.setCell ⟨x,0,none⟩ u):=⟨h.lo,h.row.put 0 u⟩
theorem BX.far(h:BX w x T cs W)(hxy:y≠x)(hm:Mods (Is y) W W'):BX w x T cs W':=⟨h.lo,h.row.mods hm (fun e=>by unfold Is at e;omega)⟩
theorem Row.ne_type(h:Row W x T cs)(k:Row W y T' cs')(hT:T≠T'):x≠y:=by
 rintro rfl
 have h2:=h.symm.trans k
 injection h2 with h2
 injection h2 with _ h3
 exact hT h3
theorem BX.apart(h:BX w x T cs W)(hy:Row W y T' cs')(hT:T≠T')(hm:Mods (Is y) W W'):BX w x T cs W':=h.far (fun e=>h.row.ne_type hy hT e.symm) hm
end
theorem zfH{w:World}{lo p:Nat}{l:List Nat}{A:Option Addr}{c:Nat}{s:Ip}(h:CE lo p l A c s w):
  Calls Tryz.prog 29 #[.pointer (some ⟨p,0,none⟩)] w fun e w'=>∃v vs,e= .returned (.agg #[.int .i64 (zJ s).1.args,.int .i64 (zJ s).1.regs,v])∧NestV Jk w' w.heap.size v vs (zJ s).1.bs∧Mods (Is p) w w'∧CE lo p l A c (zJ s).2 w':=by
 have hmf:∀(fn:Fn) (first cap:Array Value) (w:World),(Instr.makeFunc fn first cap).run Tryz.prog w= .ok (.func fn first cap) w:=fun _ _ _ _=>rfl
 obtain ⟨⟨a,sa⟩,hA⟩:∃y,fA s=y:=⟨_,rfl⟩
 obtain ⟨⟨r,sr⟩,hR⟩:∃y,fR' s=y:=⟨_,rfl⟩
 obtain ⟨sc,hC⟩:∃y,fC s=y:=⟨_,rfl⟩
 obtain ⟨⟨n,sn⟩,hN⟩:∃y,fN s=y:=⟨_,rfl⟩
 obtain ⟨⟨bs,tb⟩,hFB⟩:∃y,fB s=y:=⟨_,rfl⟩
 have EA:zR s=(a,sa):=hA
 have ER:zR sa=(r,sr):=by have:=hR;unfold fR' at this;rw [hA] at this;exact this
 have EC:(if decide (r<a)=true then zA 9 sr else sr)=sc:=by have:=hC;unfold fC at this;rw [hA,hR] at this;simpa using this
 have EN:yl sc=(n,sn):=by have:=hN;unfold fN at this;rw [hC] at this;exact this
 have EB:zY r n n.toNat 0 sn=(bs,tb):=by have:=hFB;unfold fB at this;rw [hN,hR] at this;exact this
 have EF:zJ s=if tb.err≠0 then (⟨0,0, []⟩,tb) else (⟨a,r,bs⟩,tb):=by unfold zJ;rw [hFB,hA,hR]
 have ra:0≤a∧a≤1048576:=by have:=yM (s:=s);rw [EA] at this;exact this
 have rr:0≤r∧r≤1048576:=by have:=yM (s:=sa);rw [ER] at this;exact this
 obtain ⟨FE,hFE⟩:∃y,y=zJ s:=⟨_,rfl⟩
 rw [←hFE] at EF⊢
 have K1:Hid (∀W,CE lo p l A c s W→Calls Tryz.prog 68 #[.pointer (some ⟨p,0,none⟩)] W fun e w'=>e= .returned (.int .i64 a)∧Mods (Is p) W w'∧CE lo p l A c sa w'):=fun W hW=>by have:=Zb hW;rw [EA] at this;exact this
 have K2:Hid (∀W,CE lo p l A c sa W→Calls Tryz.prog 68 #[.pointer (some ⟨p,0,none⟩)] W fun e w'=>e= .returned (.int .i64 r)∧Mods (Is p) W w'∧CE lo p l A c sr w'):=fun W hW=>by have:=Zb hW;rw [ER] at this;exact this
 have K3:Hid (∀W,CE lo p l A c sr W→Calls Tryz.prog 69 #[.pointer (some ⟨p,0,none⟩),.bool (decide (r<a)),.int .i64 9] W fun e w'=>e= .returned (.tuple #[])∧Mods (Is p) W w'∧CE lo p l A c sc w'):=fun W hW=>by have:=JD hW (decide (r<a)) 9 (by decide);rw [EC] at this;exact this
 have K4:Hid (∀W x1 x2,CE lo p l A c sc W→Row W x1 82 #[.pointer (some ⟨p,0,none⟩)]→Row W x2 3 #[.int .i64 r]→x1≠p→x2≠p→Calls Tryz.prog 73 #[.pointer (some ⟨p,0,none⟩),.int .i64 r,.func (.func 70) #[] #[.pointer (some ⟨x1,0,none⟩),.pointer (some ⟨x2,0,none⟩)],.func (.func 72) #[] #[]] W
   fun e w'=>∃v,e= .returned v∧NB Jk W lo p l A c tb v bs w'):=fun W x1 x2 hW h1 h2 n1 n2=>by
  have:=Q8 hW h1 h2 rr n1 n2
  rw [EN] at this
  dsimp only at this
  rw [EB] at this
  exact this
 have HEF:=qH EF
 have HF:Hid (FR w lo p l A c s 25 #[.int .i64 0,.int .i64 0,.slice none 0 0] ((w.alloc (.cells #[.pointer (some ⟨p,0,none⟩)] 82)).alloc (.cells #[.int .i64 0,.int .i64 0,.slice none 0 0] 25))):=FR.new h _ _
 clear hA hR hC hN hFB EA ER EC EN EB EF hFE h
 go_enter Tryz.func29,Tryz.ntmps29
 go_upto_region 1 with fail
 generalize ((w.alloc (.cells #[.pointer (some ⟨p,0,none⟩)] 82)).alloc (.cells #[.int .i64 0,.int .i64 0,.slice none 0 0] 25))=W0 at*
 go_cut [3,4] from 8 (fun s3 s4 wx=>∃x0,s3= .int .i64 a∧s4= .pointer (some ⟨x0,0,none⟩)∧Hid (FR w lo p l A c sr 25 #[.int .i64 0,.int .i64 0,.slice none 0 0] wx)∧Hid (BX w x0 3 #[.int .i64 r] wx))
 case first=>
  go_wp2_with fail
  refine wp_region_held_drew (S:=fun w'=>w'.cell? ⟨w.heap.size,0,none⟩=some (.pointer (some ⟨p,0,none⟩))) (by kernel_rfl) (HF.out.drew.bx.cell 0) (fun hHeld=> ?_)
  replace HF:=qH HF.out.drew
  generalize hVV:W0.drew=V at*
  clear hVV
  refine ze 0 8 (.pointer (some ⟨p,0,none⟩)) rfl rfl (by kernel_rfl) (by kernel_rfl) (by kernel_rfl) (fun _ _ _ h=>h) (Or.inl ⟨by rfl,?_⟩) hHeld ?_
  ·intro w9 hSw
   (try dsimp only at hSw)
   go_simp
  (try simp only [Act.put,lh,li,lj])
  refine ze 2 10 (.pointer (some ⟨p,0,none⟩)) rfl rfl (by kernel_rfl) (by kernel_rfl) (by kernel_rfl) (fun _ _ _ h=>h) (Or.inl ⟨by rfl,?_⟩) hHeld ?_
  ·intro w9 hSw
   (try dsimp only at hSw)
   go_simp
  (try simp only [Act.put,lh,li,lj])
  repeat' (first
   |exact lq
   |(refine AllReadyH.cons (i:=1) rfl (fun K hK=> ?_) ?_;focus (go_simp;refine (K1.out _ HF.out.ce).mono ?_;rintro e V ⟨rfl,hm,hc⟩;(try go_wp2_with fail);(try replace HB0:=qH (HB0.out.next hm HF.out.pw));replace HF:=qH (HF.out.next hm hc);refine hK.out _ _ (HF.out.bx.cell 0) (fun hHeld=> ?_);clear hK K;clear hm hc))
   |(refine AllReadyH.cons (i:=3) rfl (fun K hK=> ?_) ?_;focus (go_simp;refine (K2.out _ HF.out.ce).mono ?_;rintro e V ⟨rfl,hm,hc⟩;(try go_wp2_with fail);(try replace HB0:=qH (HB0.out.next hm HF.out.pw));replace HF:=qH (HF.out.next hm hc);refine hK.out _ _ (HF.out.bx.cell 0) (fun hHeld=> ?_);clear hK K;clear hm hc))
   |(refine AllReadyH.cons (i:=4) rfl (fun K hK=> ?_) ?_;focus (go_simp;have HB0:=qH (BX.new HF.out 3 #[.int .i64 0]);replace HF:=qH (HF.out.alloc (.cells #[.int .i64 0] 3));refine hK.out _ _ (HF.out.bx.cell 0) (fun hHeld=> ?_);clear hK K;generalize V.heap.size=x0 at*;generalize V.alloc (.cells #[.int .i64 0] 3)=V at*))
   |(refine AllReadyH.cons (i:=5) rfl (fun K hK=> ?_) ?_;focus (go_simp;refine hK.out _ _ (HF.out.bx.cell 0) (fun hHeld=> ?_);clear hK K))
   |(refine AllReadyH.cons (i:=6) rfl (fun K hK=> ?_) ?_;focus (have c0:=HB0.out.row.k0;have f0:=HB0.out.row.frozen 0;replace HF:=qH (HF.out.mods HB0.out.lo ((Mods.refl _ _).put 0 (.int .i64 r)));replace HB0:=qH (HB0.out.put (.int .i64 r));go_simp;refine hK.out _ _ (HF.out.bx.cell 0) (fun hHeld=> ?_);clear hK K;clear c0 f0;generalize (V.setCell ⟨x0,0,none⟩ (.int .i64 r))=V at*))
   |refine wpAnyH_ready (rs:= [1]) (by decide+kernel) (by simp) ?_
   |refine wpAnyH_ready (rs:= [1,4]) (by decide+kernel) (by simp) ?_
   |refine wpAnyH_ready (rs:= [3]) (by decide+kernel) (by simp) ?_
   |refine wpAnyH_ready (rs:= [3,4]) (by decide+kernel) (by simp) ?_
   |refine wpAnyH_ready (rs:= [4]) (by decide+kernel) (by simp) ?_
   |refine wpAnyH_ready (rs:= [5]) (by decide+kernel) (by simp) ?_
   |refine wpAnyH_ready (rs:= [6]) (by decide+kernel) (by simp) ?_
   |(refine wpAnyH_done (by decide+kernel) ?_ _;clear hHeld;go_wp2_with fail;focus (go_meet;case rel=>exact ⟨x0,rfl,rfl,HF.out,HB0.out⟩)))
 case rest=>
  clear HF K1 K2
  obtain ⟨x0,rfl,rfl,HF,HB0⟩:=hcut
  have c0:=HF.out.bx.k0;have d0:=HB0.out.row.k0
  go_wp2_with fail
  refine (K3.out _ HF.out.ce).mono ?_
  rintro e W1 ⟨rfl,hm,hc⟩
  have HF1:=qH (HF.out.next hm hc)
  have HB01:=qH (HB0.out.next hm HF.out.pw)
  clear hm hc K3 HF HB0 c0 d0
  have HF:=HF1
  have HB0:=HB01
  clear HF1 HB01
  have c0:=HF.out.bx.k0;have d0:=HB0.out.row.k0
  go_upto_region 5 with fail
  clear c0 d0
  go_cut [7] from 18 (fun s7 wx=>∃y Av cv vs,s7= .pointer (some ⟨y,0,none⟩)∧Hid (FR w lo p l A c tb 25 #[.int .i64 0,.int .i64 0,.slice none 0 0] wx)∧Hid (Row wx y 25 #[.int .i64 a,.int .i64 r,.slice Av bs.length cv])∧Hid (NestV Jk wx (w.heap.size+1+1) (.slice Av bs.length cv) vs bs))
  case first=>
   go_wp2_with fail
   have HF_0:=qH HF.out.drew
   have HB0_0:=qH HB0.out.drew
   refine wp_region_held_drew (S:=fun w'=>w'.cell? ⟨w.heap.size,0,none⟩=some (.pointer (some ⟨p,0,none⟩))∧w'.cell? ⟨x0,0,none⟩=some (.int .i64 r)) (by kernel_rfl) (⟨HF_0.out.bx.cell 0,HB0_0.out.row.cell 0⟩) (fun hHeld=> ?_)
   clear HF HB0
   generalize hVV:W1.drew=V_0 at*
   clear hVV
   refine ze 0 18 (.int .i64 a) rfl rfl (by kernel_rfl) (by kernel_rfl) (by kernel_rfl) (fun _ _ _ h=>h) (Or.inl ⟨by rfl,?_⟩) hHeld ?_
   ·intro w9 hSw
    (try dsimp only at hSw)
    go_simp
   (try simp only [Act.put,lh,li,lj])
   refine ze 1 19 (.int .i64 r) rfl rfl (by kernel_rfl) (by kernel_rfl) (by kernel_rfl) (fun _ _ _ h=>h) (Or.inl ⟨by rfl,?_⟩) hHeld ?_
   ·intro w9 hSw
    (try dsimp only at hSw)
    go_simp
   (try simp only [Act.put,lh,li,lj])
   refine ze 2 20 (.pointer (some ⟨p,0,none⟩)) rfl rfl (by kernel_rfl) (by kernel_rfl) (by kernel_rfl) (fun _ _ _ h=>h) (Or.inl ⟨by rfl,?_⟩) hHeld ?_
   ·intro w9 hSw
    (try dsimp only at hSw)
    go_simp
   (try simp only [Act.put,lh,li,lj])
   refine ze 3 21 (.int .i64 r) rfl rfl (by kernel_rfl) (by kernel_rfl) (by kernel_rfl) (fun _ _ _ h=>h) (Or.inl ⟨by rfl,?_⟩) hHeld ?_
   ·intro w9 hSw
    (try dsimp only at hSw)
    go_simp
   (try simp only [Act.put,lh,li,lj])
   refine ze 4 22 (.func (.func 70) #[] #[.pointer (some ⟨w.heap.size,0,none⟩),.pointer (some ⟨x0,0,none⟩)]) rfl rfl (by kernel_rfl) (by kernel_rfl) (by kernel_rfl) (fun _ _ _ h=>h) (Or.inl ⟨by rfl,?_⟩) hHeld ?_
   ·intro w9 hSw
    (try dsimp only at hSw)
    go_simp
   (try simp only [Act.put,lh,li,lj])
   refine ze 5 23 (.func (.func 72) #[] #[]) rfl rfl (by kernel_rfl) (by kernel_rfl) (by kernel_rfl) (fun _ _ _ h=>h) (Or.inl ⟨by rfl,?_⟩) hHeld ?_
   ·intro w9 hSw
    (try dsimp only at hSw)
    go_simp
   (try simp only [Act.put,lh,li,lj])
   refine wpAnyH_ready (rs:= [6,8]) (by kernel_rfl) (by simp) ?_
   refine AllReadyH.cons rfl (fun K hK=> ?_) ?_
   ·go_simp
    refine (K4.out _ _ _ HF_0.out.ce HF_0.out.bx HB0_0.out.row (lG HF_0.out.pw) (lG (Nat.lt_trans HF_0.out.pw (Nat.lt_of_succ_lt HB0_0.out.lo)))).mono ?_
    rintro e V_1 ⟨v,rfl,hnb⟩
    obtain ⟨Av,cv,rfl,_,_⟩:=hnb.slice
    obtain ⟨hm,hc,⟨vs,hn⟩,_⟩:=hnb
    (try go_wp2_with fail)
    have HF_1:=qH (HF_0.out.next hm hc)
    have HB0_1:=qH (HB0_0.out.next hm HF_0.out.pw)
    refine hK.out _ _ (⟨HF_1.out.bx.cell 0,HB0_1.out.row.cell 0⟩) (fun hHeld=> ?_)
    clear hK K
    have HNA:=qH (hn.rebase (base':=w.heap.size+1+1) HF_0.out.sz)
    clear hm hc hn HF_0 HB0_0
    refine ze 7 25 (.agg #[.int .i64 a,.int .i64 r,.slice Av bs.length cv]) rfl rfl (by kernel_rfl) (by kernel_rfl) (by kernel_rfl) (fun _ _ _ h=>h) (Or.inl ⟨by rfl,?_⟩) hHeld ?_
    ·intro w9 hSw
     (try dsimp only at hSw)
     go_simp
    (try simp only [Act.put,lh,li,lj])
    refine wpAnyH_ready (rs:= [8]) (by kernel_rfl) (by simp) ?_
    refine AllReadyH.cons rfl (fun K hK=> ?_) ?_
    ·go_simp
     have HF_2:=qH (HF_1.out.alloc (.cells #[.int .i64 0,.int .i64 0,.slice none 0 0] 25))
     have HY_2:=qH (BX.new HF_1.out 25 #[.int .i64 0,.int .i64 0,.slice none 0 0])
     have HB0_2:=qH (HB0_1.out.alloc (.cells #[.int .i64 0,.int .i64 0,.slice none 0 0] 25))
     refine hK.out _ _ (⟨HF_2.out.bx.cell 0,HB0_2.out.row.cell 0⟩) (fun hHeld=> ?_)
     clear hK K
     clear HF_1 HB0_1
     have HNM:Hid (Mods (No) V_1 (V_1.alloc (.cells #[.int .i64 0,.int .i64 0,.slice none 0 0] 25))):=(Mods.refl No V_1).alloc _
     obtain ⟨y,hy⟩:∃y,y=V_1.heap.size:=⟨_,rfl⟩
     have HYS:Hid (V_1.heap.size≤y):=Nat.le_of_eq hy.symm
     rw [←hy] at HY_2⊢
     clear hy
     generalize (V_1.alloc (.cells #[.int .i64 0,.int .i64 0,.slice none 0 0] 25))=V_2 at*
     refine wpAnyH_ready (rs:= [9]) (by kernel_rfl) (by simp) ?_
     refine AllReadyH.cons rfl (fun K hK=> ?_) ?_
     ·have c0:=HY_2.out.row.cell 0;have f0:=HY_2.out.row.frozen 0
      have c1:=HY_2.out.row.cell 1;have f1:=HY_2.out.row.frozen 1
      have c2:=HY_2.out.row.cell 2;have f2:=HY_2.out.row.frozen 2
      simp only [ln,lk,lm] at c0 c1 c2
      have hms:Mods (Is y) V_2 (((V_2.setCell ⟨y,0,none⟩ (.int .i64 a)).setCell ⟨y,1,none⟩ (.int .i64 r)).setCell ⟨y,2,none⟩ (.slice Av bs.length cv)):=(((Mods.refl _ V_2).put 0 (.int .i64 a)).put 1 (.int .i64 r)).put 2 (.slice Av bs.length cv)
      have HF_3:=qH (HF_2.out.mods HY_2.out.lo hms)
      have HY_3:Hid (Row (((V_2.setCell ⟨y,0,none⟩ (.int .i64 a)).setCell ⟨y,1,none⟩ (.int .i64 r)).setCell ⟨y,2,none⟩ (.slice Av bs.length cv)) y 25 #[.int .i64 a,.int .i64 r,.slice Av bs.length cv]):=qH (((HY_2.out.row.put 0 (.int .i64 a)).put 1 (.int .i64 r)).put 2 (.slice Av bs.length cv))
      have HN:=qH (HNA.out.mods (M:=No) (HNM.out.then hms fun k hk=> .inr (by unfold Is at hk;have:=HYS.out;omega)) fun _ _ _ h=>h)
      have HB0_3:=qH (HB0_2.out.apart HY_2.out.row (by decide) hms)
      go_simp
      refine hK.out _ _ (⟨HF_3.out.bx.cell 0,HB0_3.out.row.cell 0⟩) (fun hHeld=> ?_)
      clear hK K c0 c1 c2 f0 f1 f2
      refine wpAnyH_done (by kernel_rfl) ?_ _
      clear hHeld
      go_wp2_with fail
      go_meet
      case rel=>exact ⟨y,Av,cv,vs,rfl,HF_3.out,HY_3.out,HN.out⟩
     exact lq
    exact lq
   refine AllReadyH.cons rfl (fun K hK=> ?_) ?_
   ·go_simp
    have HF_1:=qH (HF_0.out.alloc (.cells #[.int .i64 0,.int .i64 0,.slice none 0 0] 25))
    have HY_1:=qH (BX.new HF_0.out 25 #[.int .i64 0,.int .i64 0,.slice none 0 0])
    have HB0_1:=qH (HB0_0.out.alloc (.cells #[.int .i64 0,.int .i64 0,.slice none 0 0] 25))
    refine hK.out _ _ (⟨HF_1.out.bx.cell 0,HB0_1.out.row.cell 0⟩) (fun hHeld=> ?_)
    clear hK K
    clear HF_0 HB0_0
    have HYS:Hid (V_0.heap.size<(V_0.alloc (.cells #[.int .i64 0,.int .i64 0,.slice none 0 0] 25)).heap.size):=by show _<_;simp
    generalize V_0.heap.size=y at*
    generalize (V_0.alloc (.cells #[.int .i64 0,.int .i64 0,.slice none 0 0] 25))=V_1 at*
    refine wpAnyH_ready (rs:= [6]) (by kernel_rfl) (by simp) ?_
    refine AllReadyH.cons rfl (fun K hK=> ?_) ?_
    ·go_simp
     refine (K4.out _ _ _ HF_1.out.ce HF_1.out.bx HB0_1.out.row (lG HF_1.out.pw) (lG (Nat.lt_trans HF_1.out.pw (Nat.lt_of_succ_lt HB0_1.out.lo)))).mono ?_
     rintro e V_2 ⟨v,rfl,hnb⟩
     obtain ⟨Av,cv,rfl,_,_⟩:=hnb.slice
     obtain ⟨hm,hc,⟨vs,hn⟩,_⟩:=hnb
     (try go_wp2_with fail)
     have HF_2:=qH (HF_1.out.next hm hc)
     have HB0_2:=qH (HB0_1.out.next hm HF_1.out.pw)
     have HY_2:=qH (HY_1.out.next hm HF_1.out.pw)
     refine hK.out _ _ (⟨HF_2.out.bx.cell 0,HB0_2.out.row.cell 0⟩) (fun hHeld=> ?_)
     clear hK K
     have HNA:=qH hn
     have HSZ:=qH HF_1.out.sz
     clear hm hc hn HF_1 HY_1 HB0_1
     refine ze 7 25 (.agg #[.int .i64 a,.int .i64 r,.slice Av bs.length cv]) rfl rfl (by kernel_rfl) (by kernel_rfl) (by kernel_rfl) (fun _ _ _ h=>h) (Or.inl ⟨by rfl,?_⟩) hHeld ?_
     ·intro w9 hSw
      (try dsimp only at hSw)
      go_simp
     (try simp only [Act.put,lh,li,lj])
     refine wpAnyH_ready (rs:= [9]) (by kernel_rfl) (by simp) ?_
     refine AllReadyH.cons rfl (fun K hK=> ?_) ?_
     ·have c0:=HY_2.out.row.cell 0;have f0:=HY_2.out.row.frozen 0
      have c1:=HY_2.out.row.cell 1;have f1:=HY_2.out.row.frozen 1
      have c2:=HY_2.out.row.cell 2;have f2:=HY_2.out.row.frozen 2
      simp only [ln,lk,lm] at c0 c1 c2
      have hms:Mods (Is y) V_2 (((V_2.setCell ⟨y,0,none⟩ (.int .i64 a)).setCell ⟨y,1,none⟩ (.int .i64 r)).setCell ⟨y,2,none⟩ (.slice Av bs.length cv)):=(((Mods.refl _ V_2).put 0 (.int .i64 a)).put 1 (.int .i64 r)).put 2 (.slice Av bs.length cv)
      have HF_3:=qH (HF_2.out.mods HY_2.out.lo hms)
      have HY_3:Hid (Row (((V_2.setCell ⟨y,0,none⟩ (.int .i64 a)).setCell ⟨y,1,none⟩ (.int .i64 r)).setCell ⟨y,2,none⟩ (.slice Av bs.length cv)) y 25 #[.int .i64 a,.int .i64 r,.slice Av bs.length cv]):=qH (((HY_2.out.row.put 0 (.int .i64 a)).put 1 (.int .i64 r)).put 2 (.slice Av bs.length cv))
      have HN:=qH ((HNA.out.mods hms fun k h1 _ h2=>by unfold Is at h2;have:=HYS.out;omega).rebase (base':=w.heap.size+1+1) HSZ.out)
      have HB0_3:=qH (HB0_2.out.apart HY_2.out.row (by decide) hms)
      go_simp
      refine hK.out _ _ (⟨HF_3.out.bx.cell 0,HB0_3.out.row.cell 0⟩) (fun hHeld=> ?_)
      clear hK K c0 c1 c2 f0 f1 f2
      refine wpAnyH_done (by kernel_rfl) ?_ _
      clear hHeld
      go_wp2_with fail
      go_meet
      case rel=>exact ⟨y,Av,cv,vs,rfl,HF_3.out,HY_3.out,HN.out⟩
     exact lq
    exact lq
   exact lq
  case rest=>
   clear HF HB0 K4
   obtain ⟨y,Av,cv,vs,rfl,HF,HY,HN⟩:=hcut
   have C:=qH (Js HF.out.ce)
   have c0:=HF.out.bx.k0
   by_cases he:tb.err=0
   ·have d0:(tb.err !=0)=false:=by simp [he]
    have HFE:Hid (FE=(⟨a,r,bs⟩,tb)):=by show _=_;rw [HEF.out];exact if_neg fun h9=>h9 he
    clear he HEF
    go_wp2_with fail
    refine C.out.mono ?_
    rintro e wx ⟨rfl,rfl⟩
    clear C c0
    have z0:=HF.out.z_
    have g0:=z0.k0;have gf0:=z0.frozen 0
    have g1:=z0.k1;have gf1:=z0.frozen 1
    have g2:=z0.k2;have gf2:=z0.frozen 2
    clear z0
    have y0:=HY.out.k0
    have y1:=HY.out.k1
    have y2:=HY.out.k2
    go_wp2
    (try simp only [Exit.inBlock,Exit.then])
    have hms:Mods (Is (w.heap.size+1)) wc (((wc.setCell ⟨w.heap.size+1,0,none⟩ (.int .i64 a)).setCell ⟨w.heap.size+1,1,none⟩ (.int .i64 r)).setCell ⟨w.heap.size+1,2,none⟩ (.slice Av bs.length cv)):=(((Mods.refl _ wc).put 0 (.int .i64 a)).put 1 (.int .i64 r)).put 2 (.slice Av bs.length cv)
    have hrow:Row (((wc.setCell ⟨w.heap.size+1,0,none⟩ (.int .i64 a)).setCell ⟨w.heap.size+1,1,none⟩ (.int .i64 r)).setCell ⟨w.heap.size+1,2,none⟩ (.slice Av bs.length cv)) (w.heap.size+1) 25 #[.int .i64 a,.int .i64 r,.slice Av bs.length cv]:=(((HF.out.z_.put 0 (.int .i64 a)).put 1 (.int .i64 r)).put 2 (.slice Av bs.length cv))
    obtain ⟨m1,m2⟩:=HF.out.fin hms
    refine bodyPost_ret (v:= .agg #[.int .i64 a,.int .i64 r,.slice Av bs.length cv]) ?_ rfl ⟨.slice Av bs.length cv,vs,by rw [HFE.out],by rw [HFE.out];exact (HN.out.mods hms fun k h1 _ h2=>by unfold Is at h2;omega).rebase (by omega),m1,by rw [HFE.out];exact m2⟩
    exact results_cell_row rfl _ _ (w.heap.size+1) 25 #[.int .i64 a,.int .i64 r,.slice Av bs.length cv] (0,0) _ rfl hrow Tryz.underlying25 rfl (by kernel_rfl)
   ·have d0:(tb.err !=0)=true:=by simp [he]
    have HFE:Hid (FE=(⟨0,0, []⟩,tb)):=by show _=_;rw [HEF.out];exact if_pos he
    clear he HEF HY HN
    go_wp2_with fail
    refine C.out.mono ?_
    rintro e wx ⟨rfl,rfl⟩
    clear C c0
    have z0:=HF.out.z_
    have g0:=z0.k0;have gf0:=z0.frozen 0
    have g1:=z0.k1;have gf1:=z0.frozen 1
    have g2:=z0.k2;have gf2:=z0.frozen 2
    clear z0
    go_wp2
    (try simp only [Exit.inBlock,Exit.then])
    have hms:Mods (Is (w.heap.size+1)) wc (((wc.setCell ⟨w.heap.size+1,0,none⟩ (.int .i64 0)).setCell ⟨w.heap.size+1,1,none⟩ (.int .i64 0)).setCell ⟨w.heap.size+1,2,none⟩ (.slice none 0 0)):=(((Mods.refl _ wc).put 0 (.int .i64 0)).put 1 (.int .i64 0)).put 2 (.slice none 0 0)
    have hrow:Row (((wc.setCell ⟨w.heap.size+1,0,none⟩ (.int .i64 0)).setCell ⟨w.heap.size+1,1,none⟩ (.int .i64 0)).setCell ⟨w.heap.size+1,2,none⟩ (.slice none 0 0)) (w.heap.size+1) 25 #[.int .i64 0,.int .i64 0,.slice none 0 0]:=(((HF.out.z_.put 0 (.int .i64 0)).put 1 (.int .i64 0)).put 2 (.slice none 0 0))
    obtain ⟨m1,m2⟩:=HF.out.fin hms
    refine bodyPost_ret (v:= .agg #[.int .i64 0,.int .i64 0,.slice none 0 0]) ?_ rfl ⟨.slice none 0 0, [],by rw [HFE.out],by rw [HFE.out];exact NestV.nil _ _,m1,by rw [HFE.out];exact m2⟩
    exact results_cell_row rfl _ _ (w.heap.size+1) 25 #[.int .i64 0,.int .i64 0,.slice none 0 0] (0,0) _ rfl hrow Tryz.underlying25 rfl (by kernel_rfl)
end Go.Proofs.YtnifhpbgmjcndaaGreat
