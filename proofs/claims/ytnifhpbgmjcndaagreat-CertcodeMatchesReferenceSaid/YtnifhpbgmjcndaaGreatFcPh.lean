/- The program of layer 18: MFunc (made by wip/lab/genfcpd.py). -/
import Derived.Test.YtnifhpbgmjcndaaGreatPk10
import Derived.Test.YtnifhpbgmjcndaaGreatFcPd
set_option linter.unusedVariables false
set_option linter.unusedSimpArgs false
set_option maxRecDepth 100000
set_option maxHeartbeats 16000000
namespace Go.Proofs.YtnifhpbgmjcndaaGreat
open Go.RowKit
theorem zeo{w:World}{lo p:Nat}{l:List Nat}{A:Option Addr}{c:Nat}{s:Ip}(h:CE lo p l A c s w):
  Calls Tryz.prog 31 #[.pointer (some ⟨p,0,none⟩)] w fun e w'=>∃v vs,e= .returned (.agg #[.int .i64 (zq s).1.args,.int .i64 (zq s).1.regs,.int .i64 (zq s).1.slots,v])∧NestV jV w' w.heap.size v vs (zq s).1.ms∧Mods (Is p) w w'∧CE lo p l A c (zq s).2 w':=by
 have hmf:∀(fn:Fn) (first cap:Array Value) (w:World),(Instr.makeFunc fn first cap).run Tryz.prog w= .ok (.func fn first cap) w:=fun _ _ _ _=>rfl
 obtain ⟨⟨a,sa⟩,hA⟩:∃y,fA s=y:=⟨_,rfl⟩
 obtain ⟨⟨r,sr⟩,hR⟩:∃y,fR' s=y:=⟨_,rfl⟩
 obtain ⟨⟨sl,ss⟩,hS⟩:∃y,gS s=y:=⟨_,rfl⟩
 obtain ⟨sc,hC⟩:∃y,gC s=y:=⟨_,rfl⟩
 obtain ⟨⟨n,sn⟩,hN⟩:∃y,gN s=y:=⟨_,rfl⟩
 obtain ⟨⟨bs,tb⟩,hFB⟩:∃y,gB s=y:=⟨_,rfl⟩
 have EA:zR s=(a,sa):=hA
 have ER:zR sa=(r,sr):=by have:=hR;unfold fR' at this;rw [hA] at this;exact this
 have ES:zR sr=(sl,ss):=by have:=hS;unfold gS at this;rw [hR] at this;exact this
 have EC:(if decide (sl<a)=true then zA 10 ss else ss)=sc:=by have:=hC;unfold gC at this;rw [hA,hS] at this;simpa using this
 have EN:yl sc=(n,sn):=by have:=hN;unfold gN at this;rw [hC] at this;exact this
 have EB:zK r sl n n.toNat 0 sn=(bs,tb):=by have:=hFB;unfold gB at this;rw [hN,hR,hS] at this;exact this
 have EF:zq s=if tb.err≠0 then (⟨0,0,0, []⟩,tb) else (⟨a,r,sl,bs⟩,tb):=by unfold zq;rw [hFB,hA,hR,hS]
 have ra:0≤a∧a≤1048576:=by have:=yM (s:=s);rw [EA] at this;exact this
 have rr:0≤r∧r≤1048576:=by have:=yM (s:=sa);rw [ER] at this;exact this
 have rs:0≤sl∧sl≤1048576:=by have:=yM (s:=sr);rw [ES] at this;exact this
 obtain ⟨FE,hFE⟩:∃y,y=zq s:=⟨_,rfl⟩
 rw [←hFE] at EF⊢
 have K1:Hid (∀W,CE lo p l A c s W→Calls Tryz.prog 68 #[.pointer (some ⟨p,0,none⟩)] W fun e w'=>e= .returned (.int .i64 a)∧Mods (Is p) W w'∧CE lo p l A c sa w'):=fun W hW=>by have:=Zb hW;rw [EA] at this;exact this
 have K2:Hid (∀W,CE lo p l A c sa W→Calls Tryz.prog 68 #[.pointer (some ⟨p,0,none⟩)] W fun e w'=>e= .returned (.int .i64 r)∧Mods (Is p) W w'∧CE lo p l A c sr w'):=fun W hW=>by have:=Zb hW;rw [ER] at this;exact this
 have K2b:Hid (∀W,CE lo p l A c sr W→Calls Tryz.prog 68 #[.pointer (some ⟨p,0,none⟩)] W fun e w'=>e= .returned (.int .i64 sl)∧Mods (Is p) W w'∧CE lo p l A c ss w'):=fun W hW=>by have:=Zb hW;rw [ES] at this;exact this
 have K3:Hid (∀W,CE lo p l A c ss W→Calls Tryz.prog 69 #[.pointer (some ⟨p,0,none⟩),.bool (decide (sl<a)),.int .i64 10] W fun e w'=>e= .returned (.tuple #[])∧Mods (Is p) W w'∧CE lo p l A c sc w'):=fun W hW=>by have:=JD hW (decide (sl<a)) 10 (by decide);rw [EC] at this;exact this
 have K4:Hid (∀W x1 x2 x3,CE lo p l A c sc W→Row W x1 82 #[.pointer (some ⟨p,0,none⟩)]→Row W x2 3 #[.int .i64 r]→Row W x3 3 #[.int .i64 sl]→x1≠p→x2≠p→x3≠p→Calls Tryz.prog 77 #[.pointer (some ⟨p,0,none⟩),.int .i64 r,.func (.func 74) #[] #[.pointer (some ⟨x1,0,none⟩),.pointer (some ⟨x2,0,none⟩),.pointer (some ⟨x3,0,none⟩)],.func (.func 76) #[] #[]] W
   fun e w'=>∃v,e= .returned v∧NB jV W lo p l A c tb v bs w'):=fun W x1 x2 x3 hW h1 h2 h3 n1 n2 n3=>by
  have:=Qc hW h1 h2 h3 rr rs n1 n2 n3
  rw [EN] at this
  dsimp only at this
  rw [EB] at this
  exact this
 have HEF:=qH EF
 have HF:Hid (FR w lo p l A c s 28 #[.int .i64 0,.int .i64 0,.int .i64 0,.slice none 0 0] ((w.alloc (.cells #[.pointer (some ⟨p,0,none⟩)] 82)).alloc (.cells #[.int .i64 0,.int .i64 0,.int .i64 0,.slice none 0 0] 28))):=FR.new h _ _
 clear hA hR hS hC hN hFB EA ER ES EC EN EB EF hFE h
 go_enter Tryz.func31,Tryz.ntmps31
 go_upto_region 1 with fail
 generalize ((w.alloc (.cells #[.pointer (some ⟨p,0,none⟩)] 82)).alloc (.cells #[.int .i64 0,.int .i64 0,.int .i64 0,.slice none 0 0] 28))=W0 at*
 go_cut [3,4,5] from 9 (fun s3 s4 s5 wx=>∃x0 x1,s3= .int .i64 a∧s4= .pointer (some ⟨x0,0,none⟩)∧s5= .pointer (some ⟨x1,0,none⟩)∧Hid (FR w lo p l A c ss 28 #[.int .i64 0,.int .i64 0,.int .i64 0,.slice none 0 0] wx)∧Hid (BX w x0 3 #[.int .i64 r] wx)∧Hid (BX w x1 3 #[.int .i64 sl] wx)∧x0≠x1)
 case first=>
  go_wp2_with fail
  refine wp_region_held_drew (S:=fun w'=>w'.cell? ⟨w.heap.size,0,none⟩=some (.pointer (some ⟨p,0,none⟩))) (by kernel_rfl) (HF.out.drew.bx.cell 0) (fun hHeld=> ?_)
  replace HF:=qH HF.out.drew
  generalize hVV:W0.drew=V at*
  clear hVV
  refine ze 0 9 (.pointer (some ⟨p,0,none⟩)) rfl rfl (by kernel_rfl) (by kernel_rfl) (by kernel_rfl) (fun _ _ _ h=>h) (Or.inl ⟨by rfl,?_⟩) hHeld ?_
  ·intro w9 hSw
   (try dsimp only at hSw)
   go_simp
  (try simp only [Act.put,lh,li,lj])
  refine ze 2 11 (.pointer (some ⟨p,0,none⟩)) rfl rfl (by kernel_rfl) (by kernel_rfl) (by kernel_rfl) (fun _ _ _ h=>h) (Or.inl ⟨by rfl,?_⟩) hHeld ?_
  ·intro w9 hSw
   (try dsimp only at hSw)
   go_simp
  (try simp only [Act.put,lh,li,lj])
  refine ze 4 13 (.pointer (some ⟨p,0,none⟩)) rfl rfl (by kernel_rfl) (by kernel_rfl) (by kernel_rfl) (fun _ _ _ h=>h) (Or.inl ⟨by rfl,?_⟩) hHeld ?_
  ·intro w9 hSw
   (try dsimp only at hSw)
   go_simp
  (try simp only [Act.put,lh,li,lj])
  repeat' (first
   |exact lq
   |(refine AllReadyH.cons (i:=1) rfl (fun K hK=> ?_) ?_;focus (go_simp;refine (K1.out _ HF.out.ce).mono ?_;rintro e V ⟨rfl,hm,hc⟩;(try go_wp2_with fail);(try replace HB0:=qH (HB0.out.next hm HF.out.pw));(try replace HB1:=qH (HB1.out.next hm HF.out.pw));replace HF:=qH (HF.out.next hm hc);refine hK.out _ _ (HF.out.bx.cell 0) (fun hHeld=> ?_);clear hK K;clear hm hc))
   |(refine AllReadyH.cons (i:=3) rfl (fun K hK=> ?_) ?_;focus (go_simp;refine (K2.out _ HF.out.ce).mono ?_;rintro e V ⟨rfl,hm,hc⟩;(try go_wp2_with fail);(try replace HB0:=qH (HB0.out.next hm HF.out.pw));(try replace HB1:=qH (HB1.out.next hm HF.out.pw));replace HF:=qH (HF.out.next hm hc);refine hK.out _ _ (HF.out.bx.cell 0) (fun hHeld=> ?_);clear hK K;clear hm hc))
   |(refine AllReadyH.cons (i:=5) rfl (fun K hK=> ?_) ?_;focus (go_simp;refine (K2b.out _ HF.out.ce).mono ?_;rintro e V ⟨rfl,hm,hc⟩;(try go_wp2_with fail);(try replace HB0:=qH (HB0.out.next hm HF.out.pw));(try replace HB1:=qH (HB1.out.next hm HF.out.pw));replace HF:=qH (HF.out.next hm hc);refine hK.out _ _ (HF.out.bx.cell 0) (fun hHeld=> ?_);clear hK K;clear hm hc))
   |(refine AllReadyH.cons (i:=6) rfl (fun K hK=> ?_) ?_;focus (go_simp;have HB0:=qH (BX.new HF.out 3 #[.int .i64 0]);(try have hne:V.heap.size≠x1:=by have:=HB1.out.row.lt;omega);(try replace HB1:=qH (HB1.out.alloc (.cells #[.int .i64 0] 3)));replace HF:=qH (HF.out.alloc (.cells #[.int .i64 0] 3));refine hK.out _ _ (HF.out.bx.cell 0) (fun hHeld=> ?_);clear hK K;generalize V.heap.size=x0 at*;generalize V.alloc (.cells #[.int .i64 0] 3)=V at*))
   |(refine AllReadyH.cons (i:=7) rfl (fun K hK=> ?_) ?_;focus (go_simp;have HB1:=qH (BX.new HF.out 3 #[.int .i64 0]);(try have hne:V.heap.size≠x0:=by have:=HB0.out.row.lt;omega);(try replace HB0:=qH (HB0.out.alloc (.cells #[.int .i64 0] 3)));replace HF:=qH (HF.out.alloc (.cells #[.int .i64 0] 3));refine hK.out _ _ (HF.out.bx.cell 0) (fun hHeld=> ?_);clear hK K;generalize V.heap.size=x1 at*;generalize V.alloc (.cells #[.int .i64 0] 3)=V at*))
   |(refine AllReadyH.cons (i:=8) rfl (fun K hK=> ?_) ?_;focus (go_simp;refine hK.out _ _ (HF.out.bx.cell 0) (fun hHeld=> ?_);clear hK K))
   |(refine AllReadyH.cons (i:=9) rfl (fun K hK=> ?_) ?_;focus (have c0:=HB0.out.row.k0;have f0:=HB0.out.row.frozen 0;replace HF:=qH (HF.out.mods HB0.out.lo ((Mods.refl _ _).put 0 (.int .i64 r)));replace HB1:=qH (HB1.out.far (y:=x0) (by omega) ((Mods.refl _ _).put 0 (.int .i64 r)));replace HB0:=qH (HB0.out.put (.int .i64 r));go_simp;refine hK.out _ _ (HF.out.bx.cell 0) (fun hHeld=> ?_);clear hK K;clear c0 f0;generalize (V.setCell ⟨x0,0,none⟩ (.int .i64 r))=V at*))
   |(refine AllReadyH.cons (i:=10) rfl (fun K hK=> ?_) ?_;focus (have c0:=HB1.out.row.k0;have f0:=HB1.out.row.frozen 0;replace HF:=qH (HF.out.mods HB1.out.lo ((Mods.refl _ _).put 0 (.int .i64 sl)));replace HB0:=qH (HB0.out.far (y:=x1) (by omega) ((Mods.refl _ _).put 0 (.int .i64 sl)));replace HB1:=qH (HB1.out.put (.int .i64 sl));go_simp;refine hK.out _ _ (HF.out.bx.cell 0) (fun hHeld=> ?_);clear hK K;clear c0 f0;generalize (V.setCell ⟨x1,0,none⟩ (.int .i64 sl))=V at*))
   |refine wpAnyH_ready (rs:= [1]) (by decide+kernel) (by simp) ?_
   |refine wpAnyH_ready (rs:= [1,6]) (by decide+kernel) (by simp) ?_
   |refine wpAnyH_ready (rs:= [1,7]) (by decide+kernel) (by simp) ?_
   |refine wpAnyH_ready (rs:= [1,6,7]) (by decide+kernel) (by simp) ?_
   |refine wpAnyH_ready (rs:= [3]) (by decide+kernel) (by simp) ?_
   |refine wpAnyH_ready (rs:= [3,6]) (by decide+kernel) (by simp) ?_
   |refine wpAnyH_ready (rs:= [3,7]) (by decide+kernel) (by simp) ?_
   |refine wpAnyH_ready (rs:= [3,6,7]) (by decide+kernel) (by simp) ?_
   |refine wpAnyH_ready (rs:= [5]) (by decide+kernel) (by simp) ?_
   |refine wpAnyH_ready (rs:= [5,6]) (by decide+kernel) (by simp) ?_
   |refine wpAnyH_ready (rs:= [5,7]) (by decide+kernel) (by simp) ?_
   |refine wpAnyH_ready (rs:= [5,6,7]) (by decide+kernel) (by simp) ?_
   |refine wpAnyH_ready (rs:= [6]) (by decide+kernel) (by simp) ?_
   |refine wpAnyH_ready (rs:= [7]) (by decide+kernel) (by simp) ?_
   |refine wpAnyH_ready (rs:= [6,7]) (by decide+kernel) (by simp) ?_
   |refine wpAnyH_ready (rs:= [8]) (by decide+kernel) (by simp) ?_
   |refine wpAnyH_ready (rs:= [9]) (by decide+kernel) (by simp) ?_
   |refine wpAnyH_ready (rs:= [10]) (by decide+kernel) (by simp) ?_
   |(refine wpAnyH_done (by decide+kernel) ?_ _;clear hHeld;go_wp2_with fail;focus (go_meet;case rel=>exact ⟨x0,x1,rfl,rfl,rfl,HF.out,HB0.out,HB1.out,(by omega)⟩)))
 case rest=>
  clear HF K1 K2 K2b
  obtain ⟨x0,x1,rfl,rfl,rfl,HF,HB0,HB1,hxx⟩:=hcut
  have c0:=HF.out.bx.k0;have d1:=HB1.out.row.k0
  go_wp2_with fail
  refine (K3.out _ HF.out.ce).mono ?_
  rintro e W1 ⟨rfl,hm,hc⟩
  have HF1:=qH (HF.out.next hm hc)
  have HB01:=qH (HB0.out.next hm HF.out.pw)
  have HB11:=qH (HB1.out.next hm HF.out.pw)
  clear hm hc K3 HF HB0 HB1 c0 d1
  have HF:=HF1
  have HB0:=HB01
  have HB1:=HB11
  clear HF1 HB01 HB11
  have c0:=HF.out.bx.k0;have d0:=HB0.out.row.k0
  go_upto_region 5 with fail
  clear c0 d0
  go_cut [8] from 21 (fun s8 wx=>∃y Av cv vs,s8= .pointer (some ⟨y,0,none⟩)∧Hid (FR w lo p l A c tb 28 #[.int .i64 0,.int .i64 0,.int .i64 0,.slice none 0 0] wx)∧Hid (Row wx y 28 #[.int .i64 a,.int .i64 r,.int .i64 sl,.slice Av bs.length cv])∧Hid (NestV jV wx (w.heap.size+1+1) (.slice Av bs.length cv) vs bs))
  case first=>
   go_wp2_with fail
   have HF_0:=qH HF.out.drew
   have HB0_0:=qH HB0.out.drew
   have HB1_0:=qH HB1.out.drew
   refine wp_region_held_drew (S:=fun w'=>w'.cell? ⟨w.heap.size,0,none⟩=some (.pointer (some ⟨p,0,none⟩))∧w'.cell? ⟨x0,0,none⟩=some (.int .i64 r)∧w'.cell? ⟨x1,0,none⟩=some (.int .i64 sl)) (by kernel_rfl) (⟨HF_0.out.bx.cell 0,HB0_0.out.row.cell 0,HB1_0.out.row.cell 0⟩) (fun hHeld=> ?_)
   clear HF HB0 HB1
   generalize hVV:W1.drew=V_0 at*
   clear hVV
   refine ze 0 21 (.int .i64 a) rfl rfl (by kernel_rfl) (by kernel_rfl) (by kernel_rfl) (fun _ _ _ h=>h) (Or.inl ⟨by rfl,?_⟩) hHeld ?_
   ·intro w9 hSw
    (try dsimp only at hSw)
    go_simp
   (try simp only [Act.put,lh,li,lj])
   refine ze 1 22 (.int .i64 r) rfl rfl (by kernel_rfl) (by kernel_rfl) (by kernel_rfl) (fun _ _ _ h=>h) (Or.inl ⟨by rfl,?_⟩) hHeld ?_
   ·intro w9 hSw
    (try dsimp only at hSw)
    go_simp
   (try simp only [Act.put,lh,li,lj])
   refine ze 2 23 (.int .i64 sl) rfl rfl (by kernel_rfl) (by kernel_rfl) (by kernel_rfl) (fun _ _ _ h=>h) (Or.inl ⟨by rfl,?_⟩) hHeld ?_
   ·intro w9 hSw
    (try dsimp only at hSw)
    go_simp
   (try simp only [Act.put,lh,li,lj])
   refine ze 3 24 (.pointer (some ⟨p,0,none⟩)) rfl rfl (by kernel_rfl) (by kernel_rfl) (by kernel_rfl) (fun _ _ _ h=>h) (Or.inl ⟨by rfl,?_⟩) hHeld ?_
   ·intro w9 hSw
    (try dsimp only at hSw)
    go_simp
   (try simp only [Act.put,lh,li,lj])
   refine ze 4 25 (.int .i64 r) rfl rfl (by kernel_rfl) (by kernel_rfl) (by kernel_rfl) (fun _ _ _ h=>h) (Or.inl ⟨by rfl,?_⟩) hHeld ?_
   ·intro w9 hSw
    (try dsimp only at hSw)
    go_simp
   (try simp only [Act.put,lh,li,lj])
   refine ze 5 26 (.func (.func 74) #[] #[.pointer (some ⟨w.heap.size,0,none⟩),.pointer (some ⟨x0,0,none⟩),.pointer (some ⟨x1,0,none⟩)]) rfl rfl (by kernel_rfl) (by kernel_rfl) (by kernel_rfl) (fun _ _ _ h=>h) (Or.inl ⟨by rfl,?_⟩) hHeld ?_
   ·intro w9 hSw
    (try dsimp only at hSw)
    go_simp
   (try simp only [Act.put,lh,li,lj])
   refine ze 6 27 (.func (.func 76) #[] #[]) rfl rfl (by kernel_rfl) (by kernel_rfl) (by kernel_rfl) (fun _ _ _ h=>h) (Or.inl ⟨by rfl,?_⟩) hHeld ?_
   ·intro w9 hSw
    (try dsimp only at hSw)
    go_simp
   (try simp only [Act.put,lh,li,lj])
   refine wpAnyH_ready (rs:= [7,9]) (by kernel_rfl) (by simp) ?_
   refine AllReadyH.cons rfl (fun K hK=> ?_) ?_
   ·go_simp
    refine (K4.out _ _ _ _ HF_0.out.ce HF_0.out.bx HB0_0.out.row HB1_0.out.row (lG HF_0.out.pw) (lG (Nat.lt_trans HF_0.out.pw (Nat.lt_of_succ_lt HB0_0.out.lo))) (lG (Nat.lt_trans HF_0.out.pw (Nat.lt_of_succ_lt HB1_0.out.lo)))).mono ?_
    rintro e V_1 ⟨v,rfl,hnb⟩
    obtain ⟨Av,cv,rfl,_,_⟩:=hnb.slice
    obtain ⟨hm,hc,⟨vs,hn⟩,_⟩:=hnb
    (try go_wp2_with fail)
    have HF_1:=qH (HF_0.out.next hm hc)
    have HB0_1:=qH (HB0_0.out.next hm HF_0.out.pw)
    have HB1_1:=qH (HB1_0.out.next hm HF_0.out.pw)
    refine hK.out _ _ (⟨HF_1.out.bx.cell 0,HB0_1.out.row.cell 0,HB1_1.out.row.cell 0⟩) (fun hHeld=> ?_)
    clear hK K
    have HNA:=qH (hn.rebase (base':=w.heap.size+1+1) HF_0.out.sz)
    clear hm hc hn HF_0 HB0_0 HB1_0
    refine ze 8 29 (.agg #[.int .i64 a,.int .i64 r,.int .i64 sl,.slice Av bs.length cv]) rfl rfl (by kernel_rfl) (by kernel_rfl) (by kernel_rfl) (fun _ _ _ h=>h) (Or.inl ⟨by rfl,?_⟩) hHeld ?_
    ·intro w9 hSw
     (try dsimp only at hSw)
     go_simp
    (try simp only [Act.put,lh,li,lj])
    refine wpAnyH_ready (rs:= [9]) (by kernel_rfl) (by simp) ?_
    refine AllReadyH.cons rfl (fun K hK=> ?_) ?_
    ·go_simp
     have HF_2:=qH (HF_1.out.alloc (.cells #[.int .i64 0,.int .i64 0,.int .i64 0,.slice none 0 0] 28))
     have HY_2:=qH (BX.new HF_1.out 28 #[.int .i64 0,.int .i64 0,.int .i64 0,.slice none 0 0])
     have HB0_2:=qH (HB0_1.out.alloc (.cells #[.int .i64 0,.int .i64 0,.int .i64 0,.slice none 0 0] 28))
     have HB1_2:=qH (HB1_1.out.alloc (.cells #[.int .i64 0,.int .i64 0,.int .i64 0,.slice none 0 0] 28))
     refine hK.out _ _ (⟨HF_2.out.bx.cell 0,HB0_2.out.row.cell 0,HB1_2.out.row.cell 0⟩) (fun hHeld=> ?_)
     clear hK K
     clear HF_1 HB0_1 HB1_1
     have HNM:Hid (Mods (No) V_1 (V_1.alloc (.cells #[.int .i64 0,.int .i64 0,.int .i64 0,.slice none 0 0] 28))):=(Mods.refl No V_1).alloc _
     obtain ⟨y,hy⟩:∃y,y=V_1.heap.size:=⟨_,rfl⟩
     have HYS:Hid (V_1.heap.size≤y):=Nat.le_of_eq hy.symm
     rw [←hy] at HY_2⊢
     clear hy
     generalize (V_1.alloc (.cells #[.int .i64 0,.int .i64 0,.int .i64 0,.slice none 0 0] 28))=V_2 at*
     refine wpAnyH_ready (rs:= [10]) (by kernel_rfl) (by simp) ?_
     refine AllReadyH.cons rfl (fun K hK=> ?_) ?_
     ·have c0:=HY_2.out.row.cell 0;have f0:=HY_2.out.row.frozen 0
      have c1:=HY_2.out.row.cell 1;have f1:=HY_2.out.row.frozen 1
      have c2:=HY_2.out.row.cell 2;have f2:=HY_2.out.row.frozen 2
      have c3:=HY_2.out.row.cell 3;have f3:=HY_2.out.row.frozen 3
      simp only [ln,lk,lm] at c0 c1 c2 c3
      have hms:Mods (Is y) V_2 ((((V_2.setCell ⟨y,0,none⟩ (.int .i64 a)).setCell ⟨y,1,none⟩ (.int .i64 r)).setCell ⟨y,2,none⟩ (.int .i64 sl)).setCell ⟨y,3,none⟩ (.slice Av bs.length cv)):=((((Mods.refl _ V_2).put 0 (.int .i64 a)).put 1 (.int .i64 r)).put 2 (.int .i64 sl)).put 3 (.slice Av bs.length cv)
      have HF_3:=qH (HF_2.out.mods HY_2.out.lo hms)
      have HY_3:Hid (Row ((((V_2.setCell ⟨y,0,none⟩ (.int .i64 a)).setCell ⟨y,1,none⟩ (.int .i64 r)).setCell ⟨y,2,none⟩ (.int .i64 sl)).setCell ⟨y,3,none⟩ (.slice Av bs.length cv)) y 28 #[.int .i64 a,.int .i64 r,.int .i64 sl,.slice Av bs.length cv]):=qH ((((HY_2.out.row.put 0 (.int .i64 a)).put 1 (.int .i64 r)).put 2 (.int .i64 sl)).put 3 (.slice Av bs.length cv))
      have HN:=qH (HNA.out.mods (M:=No) (HNM.out.then hms fun k hk=> .inr (by unfold Is at hk;have:=HYS.out;omega)) fun _ _ _ h=>h)
      have HB0_3:=qH (HB0_2.out.apart HY_2.out.row (by decide) hms)
      have HB1_3:=qH (HB1_2.out.apart HY_2.out.row (by decide) hms)
      go_simp
      refine hK.out _ _ (⟨HF_3.out.bx.cell 0,HB0_3.out.row.cell 0,HB1_3.out.row.cell 0⟩) (fun hHeld=> ?_)
      clear hK K c0 c1 c2 c3 f0 f1 f2 f3
      refine wpAnyH_done (by kernel_rfl) ?_ _
      clear hHeld
      go_wp2_with fail
      go_meet
      case rel=>exact ⟨y,Av,cv,vs,rfl,HF_3.out,HY_3.out,HN.out⟩
     exact lq
    exact lq
   refine AllReadyH.cons rfl (fun K hK=> ?_) ?_
   ·go_simp
    have HF_1:=qH (HF_0.out.alloc (.cells #[.int .i64 0,.int .i64 0,.int .i64 0,.slice none 0 0] 28))
    have HY_1:=qH (BX.new HF_0.out 28 #[.int .i64 0,.int .i64 0,.int .i64 0,.slice none 0 0])
    have HB0_1:=qH (HB0_0.out.alloc (.cells #[.int .i64 0,.int .i64 0,.int .i64 0,.slice none 0 0] 28))
    have HB1_1:=qH (HB1_0.out.alloc (.cells #[.int .i64 0,.int .i64 0,.int .i64 0,.slice none 0 0] 28))
    refine hK.out _ _ (⟨HF_1.out.bx.cell 0,HB0_1.out.row.cell 0,HB1_1.out.row.cell 0⟩) (fun hHeld=> ?_)
    clear hK K
    clear HF_0 HB0_0 HB1_0
    have HYS:Hid (V_0.heap.size<(V_0.alloc (.cells #[.int .i64 0,.int .i64 0,.int .i64 0,.slice none 0 0] 28)).heap.size):=by show _<_;simp
    generalize V_0.heap.size=y at*
    generalize (V_0.alloc (.cells #[.int .i64 0,.int .i64 0,.int .i64 0,.slice none 0 0] 28))=V_1 at*
    refine wpAnyH_ready (rs:= [7]) (by kernel_rfl) (by simp) ?_
    refine AllReadyH.cons rfl (fun K hK=> ?_) ?_
    ·go_simp
     refine (K4.out _ _ _ _ HF_1.out.ce HF_1.out.bx HB0_1.out.row HB1_1.out.row (lG HF_1.out.pw) (lG (Nat.lt_trans HF_1.out.pw (Nat.lt_of_succ_lt HB0_1.out.lo))) (lG (Nat.lt_trans HF_1.out.pw (Nat.lt_of_succ_lt HB1_1.out.lo)))).mono ?_
     rintro e V_2 ⟨v,rfl,hnb⟩
     obtain ⟨Av,cv,rfl,_,_⟩:=hnb.slice
     obtain ⟨hm,hc,⟨vs,hn⟩,_⟩:=hnb
     (try go_wp2_with fail)
     have HF_2:=qH (HF_1.out.next hm hc)
     have HB0_2:=qH (HB0_1.out.next hm HF_1.out.pw)
     have HB1_2:=qH (HB1_1.out.next hm HF_1.out.pw)
     have HY_2:=qH (HY_1.out.next hm HF_1.out.pw)
     refine hK.out _ _ (⟨HF_2.out.bx.cell 0,HB0_2.out.row.cell 0,HB1_2.out.row.cell 0⟩) (fun hHeld=> ?_)
     clear hK K
     have HNA:=qH hn
     have HSZ:=qH HF_1.out.sz
     clear hm hc hn HF_1 HY_1 HB0_1 HB1_1
     refine ze 8 29 (.agg #[.int .i64 a,.int .i64 r,.int .i64 sl,.slice Av bs.length cv]) rfl rfl (by kernel_rfl) (by kernel_rfl) (by kernel_rfl) (fun _ _ _ h=>h) (Or.inl ⟨by rfl,?_⟩) hHeld ?_
     ·intro w9 hSw
      (try dsimp only at hSw)
      go_simp
     (try simp only [Act.put,lh,li,lj])
     refine wpAnyH_ready (rs:= [10]) (by kernel_rfl) (by simp) ?_
     refine AllReadyH.cons rfl (fun K hK=> ?_) ?_
     ·have c0:=HY_2.out.row.cell 0;have f0:=HY_2.out.row.frozen 0
      have c1:=HY_2.out.row.cell 1;have f1:=HY_2.out.row.frozen 1
      have c2:=HY_2.out.row.cell 2;have f2:=HY_2.out.row.frozen 2
      have c3:=HY_2.out.row.cell 3;have f3:=HY_2.out.row.frozen 3
      simp only [ln,lk,lm] at c0 c1 c2 c3
      have hms:Mods (Is y) V_2 ((((V_2.setCell ⟨y,0,none⟩ (.int .i64 a)).setCell ⟨y,1,none⟩ (.int .i64 r)).setCell ⟨y,2,none⟩ (.int .i64 sl)).setCell ⟨y,3,none⟩ (.slice Av bs.length cv)):=((((Mods.refl _ V_2).put 0 (.int .i64 a)).put 1 (.int .i64 r)).put 2 (.int .i64 sl)).put 3 (.slice Av bs.length cv)
      have HF_3:=qH (HF_2.out.mods HY_2.out.lo hms)
      have HY_3:Hid (Row ((((V_2.setCell ⟨y,0,none⟩ (.int .i64 a)).setCell ⟨y,1,none⟩ (.int .i64 r)).setCell ⟨y,2,none⟩ (.int .i64 sl)).setCell ⟨y,3,none⟩ (.slice Av bs.length cv)) y 28 #[.int .i64 a,.int .i64 r,.int .i64 sl,.slice Av bs.length cv]):=qH ((((HY_2.out.row.put 0 (.int .i64 a)).put 1 (.int .i64 r)).put 2 (.int .i64 sl)).put 3 (.slice Av bs.length cv))
      have HN:=qH ((HNA.out.mods hms fun k h1 _ h2=>by unfold Is at h2;have:=HYS.out;omega).rebase (base':=w.heap.size+1+1) HSZ.out)
      have HB0_3:=qH (HB0_2.out.apart HY_2.out.row (by decide) hms)
      have HB1_3:=qH (HB1_2.out.apart HY_2.out.row (by decide) hms)
      go_simp
      refine hK.out _ _ (⟨HF_3.out.bx.cell 0,HB0_3.out.row.cell 0,HB1_3.out.row.cell 0⟩) (fun hHeld=> ?_)
      clear hK K c0 c1 c2 c3 f0 f1 f2 f3
      refine wpAnyH_done (by kernel_rfl) ?_ _
      clear hHeld
      go_wp2_with fail
      go_meet
      case rel=>exact ⟨y,Av,cv,vs,rfl,HF_3.out,HY_3.out,HN.out⟩
     exact lq
    exact lq
   exact lq
  case rest=>
   clear HF HB0 HB1 K4
   obtain ⟨y,Av,cv,vs,rfl,HF,HY,HN⟩:=hcut
   have C:=qH (Js HF.out.ce)
   have c0:=HF.out.bx.k0
   by_cases he:tb.err=0
   ·have d0:(tb.err !=0)=false:=by simp [he]
    have HFE:Hid (FE=(⟨a,r,sl,bs⟩,tb)):=by show _=_;rw [HEF.out];exact if_neg fun h9=>h9 he
    clear he HEF
    go_wp2_with fail
    refine C.out.mono ?_
    rintro e wx ⟨rfl,rfl⟩
    clear C c0
    have z0:=HF.out.z_
    have g0:=z0.k0;have gf0:=z0.frozen 0
    have g1:=z0.k1;have gf1:=z0.frozen 1
    have g2:=z0.k2;have gf2:=z0.frozen 2
    have g3:=z0.k3;have gf3:=z0.frozen 3
    clear z0
    have y0:=HY.out.k0
    have y1:=HY.out.k1
    have y2:=HY.out.k2
    have y3:=HY.out.k3
    go_wp2
    (try simp only [Exit.inBlock,Exit.then])
    have hms:Mods (Is (w.heap.size+1)) wc ((((wc.setCell ⟨w.heap.size+1,0,none⟩ (.int .i64 a)).setCell ⟨w.heap.size+1,1,none⟩ (.int .i64 r)).setCell ⟨w.heap.size+1,2,none⟩ (.int .i64 sl)).setCell ⟨w.heap.size+1,3,none⟩ (.slice Av bs.length cv)):=((((Mods.refl _ wc).put 0 (.int .i64 a)).put 1 (.int .i64 r)).put 2 (.int .i64 sl)).put 3 (.slice Av bs.length cv)
    have hrow:Row ((((wc.setCell ⟨w.heap.size+1,0,none⟩ (.int .i64 a)).setCell ⟨w.heap.size+1,1,none⟩ (.int .i64 r)).setCell ⟨w.heap.size+1,2,none⟩ (.int .i64 sl)).setCell ⟨w.heap.size+1,3,none⟩ (.slice Av bs.length cv)) (w.heap.size+1) 28 #[.int .i64 a,.int .i64 r,.int .i64 sl,.slice Av bs.length cv]:=((((HF.out.z_.put 0 (.int .i64 a)).put 1 (.int .i64 r)).put 2 (.int .i64 sl)).put 3 (.slice Av bs.length cv))
    obtain ⟨m1,m2⟩:=HF.out.fin hms
    refine bodyPost_ret (v:= .agg #[.int .i64 a,.int .i64 r,.int .i64 sl,.slice Av bs.length cv]) ?_ rfl ⟨.slice Av bs.length cv,vs,by rw [HFE.out],by rw [HFE.out];exact (HN.out.mods hms fun k h1 _ h2=>by unfold Is at h2;omega).rebase (by omega),m1,by rw [HFE.out];exact m2⟩
    exact results_cell_row rfl _ _ (w.heap.size+1) 28 #[.int .i64 a,.int .i64 r,.int .i64 sl,.slice Av bs.length cv] (0,0) _ rfl hrow Tryz.underlying28 rfl (by kernel_rfl)
   ·have d0:(tb.err !=0)=true:=by simp [he]
    have HFE:Hid (FE=(⟨0,0,0, []⟩,tb)):=by show _=_;rw [HEF.out];exact if_pos he
    clear he HEF HY HN
    go_wp2_with fail
    refine C.out.mono ?_
    rintro e wx ⟨rfl,rfl⟩
    clear C c0
    have z0:=HF.out.z_
    have g0:=z0.k0;have gf0:=z0.frozen 0
    have g1:=z0.k1;have gf1:=z0.frozen 1
    have g2:=z0.k2;have gf2:=z0.frozen 2
    have g3:=z0.k3;have gf3:=z0.frozen 3
    clear z0
    go_wp2
    (try simp only [Exit.inBlock,Exit.then])
    have hms:Mods (Is (w.heap.size+1)) wc ((((wc.setCell ⟨w.heap.size+1,0,none⟩ (.int .i64 0)).setCell ⟨w.heap.size+1,1,none⟩ (.int .i64 0)).setCell ⟨w.heap.size+1,2,none⟩ (.int .i64 0)).setCell ⟨w.heap.size+1,3,none⟩ (.slice none 0 0)):=((((Mods.refl _ wc).put 0 (.int .i64 0)).put 1 (.int .i64 0)).put 2 (.int .i64 0)).put 3 (.slice none 0 0)
    have hrow:Row ((((wc.setCell ⟨w.heap.size+1,0,none⟩ (.int .i64 0)).setCell ⟨w.heap.size+1,1,none⟩ (.int .i64 0)).setCell ⟨w.heap.size+1,2,none⟩ (.int .i64 0)).setCell ⟨w.heap.size+1,3,none⟩ (.slice none 0 0)) (w.heap.size+1) 28 #[.int .i64 0,.int .i64 0,.int .i64 0,.slice none 0 0]:=((((HF.out.z_.put 0 (.int .i64 0)).put 1 (.int .i64 0)).put 2 (.int .i64 0)).put 3 (.slice none 0 0))
    obtain ⟨m1,m2⟩:=HF.out.fin hms
    refine bodyPost_ret (v:= .agg #[.int .i64 0,.int .i64 0,.int .i64 0,.slice none 0 0]) ?_ rfl ⟨.slice none 0 0, [],by rw [HFE.out],by rw [HFE.out];exact NestV.nil _ _,m1,by rw [HFE.out];exact m2⟩
    exact results_cell_row rfl _ _ (w.heap.size+1) 28 #[.int .i64 0,.int .i64 0,.int .i64 0,.slice none 0 0] (0,0) _ rfl hrow Tryz.underlying28 rfl (by kernel_rfl)
end Go.Proofs.YtnifhpbgmjcndaaGreat
