import Derived.Test.YtnifhpbgmjcndaaGreatPk5
import Derived.Test.YtnifhpbgmjcndaaGreatSrcCopy
import Derived.Deep.LoopGhost
set_option linter.unusedVariables false
set_option linter.unusedSimpArgs false
set_option linter.unusedSectionVars false
set_option maxRecDepth 100000
set_option maxHeartbeats 4000000
namespace Go.Proofs.YtnifhpbgmjcndaaGreat
open Go.RowKit
def jd(t:Ip)(r:Nat × Nat × Nat):Ip:=if t.err≠0 then t else if r.2.2≠0 then ⟨[],(r.2.2:Int)⟩ else ⟨t.rest.drop r.2.1,0⟩
section
variable {w w' : World} {lo p : Nat} {l : List Nat} {A : Option Addr} {c : Nat} {t : Ip}
theorem zbl{i:Nat}(f:List Nat→Nat × Nat × Nat)(hr:t.err=0→l.drop i=t.rest)(ha:Z5 w lo p l i t.err A c (f (l.drop i)) w'):Mods (Is p) w w'∧CE lo p l A c (jd t (f t.rest)) w'∧zT t.err (f (l.drop i))=zT t.err (f t.rest):=by
 obtain ⟨hm,hc⟩:=ha
 by_cases h0:t.err=0
 ·rw [hr h0] at hc⊢
  refine ⟨hm,?_,rfl⟩
  by_cases h1:(f t.rest).2.2=0
  ·have hT:jd t (f t.rest)=⟨t.rest.drop (f t.rest).2.1,0⟩:=by unfold jd;rw [if_neg (by omega),if_neg (by omega)]
   refine ⟨i+(f t.rest).2.1,?_,fun _=> ?_⟩
   ·rw [hT]
    rw [yN,if_pos ⟨h0,h1⟩,yQ,if_pos h0,h1] at hc
    exact hc
   ·rw [hT,←List.drop_drop,hr h0]
  ·have hT:jd t (f t.rest)=⟨[],((f t.rest).2.2:Int)⟩:=by unfold jd;rw [if_neg (by omega),if_pos h1]
   refine ⟨i,?_,fun h=>absurd h (by rw [hT];simp only;omega)⟩
   rw [hT]
   rw [yN,if_neg fun h=>h1 h.2,yQ,if_pos h0] at hc
   exact hc
 ·have hT:∀r,jd t r=t:=fun r=>by unfold jd;rw [if_pos h0]
  refine ⟨hm,?_,by rw [zT,if_neg fun h=>h0 h.1,zT,if_neg fun h=>h0 h.1]⟩
  rw [hT]
  refine ⟨i,?_,fun h=>absurd h h0⟩
  rw [yN,if_neg fun h=>h0 h.1,yQ,if_neg h0] at hc
  exact hc
theorem Qx:((zT t.err (zX 1048576 t.rest):Nat):Int)=(zR t).1∧jd t (zX 1048576 t.rest)=(zR t).2:=by
 unfold zR
 by_cases h0:t.err=0
 ·by_cases h1:(zj t.rest).2.2=0
  ·rw [Y0 h0 h1]
   by_cases h2:(1048576:Int)<((zj t.rest).1:Int)
   ·have hu:zX 1048576 t.rest=(0,0,6):=if_pos ⟨h1,h2⟩
    rw [hu,if_pos (by omega)]
    refine ⟨by rw [zT];split<;>rfl,?_⟩
    unfold jd
    rw [if_neg (by omega),if_pos (by decide)]
    rfl
   ·have hu:zX 1048576 t.rest=zj t.rest:=if_neg fun h=>h2 h.2
    rw [hu,if_neg (by omega)]
    refine ⟨by rw [zT,if_pos ⟨h0,h1⟩],?_⟩
    unfold jd
    rw [if_neg (by omega),if_neg (by omega)]
  ·have hu:zX 1048576 t.rest=zj t.rest:=if_neg fun h=>h1 h.1
   rw [U0 h0 h1,hu]
   refine ⟨by rw [zT,if_neg fun h=>h1 h.2];rfl,?_⟩
   unfold jd
   rw [if_neg (by omega),if_pos h1]
 ·rw [jT h0]
  refine ⟨by rw [zT,if_neg fun h=>h0 h.1];rfl,?_⟩
  unfold jd
  rw [if_pos h0]
theorem zfC{k:Int}(hk:0<k):((zT t.err (ju 1048576 k t.rest):Nat):Int)=(yu k t).1∧jd t (ju 1048576 k t.rest)=(yu k t).2:=by
 obtain ⟨s1,s2⟩:=Qx (t:=t)
 unfold yu
 have hc:ju 1048576 k t.rest=if (zX 1048576 t.rest).2.2=0∧0<k∧((t.rest.length:Int) - (zX 1048576 t.rest).2.1) / k<((zX 1048576 t.rest).1:Int) then (0,0,1) else zX 1048576 t.rest:=if_neg (by omega)
 have hlen:=ZO 1048576 t.rest
 obtain ⟨⟨sv,st⟩,hs⟩:∃y,y=zR t:=⟨_,rfl⟩
 rw [←hs] at s1 s2⊢
 dsimp only at s1 s2⊢
 subst s1 s2
 rw [hc]
 clear hs hc
 generalize zX 1048576 t.rest=r at*
 by_cases h0:t.err=0
 ·by_cases h1:r.2.2=0
  ·have hT:jd t r=⟨t.rest.drop r.2.1,0⟩:=by unfold jd;rw [if_neg (by omega),if_neg (by omega)]
   have hV:zT t.err r=r.1:=by rw [zT,if_pos ⟨h0,h1⟩]
   have hl:(((jd t r).rest.length:Nat):Int)=(t.rest.length:Int) - r.2.1:=by rw [hT];simp only [lr];omega
   have he:(jd t r).err=0:=by rw [hT]
   rw [hl,hV]
   by_cases h2:((t.rest.length:Int) - r.2.1) / k<(r.1:Int)
   ·rw [if_pos ⟨h1,hk,h2⟩,if_pos ⟨he,h2⟩]
    refine ⟨by rw [zT];split<;>rfl,?_⟩
    have e1:jd t (0,0,1)=⟨[],1⟩:=by unfold jd;rw [if_neg (by omega),if_pos (by decide)];rfl
    have e2:zA 1 (jd t r)=⟨[],1⟩:=if_neg fun h=>h he
    rw [e1,e2]
   ·rw [if_neg fun h=>h2 h.2.2,if_neg fun h=>h2 h.2]
    exact ⟨by rw [hV],hT ▸ rfl⟩
  ·have hT:jd t r=⟨[],(r.2.2:Int)⟩:=by unfold jd;rw [if_neg (by omega),if_pos h1]
   rw [if_neg fun h=>h1 h.1,if_neg fun h=>h1 (by have:=h.1;rw [hT] at this;simp only at this;omega)]
   exact ⟨rfl,rfl⟩
 ·have hT:∀q,jd t q=t:=fun q=>by unfold jd;rw [if_pos h0]
  have hV:∀q,zT t.err q=0:=fun q=>by rw [zT,if_neg fun h=>h0 h.1]
  have e3:¬((jd t r).err=0∧((jd t r).rest.length:Int) / k<((zT t.err r:Nat):Int)):=fun h=>h0 (by rw [←hT r];exact h.1)
  rw [if_neg e3,hT,hT]
  exact ⟨by rw [hV,hV],rfl⟩
theorem zgD(h:CE lo p l A c t w):Calls Tryz.prog 116 #[.pointer (some ⟨p,0,none⟩),.int .u64 1048576] w fun e w'=>e= .returned (.int .u64 (zR t).1)∧Mods (Is p) w w'∧CE lo p l A c (zR t).2 w':=by
 obtain ⟨i,hc,hr⟩:=h
 refine (YJ hc 1048576 (by decide)).mono ?_
 rintro e w' ⟨rfl,ha⟩
 obtain ⟨hm,h1,h2⟩:=zbl (zX 1048576) hr ha
 obtain ⟨s1,s2⟩:=Qx (t:=t)
 rw [h2,s1]
 exact ⟨rfl,hm,by rw [←s2];exact h1⟩
theorem ZH(h:CE lo p l A c t w)(k:Int)(hk:0<k)(hk2:k≤100):Calls Tryz.prog 124 #[.pointer (some ⟨p,0,none⟩),.int .i64 1048576,.int .i64 k] w fun e w'=>e= .returned (.int .i64 (yu k t).1)∧Mods (Is p) w w'∧CE lo p l A c (yu k t).2 w':=by
 obtain ⟨i,hc,hr⟩:=h
 refine (zed hc 1048576 k (by decide) (by omega)).mono ?_
 rintro e w' ⟨rfl,ha⟩
 obtain ⟨hm,h1,h2⟩:=zbl (ju 1048576 k) hr ha
 obtain ⟨s1,s2⟩:=zfC (t:=t) hk
 rw [h2,s1]
 exact ⟨rfl,hm,by rw [←s2];exact h1⟩
theorem Jr(h:CE lo p l A c t w)(x:Int)(hx:x≠0):Calls Tryz.prog 65 #[.pointer (some ⟨p,0,none⟩),.int .i64 x] w fun e w'=>e= .returned (.tuple #[])∧Mods (Is p) w w'∧CE lo p l A c (zA x t) w':=by
 have he:Jt x t=zA x t:=by
  unfold Jt zA
  by_cases h0:t.err=0
  ·rw [if_pos h0,if_neg fun h=>h h0]
  ·rw [if_neg h0,if_pos h0]
 rw [←he]
 exact Ut h x hx
theorem Js(h:CE lo p l A c t w):Calls Tryz.prog 63 #[.pointer (some ⟨p,0,none⟩)] w fun e w'=>e= .returned (.int .i64 t.err)∧w=w':=by
 obtain ⟨i,hc,_⟩:=h
 exact je hc
theorem Zb(h:CE lo p l A c t w):Calls Tryz.prog 68 #[.pointer (some ⟨p,0,none⟩)] w fun e w'=>e= .returned (.int .i64 (zR t).1)∧Mods (Is p) w w'∧CE lo p l A c (zR t).2 w':=by
 have C:=qH (zgD h)
 have hr:=yM (s:=t)
 clear h
 go_enter Tryz.func68,Tryz.ntmps68
 go_wp2_with fail
 refine C.out.mono ?_
 rintro e W1 ⟨rfl,hm,hc⟩
 have HM:=qH hm
 have HC:=qH hc
 clear hm hc C
 go_wp2
 go_ret
 exact ⟨rfl,HM.out,HC.out⟩
theorem JD(h:CE lo p l A c t w)(b:Bool)(x:Int)(hx:x≠0):Calls Tryz.prog 69 #[.pointer (some ⟨p,0,none⟩),.bool b,.int .i64 x] w fun e w'=>e= .returned (.tuple #[])∧Mods (Is p) w w'∧CE lo p l A c (if b then zA x t else t) w':=by
 have C:=qH (Jr h x hx)
 have HC:=qH h
 clear h
 cases b with
 |false=>
  go_enter Tryz.func69,Tryz.ntmps69
  go_wp2
  go_end0
  exact ⟨rfl,Mods.refl _ _,HC.out⟩
 |true=>
  go_enter Tryz.func69,Tryz.ntmps69
  go_wp2_with fail
  refine C.out.mono ?_
  rintro e W1 ⟨rfl,hm,hc⟩
  have HM:=qH hm
  have HC1:=qH hc
  clear hm hc C HC
  go_wp2
  go_end0
  exact ⟨rfl,HM.out,HC1.out⟩
end
theorem Qy{tot:Int}{s:Ip}(ht:tot≤1048576):0≤(zN tot s).1∧tot+(zN tot s).1≤1048576:=by
 unfold zN
 split
 ·exact ⟨Int.le_refl _,(by show tot+0≤1048576;omega)⟩
 ·exact ⟨jm.1,by omega⟩
theorem Qz{r:Int}:∀(k:Nat) (s:Ip),(yR r k s).1.length≤k∧((yR r k s).2.err=0→(yR r k s).1.length=k)
 |0,s=>⟨la _,fun _=>rfl⟩
 |k+1,s=>by
  by_cases h0:s.err=0
  ·have e:yR r (k+1) s=((zI r s).1.ins::(yR r k (zI r s).2).1,(yR r k (zI r s).2).2):=if_neg fun hh=>hh h0
   obtain ⟨h1,h2⟩:=Qz k (zI r s).2
   rw [e]
   exact ⟨Nat.succ_le_succ h1,fun h=>congrArg Nat.succ (h2 h)⟩
  ·rw [jU h0]
   exact ⟨lF _,fun h=>absurd h h0⟩
theorem zbm{r n:Int}:∀(k run:Nat) (s:Ip),(miE r n k run s).1.length≤k∧((miE r n k run s).2.err=0→(miE r n k run s).1.length=k)
 |0,run,s=>⟨la _,fun _=>rfl⟩
 |k+1,run,s=>by
  by_cases h0:s.err=0
  ·have e:miE r n (k+1) run s=((zt r n s).1::(miE r n k (ext run (zt r n s).1) (mvE run (zt r n s).1 (zt r n s).2)).1,(miE r n k (ext run (zt r n s).1) (mvE run (zt r n s).1 (zt r n s).2)).2):=if_neg fun hh=>hh h0
   obtain ⟨h1,h2⟩:=zbm k (ext run (zt r n s).1) (mvE run (zt r n s).1 (zt r n s).2)
   rw [e]
   exact ⟨Nat.succ_le_succ h1,fun h=>congrArg Nat.succ (h2 h)⟩
  ·rw [Jx h0]
   exact ⟨lF _,fun h=>absurd h h0⟩
theorem zek{r n tot:Int}{s:Ip}(ht:0≤tot∧tot≤1048576):tot+((yY r tot s).1.length:Int)≤1048576∧∀g,zY r n g (tot+yJ tot s) (yZ r n tot s).2=zY r n g (tot+((yY r tot s).1.length:Int)) (yZ r n tot s).2:=by
 have h1:=Qy (tot:=tot) (s:=s) ht.2
 obtain ⟨h2,h3⟩:=Qz (r:=r) (zN tot s).1.toNat (zN tot s).2
 refine ⟨?_,fun g=> ?_⟩
 ·unfold yY
  omega
 ·by_cases h0:(yZ r n tot s).2.err=0
  ·have h4:(yY r tot s).2.err=0:=by
    by_cases h9:(yY r tot s).2.err=0
    ·exact h9
    ·unfold yZ at h0;rw [jL h9] at h0;exact h0
   have h5:=h3 h4
   rw [show yJ tot s=((yY r tot s).1.length:Int) by unfold yJ yY;omega]
  ·rw [ja h0,ja h0]
theorem zcv{r sl n tot:Int}{s:Ip}(ht:0≤tot∧tot≤1048576):tot+((ym r sl tot s).1.length:Int)≤1048576∧∀g,zK r sl n g (tot+yJ tot s) (yr r sl n tot s).2=zK r sl n g (tot+((ym r sl tot s).1.length:Int)) (yr r sl n tot s).2:=by
 have h1:=Qy (tot:=tot) (s:=s) ht.2
 obtain ⟨h2,h3⟩:=zbm (r:=r) (n:=sl) (zN tot s).1.toNat 0 (zN tot s).2
 refine ⟨?_,fun g=> ?_⟩
 ·unfold ym
  omega
 ·by_cases h0:(yr r sl n tot s).2.err=0
  ·have h4:(ym r sl tot s).2.err=0:=by
    by_cases h9:(ym r sl tot s).2.err=0
    ·exact h9
    ·unfold yr at h0;rw [jL h9] at h0;exact h0
   have h5:=h3 h4
   rw [show yJ tot s=((ym r sl tot s).1.length:Int) by unfold yJ ym;omega]
  ·rw [yP h0,yP h0]
structure CL(w:World)(lo p:Nat)(l:List Nat)(A:Option Addr)(c:Nat)(t:Ip)(T:TypeId)(s:Nat)(v:Value)(n:Nat)(xs:List Value)(W:World):Prop where
 md:Mods (Is p) w W
 ce:CE lo p l A c t W
 own:W.ownsRow w.heap.size T s v n xs
 pw:p<w.heap.size
section
variable {w W W' : World} {lo p : Nat} {l : List Nat} {A : Option Addr} {c : Nat} {t t' : Ip} {T : TypeId} {s : Nat} {v v' : Value} {n m : Nat} {xs news : List Value}
theorem CL.next(h:CL w lo p l A c t T s v n xs W)(hm:Mods (Is p) W W')(hc:CE lo p l A c t' W'):CL w lo p l A c t' T s v n xs W':=
 ⟨h.md.trans hm,hc,hm.ownS h.own fun k hk e=>by have:=zW h.own k hk;have:=h.pw;unfold Is at e;omega,h.pw⟩
theorem CL.below(h:CL w lo p l A c t T s v n xs W)(hb:Below W.heap.size W W'):CL w lo p l A c t T s v n xs W':=
 h.next (Mods.of_below hb) (h.ce.mods (S:=No) (Mods.of_below hb) fun _ hk=>hk.elim)
theorem CL.push(h:CL w lo p l A c t T s v n xs W){o:Obj}(ho:W'.ownsRow w.heap.size T s v' (n+m) (xs++news))(hg:(W.alloc o).grownBy W' v.ownBlock):CL w lo p l A c t T s v' (n+m) (xs++news) W':=by
 have hG:Mods (fun k=>v.ownBlock=some k) W W':=((Mods.refl _ W).alloc o).grown hg fun k hk=> .inl hk
 have hk:∀k,v.ownBlock=some k→w.heap.size≤k:=fun k hk=>(zW h.own k hk).1
 exact ⟨h.md.then hG fun k hh=> .inr (hk k hh),h.ce.mods hG fun k hh=> .inr (lB h.pw (hk k hh)),ho,h.pw⟩
theorem CL.new(h:CE lo p l A c t w)(T:TypeId)(s:Nat)(n:Nat)(Z:Array Value)(hZ:Z.size=n*s)(hn:n≤maxLen):CL w lo p l A c t T s (.slice (some ⟨w.heap.size,0,none⟩) 0 n) 0 [] (w.alloc (.cells Z T)):=
 ⟨(Mods.refl _ _).alloc _,h.alloc _,⟨by simp,.inr ⟨w.heap.size,n,Z,rfl,la _,heap_alloc_new w _,lF _,hn,hZ,by simp⟩⟩,h.lt⟩
theorem CL.row{B:Nat}{T':TypeId}{cs:Array Value}(h:CL w lo p l A c t T s v n xs W)(hr:Row w B T' cs)(hp:B≠p):Row W B T' cs:=hr.mods h.md hp
end
theorem zgE(n:Nat)(hn:n≤1048576):∃Z:Array Value,Z.size=n*5∧∀w,(Instr.makeSlice 58 (.int .i64 0) (.int .i64 (n:Int))).run Tryz.prog w= .ok (.slice (some ⟨w.heap.size,0,none⟩) 0 n) (w.alloc (.cells Z 125)):=by
 obtain ⟨i,hi,hz,hs,hb⟩:=info_parts zb5
 refine ⟨madeCells (Value.agg #[.int .i64 0,.int .i64 0,.int .i64 0,.int .i64 0,.int .i64 0]).cells (n*i.size),?_,fun w=> ?_⟩
 ·rw [size_madeCells,hs]
 ·have:=run_make (P:=Tryz.prog) w _ _ i _ Tryz.underlying58 hi hz .i64 .i64 0 n (by decide) (by omega) (by rw [hb];omega) (by omega)
  simpa using this
theorem zel{w:World}{lo p:Nat}{l:List Nat}{A:Option Addr}{c:Nat}{s:Ip}(h:CE lo p l A c s w){x1 x2:Nat}{r:Int}(h1:Row w x1 82 #[.pointer (some ⟨p,0,none⟩)])(h2:Row w x2 3 #[.int .i64 r])(hr:0≤r∧r≤1048576){m:Mi}{t:Ip}(hm:zI r s=(m,t))(u:Value):
  Calls Tryz.prog 70 #[u,.pointer (some ⟨x1,0,none⟩),.pointer (some ⟨x2,0,none⟩)] w fun e w'=>e= .returned (.agg #[.int .i64 m.op,.int .i64 m.d,.int .i64 m.a,.int .i64 m.b,.int .i64 m.imm])∧Mods (Is p) w w'∧CE lo p l A c t w':=by
 have HG:Hid (GZ w lo p l A c s 125 #[.int .i64 0,.int .i64 0,.int .i64 0,.int .i64 0,.int .i64 0] w.heap.size (w.alloc (.cells #[.int .i64 0,.int .i64 0,.int .i64 0,.int .i64 0,.int .i64 0] 125))):=GZ.new h _ _
 have C1:=qH (zfw HG.out.ce r ⟨hr.1,by omega⟩ hm)
 have g1:=(h1.alloc (.cells #[.int .i64 0,.int .i64 0,.int .i64 0,.int .i64 0,.int .i64 0] 125)).k0
 have g2:=(h2.alloc (.cells #[.int .i64 0,.int .i64 0,.int .i64 0,.int .i64 0,.int .i64 0] 125)).k0
 clear h h1 h2 hr hm
 go_enter Tryz.func70,Tryz.ntmps70
 go_upto_region 1 with fail
 generalize (w.alloc (.cells #[.int .i64 0,.int .i64 0,.int .i64 0,.int .i64 0,.int .i64 0] 125))=W0 at*
 generalize w.heap.size=z at*
 go_wp2_with fail
 refine C1.out.mono ?_
 rintro e W1 ⟨rfl,hm,hc⟩
 have HG3:=qH (HG.out.next hm hc)
 clear hm hc HG C1 g1 g2
 have z0:=HG3.out.z_.k0;have z1:=HG3.out.z_.k1;have z2:=HG3.out.z_.k2;have z3:=HG3.out.z_.k3;have z4:=HG3.out.z_.k4
 have zf0:=HG3.out.z_.frozen 0;have zf1:=HG3.out.z_.frozen 1;have zf2:=HG3.out.z_.frozen 2;have zf3:=HG3.out.z_.frozen 3;have zf4:=HG3.out.z_.frozen 4
 go_wp2
 (try simp only [Exit.inBlock,Exit.then])
 refine bodyPost_ret (v:= .agg #[.int .i64 m.op,.int .i64 m.d,.int .i64 m.a,.int .i64 m.b,.int .i64 m.imm]) ?_ rfl ⟨rfl,HG3.out.fin (Zl W1 z (.int .i64 m.op) (.int .i64 m.d) (.int .i64 m.a) (.int .i64 m.b) (.int .i64 m.imm))⟩
 exact results_cell_row rfl _ _ z 125 #[.int .i64 m.op,.int .i64 m.d,.int .i64 m.a,.int .i64 m.b,.int .i64 m.imm] (0,0) _ rfl (HG3.out.z_.put5i _ _ _ _ _) Tryz.underlying125 rfl (by kernel_rfl)
def zgT(lo p:Nat)(l:List Nat)(A:Option Addr)(c:Nat)(T:TypeId)(s n:Nat)(xs:List Value)(t:Ip)(w:World)(e:Ending)(w':World):Prop:=
 ∃v,e= .returned v∧CL w lo p l A c t T s v n xs w'
theorem zbn{w:World}{lo p:Nat}{l:List Nat}{A:Option Addr}{c:Nat}{s:Ip}(h:CE lo p l A c s w){x1 x2:Nat}{r tot:Int}(h1:Row w x1 82 #[.pointer (some ⟨p,0,none⟩)])(h2:Row w x2 3 #[.int .i64 r])(hr:0≤r∧r≤1048576)(hn1:x1≠p)(hn2:x2≠p)(ht:0≤tot∧tot≤1048576):
  Calls Tryz.prog 125 #[.pointer (some ⟨p,0,none⟩),.int .i64 (1048576 - tot),.func (.func 70) #[] #[.pointer (some ⟨x1,0,none⟩),.pointer (some ⟨x2,0,none⟩)]] w
   (zgT lo p l A c 125 5 (yY r tot s).1.length ((yY r tot s).1.flatMap In.cells) (yY r tot s).2 w):=by
 obtain ⟨i0,hi0,hz0,hz1,hz2⟩:=info_parts zb5
 obtain ⟨⟨n,sn⟩,hN⟩:∃y,yu 2 s=y:=⟨_,rfl⟩
 have rn:0≤n∧n≤1048576:=by have:=jm (k:=2) (s:=s);rw [hN] at this;exact this
 have C1:=qH (ZH h 2 (by decide) (by decide))
 rw [hN] at C1
 have HK:Hid (zN tot s=if 1048576<tot+n then (0,zA 6 sn) else (n,sn)):=by show _=_;unfold zN;rw [hN]
 have H1:=qH h1
 have H2:=qH h2
 have HR:=qH hr
 have HP:=qH h.lt
 have HN1:=qH hn1
 have HN2:=qH hn2
 obtain ⟨FB,hFB⟩:∃y,yY r tot s=y:=⟨_,rfl⟩
 rw [hFB]
 have HF:=qH hFB
 clear h h1 h2 hr hn1 hn2 hN hFB
 obtain ⟨k,rfl⟩:∃k:Nat,n=(k:Int):=⟨n.toNat,by omega⟩
 obtain ⟨Z,hZ,hmk⟩:=zgE k (by omega)
 go_enter Tryz.func125,Tryz.ntmps125
 go_wp2_with fail
 refine C1.out.mono ?_
 rintro e W1 ⟨rfl,hm,hc⟩
 have HM1:=qH hm
 have HC1:=qH hc
 clear hm hc C1
 by_cases hroom:1048576 - tot<(k:Int)
 ·have C2:=qH (Jr HC1.out 6 (by decide))
  have HE:Hid (FB=([],zA 6 sn)):=by show _=_;rw [←HF.out];unfold yY;rw [HK.out,if_pos (by omega)];rfl
  go_wp2_with fail
  refine C2.out.mono ?_
  rintro e W2 ⟨rfl,hm,hc⟩
  have HM2:=qH (HM1.out.trans hm)
  have HC2:=qH hc
  clear hm hc C2
  go_wp2
  go_ret
  exact ⟨_,rfl,by rw [HE.out];exact ⟨HM2.out,HC2.out,⟨by simp,.inl ⟨rfl,rfl⟩⟩,HP.out⟩⟩
 ·have HE:Hid (FB=yR r k sn):=by show _=_;rw [←HF.out];unfold yY;rw [HK.out,if_neg (by omega)];rfl
  have HL:Hid (CL w lo p l A c sn 125 5 (.slice (some ⟨W1.heap.size,0,none⟩) 0 k) 0 [] (W1.alloc (.cells Z 125))):=by
   have hx:=CL.new HC1.out 125 5 k Z hZ (by unfold maxLen;omega)
   exact ⟨HM1.out.trans hx.md,hx.ce,jo hx.own HM1.out.size,HP.out⟩
  clear HF HK HM1 HC1 hZ
  go_wp2
  generalize (W1.alloc (.cells Z 125))=W2 at*
  generalize W1.heap.size=b1 at*
  go_loopg [8] k (fun g v8 wr=>∃(m:Nat) (t:Ip) (xs:List In),m+g=k∧Hid (xs.length=m)∧Hid (FB=(xs++(yR r g t).1,(yR r g t).2))∧Hid (CL w lo p l A c t 125 5 v8 m (xs.flatMap In.cells) wr))
  case atStart=>exact ⟨0,sn, [],by omega,rfl,HE.out,HL.out⟩
  case round=>
   clear HE HL
   obtain ⟨m,t,xs,hmk,hxl,HE,HL⟩:=hrel
   obtain ⟨Av,cv,rfl,_,_⟩:=zh HL.out.own
   cases gk with
   |zero=>
    have hlt:¬(m:Int)<(k:Int):=by omega
    have HEE:Hid (FB=(xs,t)):=by show _=_;rw [HE.out];show (xs++ [],t)=_;rw [lA]
    go_wp2
    go_ret
    exact ⟨_,rfl,by rw [HEE.out,hxl.out];exact HL.out⟩
   |succ g=>
    have hlt:(m:Int)<(k:Int):=by omega
    have C1:=qH (Js HL.out.ce)
    by_cases he:t.err=0
    ·have d0:(t.err==0)=true:=by simp [he]
     obtain ⟨⟨x,t2⟩,hx⟩:∃y,zI r t=y:=⟨_,rfl⟩
     have HE2:Hid (FB=((xs++ [x.ins])++(yR r g t2).1,(yR r g t2).2)):=by
      show _=_
      rw [HE.out,show yR r (g+1) t=((zI r t).1.ins::(yR r g (zI r t).2).1,(yR r g (zI r t).2).2) from if_neg fun hh=>hh he,hx]
      simp
     have C2:=qH (zel HL.out.ce (HL.out.row H1.out HN1.out) (HL.out.row H2.out HN2.out) HR.out hx (.slice Av m cv))
     clear he hx HE
     go_wp2_with fail
     refine C1.out.mono ?_
     rintro e W ⟨rfl,rfl⟩
     clear C1
     go_wp2_with fail
     refine C2.out.mono ?_
     rintro e W3 ⟨rfl,hm,hc⟩
     have HL3:=qH (HL.out.next hm hc)
     clear hm hc C2 HL
     have hown:=((Mods.refl No W3).alloc (.cells x.ins.cells.toArray 125)).ownS HL3.out.own fun _ _ hk=>hk.elim
     have hnew:=yI W3 x.ins.cells.toArray 125
     go_wp2_with (at_builtin;refine zB _ rfl (.tmp 27) (.tmp 31) 58 rfl w.heap.size 125 i0 (.agg #[.int .i64 0,.int .i64 0,.int .i64 0,.int .i64 0,.int .i64 0]) 5 40 Tryz.underlying58 hi0 hz0 hz1 hz2 rfl (by decide) _ _ _ rfl hown (W3.heap.size+1) _ 1 1 _ rfl hnew rfl (zg6 x.ins) ?c1 ?c2 ?c3 ?_)
     case c1=>unfold maxLen;omega
     case c2=>omega
     case c3=>have:=HL3.out.md.size;simp;omega
     intro v2 W4 ho2 hg2 hb2
     have HL4:=qH (HL3.out.push ho2 hg2)
     clear ho2 hg2 hb2 hown hnew HL3
     replace HL4:Hid (CL w lo p l A c t2 125 5 v2 (m+1) ((xs++ [x.ins]).flatMap In.cells) W4):=by
      show CL _ _ _ _ _ _ _ _ _ _ _ _ _
      rw [List.flatMap_append]
      simpa using HL4.out
     go_wp2
     go_roundg g
     case measure=>omega
     case rel=>exact ⟨m+1,t2,xs++ [x.ins],by omega,by show _=_;rw [lc,hxl.out];rfl,HE2.out,HL4.out⟩
    ·have d0:(t.err==0)=false:=by simp [he]
     have HEE:Hid (FB=(xs,t)):=by show _=_;rw [HE.out,jU he];show (xs++ [],t)=_;rw [lA]
     clear he
     go_wp2_with fail
     refine C1.out.mono ?_
     rintro e W ⟨rfl,rfl⟩
     clear C1
     go_wp2
     go_ret
     exact ⟨_,rfl,by rw [HEE.out,hxl.out];exact HL.out⟩
structure NB{α:Type}(S:Shp α)(w:World)(lo p:Nat)(l:List Nat)(A:Option Addr)(c:Nat)(t:Ip)(v:Value)(xs:List α)(W:World):Prop where
 md:Mods (Is p) w W
 ce:CE lo p l A c t W
 ne:∃vs,NestV S W w.heap.size v vs xs
 pw:p<w.heap.size
section
variable {α : Type} {S : Shp α} {w W W' : World} {lo p : Nat} {l : List Nat} {A : Option Addr} {c : Nat} {t t' : Ip} {v v' : Value} {xs : List α}
theorem NB.row{B:Nat}{T':TypeId}{cs:Array Value}(h:NB S w lo p l A c t v xs W)(hr:Row w B T' cs)(hp:B≠p):Row W B T' cs:=hr.mods h.md hp
theorem NB.slice(h:NB S w lo p l A c t v xs W):∃A c,v= .slice A xs.length c∧xs.length≤c∧c≤maxLen:=by
 obtain ⟨_,_,⟨vs,hn⟩,_⟩:=h
 have:=zh hn.outer
 rw [hn.len] at this
 exact this
theorem NB.new(h:CE lo p l A c t w)(n:Nat)(Z:Array Value)(hZ:Z.size=n*S.so)(hn:n≤maxLen):NB S w lo p l A c t (.slice (some ⟨w.heap.size,0,none⟩) 0 n) [] (w.alloc (.cells Z S.eo)):=
 ⟨(Mods.refl _ _).alloc _,h.alloc _,⟨[],⟨⟨by simp,.inr ⟨w.heap.size,n,Z,rfl,la _,heap_alloc_new w _,lF _,hn,hZ,by simp⟩⟩,rfl,fun i u x hu=>by simp at hu,fun i j u u' g hu=>by simp at hu⟩⟩,h.lt⟩
end
theorem zem(n:Nat)(hn:n≤1048576):∃Z:Array Value,Z.size=n*5∧∀w,(Instr.makeSlice 23 (.int .i64 0) (.int .i64 (n:Int))).run Tryz.prog w= .ok (.slice (some ⟨w.heap.size,0,none⟩) 0 n) (w.alloc (.cells Z 60)):=by
 obtain ⟨i,hi,hz,hs,hb⟩:=info_parts QW
 refine ⟨madeCells (Value.agg #[.slice none 0 0,.int .i64 0,.int .i64 0,.int .i64 0,.int .i64 0]).cells (n*i.size),?_,fun w=> ?_⟩
 ·rw [size_madeCells,hs]
 ·have:=run_make (P:=Tryz.prog) w _ _ i _ Tryz.underlying23 hi hz .i64 .i64 0 n (by decide) (by omega) (by rw [hb];omega) (by omega)
  simpa using this
theorem zfD(w:World)(A:Option Addr)(n c:Nat)(k a t e:Int):
  Calls Tryz.prog 72 #[.slice A n c,.agg #[.int .i64 k,.int .i64 a,.int .i64 t,.int .i64 e]] w fun en w'=>en= .returned (.agg #[.slice A n c,.int .i64 k,.int .i64 a,.int .i64 t,.int .i64 e])∧Below w.heap.size w w':=by
 obtain ⟨hb,r1,r2⟩:=JC w 57 60 #[.int .i64 k,.int .i64 a,.int .i64 t,.int .i64 e] #[.slice none 0 0,.int .i64 0,.int .i64 0,.int .i64 0,.int .i64 0]
 have HB:=qH hb
 have HR2:=qH r2
 have g0:=r1.k0;have g1:=r1.k1;have g2:=r1.k2;have g3:=r1.k3
 clear hb r1 r2
 go_enter Tryz.func72,Tryz.ntmps72
 go_upto_region 1 with fail
 generalize ((w.alloc (.cells #[.int .i64 k,.int .i64 a,.int .i64 t,.int .i64 e] 57)).alloc (.cells #[.slice none 0 0,.int .i64 0,.int .i64 0,.int .i64 0,.int .i64 0] 60))=W0 at*
 have z0:=HR2.out.k0;have z1:=HR2.out.k1;have z2:=HR2.out.k2;have z3:=HR2.out.k3;have z4:=HR2.out.k4
 have zf0:=HR2.out.frozen 0;have zf1:=HR2.out.frozen 1;have zf2:=HR2.out.frozen 2;have zf3:=HR2.out.frozen 3;have zf4:=HR2.out.frozen 4
 go_wp2
 (try simp only [Exit.inBlock,Exit.then])
 refine bodyPost_ret (v:= .agg #[.slice A n c,.int .i64 k,.int .i64 a,.int .i64 t,.int .i64 e]) ?_ rfl ⟨rfl,HB.out.trans ((Zl W0 (w.heap.size+1) (.slice A n c) (.int .i64 k) (.int .i64 a) (.int .i64 t) (.int .i64 e)).below (by have:=HB.out.size;omega) fun q hq=>by unfold Is at hq;omega)⟩
 exact results_cell_row rfl _ _ (w.heap.size+1) 60 #[.slice A n c,.int .i64 k,.int .i64 a,.int .i64 t,.int .i64 e] (0,0) _ rfl (HR2.out.put5i _ _ _ _ _) Tryz.underlying60 rfl (by kernel_rfl)
theorem Q8{w:World}{lo p:Nat}{l:List Nat}{A:Option Addr}{c:Nat}{s:Ip}(h:CE lo p l A c s w){x1 x2:Nat}{r:Int}(h1:Row w x1 82 #[.pointer (some ⟨p,0,none⟩)])(h2:Row w x2 3 #[.int .i64 r])(hr:0≤r∧r≤1048576)(hn1:x1≠p)(hn2:x2≠p):
  Calls Tryz.prog 73 #[.pointer (some ⟨p,0,none⟩),.int .i64 r,.func (.func 70) #[] #[.pointer (some ⟨x1,0,none⟩),.pointer (some ⟨x2,0,none⟩)],.func (.func 72) #[] #[]] w
   fun e w'=>∃v,e= .returned v∧NB Jk w lo p l A c (zY r (yl s).1 (yl s).1.toNat 0 (yl s).2).2 v (zY r (yl s).1 (yl s).1.toNat 0 (yl s).2).1 w':=by
 obtain ⟨i0,hi0,hz0,hz1,hz2⟩:=info_parts QW
 obtain ⟨⟨n,sn⟩,hN⟩:∃y,yu 3 s=y:=⟨_,rfl⟩
 have rn:0≤n∧n≤1048576:=by have:=jm (k:=3) (s:=s);rw [hN] at this;exact this
 have C1:=qH (ZH h 3 (by decide) (by decide))
 rw [hN] at C1
 have hK:yl s=(n,if decide (n=0)=true then zA 14 sn else sn):=by
  unfold yl
  rw [hN]
  by_cases h9:n=0
  ·rw [if_pos h9,if_pos (by simp [h9]),h9]
  ·rw [if_neg h9,if_neg (by simp [h9])]
 obtain ⟨sm,hsm⟩:∃y,(if decide (n=0)=true then zA 14 sn else sn)=y:=⟨_,rfl⟩
 rw [hK,hsm]
 have HSM:=qH hsm
 have H1:=qH h1
 have H2:=qH h2
 have HR:=qH hr
 have HP:=qH h.lt
 have HN1:=qH hn1
 have HN2:=qH hn2
 dsimp only
 obtain ⟨FB,hFB⟩:∃y,zY r n n.toNat 0 sm=y:=⟨_,rfl⟩
 rw [hFB]
 have HF:=qH hFB
 clear h h1 h2 hr hn1 hn2 hN hFB hK hsm
 obtain ⟨k,rfl⟩:∃k:Nat,n=(k:Int):=⟨n.toNat,by omega⟩
 rw [Int.toNat_natCast] at HF
 obtain ⟨Z,hZ,hmk⟩:=zem k (by omega)
 go_enter Tryz.func73,Tryz.ntmps73
 go_wp2_with fail
 refine C1.out.mono ?_
 rintro e W1 ⟨rfl,hm,hc⟩
 have HM1:=qH hm
 have C2:=qH (JD hc (decide ((k:Int)=0)) 14 (by decide))
 rw [HSM.out] at C2
 clear hm hc C1 HSM
 go_wp2_with fail
 refine C2.out.mono ?_
 rintro e W2 ⟨rfl,hm,hc⟩
 have HL:Hid (NB Jk w lo p l A c sm (.slice (some ⟨W2.heap.size,0,none⟩) 0 k) [] (W2.alloc (.cells Z 60))):=by
  have hx:=NB.new (S:=Jk) hc k Z hZ (by unfold maxLen;omega)
  obtain ⟨vs,hv⟩:=hx.ne
  have hmm:=HM1.out.trans hm
  exact ⟨hmm.trans hx.md,hx.ce,⟨vs,hv.rebase hmm.size⟩,HP.out⟩
 clear hm hc C2 HM1 hZ
 go_wp2
 generalize (W2.alloc (.cells Z 60))=W3 at*
 generalize W2.heap.size=b1 at*
 go_loopg [10,11] k (fun g v10 v11 wr=>∃(m:Nat) (tot:Int) (t:Ip) (bs:List Blk),m+g=k∧v11= .int .i64 (1048576 - tot)∧(0≤tot∧tot≤1048576)∧Hid (bs.length=m)∧Hid (FB=(bs++(zY r k g tot t).1,(zY r k g tot t).2))∧Hid (NB Jk w lo p l A c t v10 bs wr))
 case atStart=>exact ⟨0,0,sm, [],by omega,rfl,by omega,rfl,HF.out.symm,HL.out⟩
 case round=>
  clear HF HL
  obtain ⟨m,tot,t,bs,hmk2,rfl,ht,hbl,HE,HL⟩:=hrel
  obtain ⟨Av,cv,rfl,_,_⟩:=HL.out.slice
  rw [hbl.out] at HL⊢
  cases gk with
  |zero=>
   have hlt:¬(m:Int)<(k:Int):=by omega
   have HEE:Hid (FB=(bs,t)):=by show _=_;rw [HE.out];show (bs++ [],t)=_;rw [lA]
   go_wp2
   go_ret
   exact ⟨_,rfl,by rw [HEE.out];exact HL.out⟩
  |succ g=>
   have hlt:(m:Int)<(k:Int):=by omega
   have C1:=qH (Js HL.out.ce)
   by_cases he:t.err=0
   ·have d0:(t.err==0)=true:=by simp [he]
    have hroom:=zek (r:=r) (n:=k) (s:=t) ht
    have HE2:Hid (FB=((bs++ [⟨(yY r tot t).1,(yZ r k tot t).1⟩])++(zY r k g (tot+((yY r tot t).1.length:Int)) (yZ r k tot t).2).1,(zY r k g (tot+((yY r tot t).1.length:Int)) (yZ r k tot t).2).2)):=by
     show _=_
     rw [HE.out,show zY r k (g+1) tot t=(⟨(yY r tot t).1,(yZ r k tot t).1⟩::(zY r k g (tot+yJ tot t) (yZ r k tot t).2).1,(zY r k g (tot+yJ tot t) (yZ r k tot t).2).2) from if_neg fun hh=>hh he,hroom.2 g]
     simp
    have C2:=qH (zbn HL.out.ce (HL.out.row H1.out HN1.out) (HL.out.row H2.out HN2.out) HR.out HN1.out HN2.out ht)
    have hro:=hroom.1
    unfold yZ at HE2
    obtain ⟨⟨xs,t2⟩,hxt⟩:∃y,yY r tot t=y:=⟨_,rfl⟩
    rw [hxt] at HE2 C2 hro
    obtain ⟨⟨tm,t3⟩,htm⟩:∃y,yL r k t2=y:=⟨_,rfl⟩
    dsimp only at HE2 C2 hro
    rw [htm] at HE2
    dsimp only at HE2
    clear he hxt hroom HE
    go_wp2_with fail
    refine C1.out.mono ?_
    rintro e W ⟨rfl,rfl⟩
    clear C1
    go_wp2_with fail
    refine C2.out.mono ?_
    rintro e W4 ⟨vc,rfl,hcl⟩
    have HC4:=qH hcl
    obtain ⟨Ac,cc,rfl,_,_⟩:=zh hcl.own
    clear C2 hcl
    have C3:=qH (zdm HC4.out.ce r k (by have:=HR.out;omega) (by omega) htm)
    clear htm
    go_wp2_with fail
    refine C3.out.mono ?_
    rintro e W5 ⟨rfl,hm,hc⟩
    have HC5:=qH (HC4.out.next hm hc)
    clear hm hc C3 HC4
    have C6:=qH (zfD W5 Ac xs.length cc tm.kind tm.a tm.to tm.el)
    go_wp2_with fail
    refine C6.out.mono ?_
    rintro e W6 ⟨rfl,hb⟩
    have HC6:=qH (HC5.out.below hb)
    clear hb C6 HC5
    obtain ⟨md,ce,⟨vs,hn⟩,pw⟩:=HL.out
    have hmw:Mods (Is p) wr W6:=HC6.out.md
    have hn6:=hn.mods hmw fun q h1 _ h2=>by unfold Is at h2;omega
    have hvl:vs.length=m:=by rw [hn.len];exact hbl.out
    have hon:=hn6.outer
    rw [hvl] at hon
    have hsz:=md.size
    have hown:=((Mods.refl No W6).alloc (.cells #[.slice Ac xs.length cc,.int .i64 tm.kind,.int .i64 tm.a,.int .i64 tm.to,.int .i64 tm.el] 60)).ownS hon fun _ _ hk=>hk.elim
    have hnew:=yI W6 #[.slice Ac xs.length cc,.int .i64 tm.kind,.int .i64 tm.a,.int .i64 tm.to,.int .i64 tm.el] 60
    have HN:=qH hn
    have HMD:=qH md
    have HMW:=qH hmw
    have HVL:=qH hvl
    clear hn hn6 hon md ce hmw hvl HL
    go_wp2_with (at_builtin;refine zB _ rfl (.tmp 38) (.tmp 46) 23 rfl w.heap.size 60 i0 (.agg #[.slice none 0 0,.int .i64 0,.int .i64 0,.int .i64 0,.int .i64 0]) 5 56 Tryz.underlying23 hi0 hz0 hz1 hz2 rfl (by decide) _ _ _ rfl hown (W6.heap.size+1) _ 1 1 _ rfl hnew rfl (zb6 ⟨xs,tm⟩ Ac xs.length cc) ?c1 ?c2 ?c3 ?_)
    case c1=>unfold maxLen;omega
    case c2=>omega
    case c3=>have:=HC6.out.md.size;simp;omega
    intro v2 W7 ho2 hg2 hb2
    have hsn:=HN.out.snoc (x:=(⟨xs,tm⟩:Blk)) HMW.out (fun q hq=>by unfold Is at hq;omega) hsz HC6.out.own (.cells #[.slice Ac xs.length cc,.int .i64 tm.kind,.int .i64 tm.a,.int .i64 tm.to,.int .i64 tm.el] 60) (by rw [HVL.out];exact ho2) hg2
    have hG:Mods (fun q=>(Value.slice Av m cv).ownBlock=some q) W6 W7:=((Mods.refl _ W6).alloc _).grown hg2 fun q hq=> .inl hq
    have hOB:∀q,(Value.slice Av m cv).ownBlock=some q→w.heap.size≤q:=fun q hq=>(zW HN.out.outer q hq).1
    have HL2:Hid (NB Jk w lo p l A c t3 v2 (bs++ [⟨xs,tm⟩]) W7):=
     ⟨(HMD.out.trans HMW.out).then hG fun q hq=> .inr (hOB q hq),HC6.out.ce.mods hG fun q hq=> .inr (lB pw (hOB q hq)),⟨_,hsn⟩,pw⟩
    clear ho2 hg2 hb2 hown hnew HC6 hsn hG hOB HN HMD HMW HVL
    go_wp2
    go_roundg g
    case measure=>omega
    case rel=>exact ⟨m+1,tot+(xs.length:Int),t3,bs++ [⟨xs,tm⟩],by omega,by go_num,by omega,by show _=_;rw [lc,hbl.out];rfl,HE2,HL2⟩
   ·have d0:(t.err==0)=false:=by simp [he]
    have HEE:Hid (FB=(bs,t)):=by show _=_;rw [HE.out,ja he];show (bs++ [],t)=_;rw [lA]
    clear he
    go_wp2_with fail
    refine C1.out.mono ?_
    rintro e W ⟨rfl,rfl⟩
    clear C1
    go_wp2
    go_ret
    exact ⟨_,rfl,by rw [HEE.out];exact HL.out⟩
end Go.Proofs.YtnifhpbgmjcndaaGreat
