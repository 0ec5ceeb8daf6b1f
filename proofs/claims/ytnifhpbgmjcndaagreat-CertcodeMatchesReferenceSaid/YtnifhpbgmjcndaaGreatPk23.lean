import Derived.Test.YtnifhpbgmjcndaaGreatPk22
set_option linter.unusedVariables false
set_option linter.unusedSimpArgs false
set_option linter.unusedSectionVars false
set_option maxRecDepth 100000
set_option maxHeartbeats 16000000
namespace Go.Proofs.YtnifhpbgmjcndaaGreat
open Go.RowKit
theorem zer(n:Nat)(hn:n≤1048576):∃Z:Array Value,Z.size=n*2∧∀w,(Instr.makeSlice 52 (.int .i64 0) (.int .i64 (n:Int))).run Tryz.prog w= .ok (.slice (some ⟨w.heap.size,0,none⟩) 0 n) (w.alloc (.cells Z 55)):=by
 obtain ⟨i,hi,hz,hs,hb⟩:=info_parts (show (Tryz.prog.info? 55).map (fun i=>(i.zero,i.size,i.bytes))=some (some (.agg #[.int .i64 0,.int .i64 0]),2,16) from by kernel_rfl)
 refine ⟨madeCells (Value.agg #[.int .i64 0,.int .i64 0]).cells (n*i.size),?_,fun w=> ?_⟩
 ·rw [size_madeCells,hs]
 ·have:=run_make (P:=Tryz.prog) w _ _ i _ Tryz.underlying52 hi hz .i64 .i64 0 n (by decide) (by omega) (by rw [hb];omega) (by omega)
  simpa using this
structure WI(w:World)(lo p:Nat)(l:List Nat)(A:Option Addr)(c:Nat)(t:Ip)(bb:Nat)(u:Value)(ps:List Pr)(W:World):Prop where
 md:Mods (fun k=>k=p∨k=bb) w W
 ce:CE lo p l A c t W
 own:W.ownsRow w.heap.size 55 2 u ps.length (prs ps)
 pw:p<w.heap.size∧bb<w.heap.size
section
variable {w W W' : World} {lo p : Nat} {l : List Nat} {A : Option Addr} {c : Nat} {t t' : Ip} {bb : Nat} {u u' : Value} {ps : List Pr}
theorem WI.next{S:Nat→Prop}(h:WI w lo p l A c t bb u ps W)(hm:Mods S W W')(hS:∀k,S k→k=p∨k=bb)(hc:CE lo p l A c t' W'):WI w lo p l A c t' bb u ps W':=
 ⟨h.md.then hm fun k hk=> .inl (hS k hk),hc,hm.ownS h.own fun k hk e=>by have:=zW h.own k hk;have:=h.pw;have:=hS k e;omega,h.pw⟩
theorem WI.app(h:WI w lo p l A c t bb u ps W){a b:Int}{o:Obj}(ho:W'.ownsRow w.heap.size 55 2 u' (ps.length+1) (prs ps++ [.int .i64 a,.int .i64 b]))(hg:(W.alloc o).grownBy W' u.ownBlock):WI w lo p l A c t bb u' (ps++ [(a,b)]) W':=by
 have hm:Mods (fun k=>u.ownBlock=some k) W W':=((Mods.refl _ W).alloc o).grown hg fun k hk=> .inl hk
 have hk:∀k,u.ownBlock=some k→w.heap.size≤k:=fun k hk=>(zW h.own k hk).1
 exact ⟨h.md.then hm fun k hh=> .inr (hk k hh),h.ce.mods hm fun k hh=> .inr (lB h.pw.1 (hk k hh)),by rw [lc,zaU];exact ho,h.pw⟩
theorem WI.appBox(h:WI w lo p l A c t bb u ps W){b:Nat}{vr r n q1 q2:Int}(hr:RDB b bb p vr r n q1 q2 W){o:Obj}(hg:(W.alloc o).grownBy W' u.ownBlock):RDB b bb p vr r n q1 q2 W':=
 hr.mods (((Mods.refl (fun k=>u.ownBlock=some k) W).alloc o).grown hg fun k hk=> .inl hk) fun k hh=>by have:=(zW h.own k hh).1;have:=h.pw;omega
end
theorem zbw{vr r n tot:Int}{t:Ip}(h:1048576<tot+(yu 2 t).1):(ivE vr r n tot t).2=zA 6 (yu 2 t).2∧(ivE vr r n tot t).2.err≠0:=by
 have h1:icE tot t=((yu 2 t).1,zA 6 (yu 2 t).2):=by unfold icE;rw [if_pos h]
 have h2:(ivE vr r n tot t).2=zA 6 (yu 2 t).2:=by
  unfold ivE
  rw [h1,jn (yh (by decide))]
 exact ⟨h2,by rw [h2];exact yh (by decide)⟩
theorem zes(a b:Int):∀u∈ [Value.int .i64 a,Value.int .i64 b],u.oneCell'=true:=by
 intro u hu
 simp only [List.mem_cons,List.not_mem_nil,or_false] at hu
 rcases hu with rfl|rfl<;>rfl
def InvR(vr r n:Int)(FB:List Pr × Ip)(g:Nat)(ps:List Pr)(t:Ip)(b bb p:Nat)(W:World):Prop:=
 (t.err=0→∃(f:Bool) (q:Pr),FB=(ps++(jj vr r n g f q t).1,(jj vr r n g f q t).2)∧Z1 vr f q∧q.2≤4000000000∧RDB b bb p vr r n q.1 (jE f q) W)∧(t.err≠0→FB.2=t)
theorem InvR.done{vr r n:Int}{FB:List Pr × Ip}{ps:List Pr}{t:Ip}{b bb p:Nat}{W:World}(h:InvR vr r n FB 0 ps t b bb p W):FB.2=t∧(FB.2.err=0→ps=FB.1):=by
 by_cases h0:t.err=0
 ·obtain ⟨f,q,h1,_⟩:=h.1 h0
  rw [h1]
  exact ⟨rfl,fun _=>(lA _).symm⟩
 ·rw [h.2 h0]
  exact ⟨rfl,fun h9=>absurd h9 h0⟩
theorem InvR.bad{vr r n:Int}{FB:List Pr × Ip}{g:Nat}{ps:List Pr}{t:Ip}{b bb p:Nat}{W:World}(h:InvR vr r n FB g ps t b bb p W)(h0:t.err≠0):FB.2=t∧(FB.2.err=0→ps=FB.1):=by
 rw [h.2 h0]
 exact ⟨rfl,fun h9=>absurd h9 h0⟩
theorem InvR.more{vr r n:Int}{FB:List Pr × Ip}{g:Nat}{ps:List Pr}{t:Ip}{b bb p:Nat}{W:World}(h:InvR vr r n FB (g+1) ps t b bb p W)(h0:t.err=0)(hb:Byt t.rest)(hr:r≤1000000000)(hn:n≤1000000000):
  ∃(f:Bool) (q:Pr),(Z1 vr f q∧q.2≤4000000000∧RDB b bb p vr r n q.1 (jE f q) W)∧∀(a:Pr) (W':World),((zw vr r n f q t).2.err=0→a=(zw vr r n f q t).1∧RDB b bb p vr r n a.1 a.2 W')→InvR vr r n FB g (ps++ [a]) (zw vr r n f q t).2 b bb p W':=by
 obtain ⟨f,q,h1,h2,h3,h4⟩:=h.1 h0
 refine ⟨f,q,⟨h2,h3,h4⟩,fun a W' ha=> ?_⟩
 have e9:jj vr r n (g+1) f q t=((zw vr r n f q t).1::(jj vr r n g false (zw vr r n f q t).1 (zw vr r n f q t).2).1,(jj vr r n g false (zw vr r n f q t).1 (zw vr r n f q t).2).2):=if_neg fun hh=>hh h0
 rw [e9] at h1
 refine ⟨fun h9=> ?_,fun h9=>by rw [h1,jn h9]⟩
 obtain ⟨rfl,h5⟩:=ha h9
 obtain ⟨h6,h7⟩:=QD h2 hb hr hn h9
 exact ⟨false,_,by rw [h1];simp only [lg,List.singleton_append],h6,h7,h5⟩
def RInv(lo p:Nat)(l:List Nat)(A:Option Addr)(c bb:Nat)(FB:List Pr × Ip)(w:World)(e:Ending)(w':World):Prop:=
 ∃u ps,e= .returned u∧WI w lo p l A c FB.2 bb u ps w'∧(FB.2.err=0→ps=FB.1)∧ps.length≤1048576
theorem zet{w:World}{lo p:Nat}{l:List Nat}{A:Option Addr}{c:Nat}{s:Ip}(h:CE lo p l A c s w){b bb:Nat}{vr r n:Int}(hb:RDB b bb p vr r n 0 (-1) w)(hpb:p<b)(hvr:0≤vr∧vr≤1048576)(hr:0≤r∧r≤1048576)(hn:0≤n∧n≤1048576){tot:Int}(ht:0≤tot∧tot≤1048576):
  Calls Tryz.prog 78 #[.pointer (some ⟨p,0,none⟩),.int .i64 (1048576 - tot),.func (.func 131) #[] #[.pointer (some ⟨b,0,none⟩),.pointer (some ⟨bb,0,none⟩),.pointer (some ⟨b+1,0,none⟩),.pointer (some ⟨b+2,0,none⟩),.pointer (some ⟨b+3,0,none⟩)]] w
   (RInv lo p l A c bb (ivE vr r n tot s) w):=by
 obtain ⟨i0,hi0,hz0,hz1,hz2⟩:=info_parts (show (Tryz.prog.info? 55).map (fun i=>(i.zero,i.size,i.bytes))=some (some (.agg #[.int .i64 0,.int .i64 0]),2,16) from by kernel_rfl)
 obtain ⟨⟨k,sn⟩,hN⟩:∃y,yu 2 s=y:=⟨_,rfl⟩
 have rn:0≤k∧k≤1048576:=by have:=jm (k:=2) (s:=s);rw [hN] at this;exact this
 have C1:=qH (ZH h 2 (by decide) (by decide))
 rw [hN] at C1
 have HB:=qH hb
 have HP:Hid (p<w.heap.size∧bb<w.heap.size):=⟨h.lt,hb.lt⟩
 have HR1:Hid (1048576<tot+k→(ivE vr r n tot s).2=zA 6 sn∧(ivE vr r n tot s).2.err≠0):=fun h9=>by
  have:=zbw (vr:=vr) (r:=r) (n:=n) (tot:=tot) (t:=s) (by rw [hN];exact h9)
  rw [hN] at this
  exact this
 have HR2:Hid (¬1048576<tot+k→ivE vr r n tot s=jj vr r n k.toNat true (0,0) sn):=fun h9=>by
  show _=_
  unfold ivE icE
  rw [hN,if_neg h9]
 obtain ⟨FB,hFB⟩:∃y,ivE vr r n tot s=y:=⟨_,rfl⟩
 rw [hFB] at HR1 HR2⊢
 clear h hb hN hFB
 obtain ⟨k,rfl⟩:∃k':Nat,k=(k':Int):=⟨k.toNat,by omega⟩
 rw [Int.toNat_natCast] at HR2
 obtain ⟨Z,hZ,hmk⟩:=zer k (by omega)
 have hpp:Hid (∀W b2,RDB b bb p vr r n 0 b2 W→p≠bb):=fun W b2 hh=>by have:=hh.xb;omega
 go_enter Tryz.func78,Tryz.ntmps78
 go_wp2_with fail
 refine C1.out.mono ?_
 rintro e W1 ⟨rfl,hm,hc⟩
 have HM1:=qH hm
 have HC1:=qH hc
 have HB1:=qH (HB.out.mods hm fun k hk=>by unfold Is at hk;omega)
 clear hm hc C1 HB
 by_cases hroom:1048576 - tot<(k:Int)
 ·have C2:=qH (Jr HC1.out 6 (by decide))
  obtain ⟨e1,e2⟩:=HR1.out (by omega)
  have HE:=qH e1
  have HE2:=qH e2
  clear HR1 HR2 e1 e2
  go_wp2_with fail
  refine C2.out.mono ?_
  rintro e W2 ⟨rfl,hm,hc⟩
  have HM2:=qH (HM1.out.trans hm)
  have HC2:=qH hc
  rw [←HE.out] at HC2
  clear hm hc C2
  go_wp2
  go_ret
  exact ⟨_, [],rfl,⟨HM2.out.mono fun k hk=> .inl hk,HC2.out,⟨by simp [prs],.inl ⟨rfl,rfl⟩⟩,HP.out⟩,fun h9=>absurd h9 HE2.out,by decide⟩
 ·have HE:=qH (HR2.out (by omega))
  have HL:Hid (WI w lo p l A c sn bb (.slice (some ⟨W1.heap.size,0,none⟩) 0 k) [] (W1.alloc (.cells Z 55))):=
   ⟨(HM1.out.mono fun k hk=> .inl hk).alloc _,HC1.out.alloc _,⟨by simp [prs],.inr ⟨W1.heap.size,k,Z,rfl,HM1.out.size,heap_alloc_new W1 _,lF _,by unfold maxLen;omega,hZ,by simp [prs]⟩⟩,HP.out⟩
  have HB2:=qH (HB1.out.mods ((Mods.refl No W1).alloc (.cells Z 55)) fun _ hk=>hk.elim)
  clear HR1 HR2 HM1 HC1 HB1 hZ
  go_wp2
  generalize (W1.alloc (.cells Z 55))=W2 at*
  generalize W1.heap.size=b1 at*
  go_loopg [8] k (fun g v8 wr=>∃(t:Ip) (ps:List Pr),ps.length+g=k∧Hid (InvR vr r n FB g ps t b bb p wr)∧Hid (WI w lo p l A c t bb v8 ps wr))
  case atStart=>exact ⟨sn, [],by simp,⟨fun _=>⟨true,(0,0),by rw [HE.out];rfl,.inl ⟨rfl,rfl⟩,by decide,HB2.out⟩,fun h9=>by rw [HE.out,jn h9]⟩,HL.out⟩
  case round=>
   clear HE HL HB2
   obtain ⟨t,ps,hmk,HI,HL⟩:=hrel
   obtain ⟨Av,cv,rfl,_,_⟩:=zh HL.out.own
   cases gk with
   |zero=>
    have hlt:¬(ps.length:Int)<(k:Int):=by omega
    obtain ⟨e1,e2⟩:=HI.out.done
    have HE1:=qH e1;have HE2:=qH e2
    clear e1 e2
    go_wp2
    go_ret
    exact ⟨_,ps,rfl,by rw [HE1.out];exact HL.out,HE2.out,by omega⟩
   |succ g=>
    have hlt:(ps.length:Int)<(k:Int):=by omega
    have C1:=qH (Js HL.out.ce)
    by_cases he:t.err=0
    ·have d0:(t.err==0)=true:=by simp [he]
     obtain ⟨f,q,⟨q1,q2,q3⟩,hi⟩:=HI.out.more he (HL.out.ce.byt he) (by omega) (by omega)
     have C2:=qH (zgI HL.out.ce q3 hpb hvr hr hn q1 q2)
     obtain ⟨⟨pr,t2⟩,hx⟩:∃y,zw vr r n f q t=y:=⟨_,rfl⟩
     rw [hx] at hi C2
     have HI2:=qH hi
     dsimp only at HI2 C2
     clear he hx hi HI q1 q2 q3
     go_wp2_with fail
     refine C1.out.mono ?_
     rintro e W ⟨rfl,rfl⟩
     clear C1
     go_wp2_with fail
     refine C2.out.mono ?_
     rintro e W3 ⟨a1,a2,rfl,hm,hc,hbx,hok⟩
     have HL3:=qH (HL.out.next hm (fun k hk=>hk) hc)
     have HB3:=qH hbx
     have HOK:=qH hok
     clear hm hc hbx hok C2 HL
     have hown:(W3.alloc (.cells #[.int .i64 a1,.int .i64 a2] 55)).ownsRow w.heap.size 55 2 (.slice Av ps.length cv) ps.length (prs ps):=((Mods.refl No W3).alloc _).ownS HL3.out.own fun _ _ hk=>hk.elim
     have hnew:=yI W3 #[.int .i64 a1,.int .i64 a2] 55
     go_wp2_with (at_builtin;refine zB _ rfl (.tmp 27) (.tmp 30) 52 rfl w.heap.size 55 i0 (.agg #[.int .i64 0,.int .i64 0]) 2 16 Tryz.underlying52 hi0 hz0 hz1 hz2 rfl (by decide) _ _ _ rfl hown (W3.heap.size+1) _ 1 1 _ rfl hnew rfl (zes a1 a2) ?c1 ?c2 ?c3 ?_)
     case c1=>unfold maxLen;omega
     case c2=>omega
     case c3=>have:=HL3.out.md.size;simp;omega
     intro v2 W4 ho2 hg2 hb2
     have HL4:=qH (HL3.out.app ho2 hg2)
     have HB4:=qH (HL3.out.appBox HB3.out hg2)
     have HI4:=qH (HI2.out (a1,a2) W4 fun h9=>⟨HOK.out h9,HB4.out⟩)
     clear ho2 hg2 hb2 hown hnew HL3 HB3 HB4 HOK HI2
     go_wp2
     go_roundg g
     case measure=>omega
     case rel=>exact ⟨t2,ps++ [(a1,a2)],by rw [lc];simp only [lp,lE];omega,HI4.out,HL4.out⟩
    ·have d0:(t.err==0)=false:=by simp [he]
     obtain ⟨e1,e2⟩:=HI.out.bad he
     have HE1:=qH e1;have HE2:=qH e2
     clear e1 e2 he
     go_wp2_with fail
     refine C1.out.mono ?_
     rintro e W ⟨rfl,rfl⟩
     clear C1
     go_wp2
     go_ret
     exact ⟨_,ps,rfl,by rw [HE1.out];exact HL.out,HE2.out,by omega⟩
theorem Y5(n:Nat)(hn:n≤1000000):∃Z:Array Value,Z.size=n*1∧∀w,(Instr.makeSlice 29 (.int .i64 0) (.int .i64 (n:Int))).run Tryz.prog w= .ok (.slice (some ⟨w.heap.size,0,none⟩) 0 n) (w.alloc (.cells Z 52)):=by
 obtain ⟨i,hi,hz,hs,hb⟩:=info_parts zcg
 refine ⟨madeCells (Value.slice none 0 0).cells (n*i.size),?_,fun w=> ?_⟩
 ·rw [size_madeCells,hs]
 ·have:=run_make (P:=Tryz.prog) w _ _ i _ Tryz.underlying29 hi hz .i64 .i64 0 n (by decide) (by omega) (by rw [hb];omega) (by omega)
  simpa using this
theorem WP.new{w W:World}{lo p:Nat}{l:List Nat}{A:Option Addr}{c:Nat}{t:Ip}(h:CE lo p l A c t w)(hb:Below w.heap.size w W)(n:Nat)(Z:Array Value)(hZ:Z.size=n*1)(hn:n≤1000000):WP w lo p l A c t (.slice (some ⟨W.heap.size,0,none⟩) 0 n) [] (W.alloc (.cells Z 52)):=
 ⟨(Mods.of_below hb).alloc _,(h.mods (S:=No) (Mods.of_below hb) fun _ hk=>hk.elim).alloc _,⟨[],⟨⟨by simp,.inr ⟨W.heap.size,n,Z,rfl,hb.size,heap_alloc_new W _,lF _,by unfold maxLen;omega,hZ,by simp⟩⟩,rfl,fun i u x hu=>by simp at hu,fun i j u u' g hu=>by simp at hu⟩⟩,h.lt⟩
theorem WP.pair{w W W2 W3:World}{lo p:Nat}{l:List Nat}{A:Option Addr}{c:Nat}{t t2:Ip}{v u:Value}{xs:List (List Pr)}{bb:Nat}{ps:List Pr}(h:WP w lo p l A c t v xs W)(hb:Below W.heap.size W W2)(hbb:W.heap.size≤bb)(hi:WI W2 lo p l A c t2 bb u ps W3):WQ w W W2.heap.size lo p l A c t2 v xs u ps W3:=
 ⟨⟨t,h⟩,(Mods.of_below hb).then hi.md fun k hk=>by rcases hk with rfl|rfl;exact .inl rfl;exact .inr hbb,hi.ce,hi.own,hb.size⟩
theorem zgJ{w:World}{lo p:Nat}{l:List Nat}{A:Option Addr}{c:Nat}{t:Ip}(h:CE lo p l A c t w):Calls Tryz.prog 67 #[.pointer (some ⟨p,0,none⟩)] w fun e w'=>∃k:Nat,e= .returned (.int .i64 k)∧k≤l.length∧Below w.heap.size w w':=by
 obtain ⟨i,hc,_⟩:=h
 refine (J0 hc).mono ?_
 rintro e w' ⟨rfl,m,rfl⟩
 refine ⟨(jK l.length i t.err).toNat,?_,?_,jz (ld _ _) m⟩
 ·have h9:0≤jK l.length i t.err:=by have:=hc.le;unfold jK;split<;>omega
  rw [Int.toNat_of_nonneg h9]
 ·unfold jK;split<;>omega
theorem zgK{vr r n tot:Int}{t:Ip}(h:(ivE vr r n tot t).2.err=0):((ivE vr r n tot t).1.length:Int)=(icE tot t).1∧tot+(icE tot t).1≤1048576:=by
 by_cases h9:1048576<tot+(yu 2 t).1
 ·exact absurd h (zbw h9).2
 ·have h1:=(YW (vr:=vr) (r:=r) (n:=n) (icE tot t).1.toNat true (0,0) (icE tot t).2).2 h
  have h2:=zb9 (tot:=tot) (s:=t)
  have h3:(ivE vr r n tot t).1.length=(icE tot t).1.toNat:=h1
  exact ⟨by omega,by show tot+(yu 2 t).1≤_;omega⟩
def GetR(vr r n:Int)(FB:List (List Pr) × Ip)(g:Nat)(xs:List (List Pr))(t:Ip)(room:Int):Prop:=
 (t.err=0→∃tot,(0≤tot∧tot≤1048576)∧room=1048576 - tot∧FB=(xs++(yU vr r n g tot t).1,(yU vr r n g tot t).2))∧(t.err≠0→FB.2=t)
theorem GetR.done{vr r n:Int}{FB:List (List Pr) × Ip}{xs:List (List Pr)}{t:Ip}{room:Int}(h:GetR vr r n FB 0 xs t room)(h0:t.err=0):FB=(xs,t):=by
 obtain ⟨tot,_,_,h1⟩:=h.1 h0
 rw [h1]
 exact Prod.ext (lA _) rfl
theorem GetR.more{vr r n:Int}{FB:List (List Pr) × Ip}{g:Nat}{xs:List (List Pr)}{t:Ip}{room:Int}(h:GetR vr r n FB (g+1) xs t room)(h0:t.err=0):
  ∃tot,(0≤tot∧tot≤1048576)∧room=1048576 - tot∧∀ps:List Pr,((ivE vr r n tot t).2.err=0→ps=(ivE vr r n tot t).1)→GetR vr r n FB g (xs++ [ps]) (ivE vr r n tot t).2 (room - ps.length):=by
 obtain ⟨tot,ht,hr,h1⟩:=h.1 h0
 refine ⟨tot,ht,hr,fun ps hp=> ?_⟩
 have e9:yU vr r n (g+1) tot t=((ivE vr r n tot t).1::(yU vr r n g (tot+(icE tot t).1) (ivE vr r n tot t).2).1,(yU vr r n g (tot+(icE tot t).1) (ivE vr r n tot t).2).2):=if_neg fun hh=>hh h0
 rw [e9] at h1
 refine ⟨fun h9=> ?_,fun h9=>by rw [h1,JJ h9]⟩
 obtain ⟨l1,l2⟩:=zgK h9
 have l3:=zb9 (tot:=tot) (s:=t)
 rw [hp h9]
 exact ⟨tot+(icE tot t).1,by omega,by omega,by rw [h1];simp only [lg,List.singleton_append]⟩
def RGet(lo p:Nat)(l:List Nat)(A:Option Addr)(c:Nat)(zs:List (List Pr))(t:Ip)(w:World)(e:Ending)(w':World):Prop:=
 ∃v vs,e= .returned v∧NestV Jn w' w.heap.size v vs zs∧Mods (Is p) w w'∧CE lo p l A c t w'
theorem zeu{w:World}{lo p:Nat}{l:List Nat}{A:Option Addr}{c:Nat}{s:Ip}(h:CE lo p l A c s w){m vr r n:Int}(hl:l.length≤1000000)(hm:0≤m∧m≤1000000)(hvr:0≤vr∧vr≤1048576)(hr:0≤r∧r≤1048576)(hn:0≤n∧n≤1048576){zs:List (List Pr)}{t:Ip}(hf:yA vr r n m.toNat s=(zs,t)):
  Calls Tryz.prog 34 #[.pointer (some ⟨p,0,none⟩),.int .i64 m,.int .i64 vr,.int .i64 r,.int .i64 n] w (RGet lo p l A c zs t w):=by
 obtain ⟨i1,hi1,hy0,hy1,hy2⟩:=info_parts zcg
 obtain ⟨FB,hFB⟩:∃y,yU vr r n m.toNat 0 s=y:=⟨_,rfl⟩
 have EB:Hid (yU vr r n m.toNat 0 s=FB):=hFB
 have EBad:Hid (FB.2.err≠0→zs= []∧t=FB.2):=fun h9=>by
  unfold yA at hf
  rw [hFB,if_pos h9] at hf
  injection hf with h1 h2
  exact ⟨h1.symm,h2.symm⟩
 have EOk:Hid (FB.2.err=0→FB=(zs,t)):=fun h9=>by
  unfold yA at hf
  rw [hFB,if_neg (fun hh=>hh h9)] at hf
  exact hf
 clear hFB hf
 have HC:=qH h
 have HLL:=qH hl
 have C1:=qH (zgJ h)
 clear h hl
 obtain ⟨M,rfl⟩:∃M:Nat,m=(M:Int):=⟨m.toNat,by omega⟩
 rw [Int.toNat_natCast] at EB
 obtain ⟨Zm,hZm,hmkm⟩:=Y5 M (by omega)
 obtain ⟨Z0,hZ0,hmk0⟩:=Y5 0 (by omega)
 have HZm:=qH hZm;have HZ0:=qH hZ0
 clear hZm hZ0
 have hmk0':∀w,(Instr.makeSlice 29 (.int .i64 0) (.int .i64 0)).run Tryz.prog w= .ok (.slice (some ⟨w.heap.size,0,none⟩) 0 0) (w.alloc (.cells Z0 52)):=hmk0
 clear hmk0
 go_enter Tryz.func34,Tryz.ntmps34
 go_upto_region 1 with fail
 go_cut [11] from 14 (fun s11 wx=>Hid (WP w lo p l A c s s11 [] wx))
 case first=>
  go_wp2_with fail
  refine C1.out.mono ?_
  rintro e W1 ⟨k,rfl,hk,hb⟩
  have hkl:=HLL.out
  obtain ⟨Zk,hZk,hmkk⟩:=Y5 k (by omega)
  have HZk:=qH hZk
  have HK:=qH hk
  have HB1:=qH hb
  clear hk hb hZk
  go_wp2_with fail
  all_goals
   go_meet
   case rel=>first|exact WP.new HC.out HB1.out 0 Z0 HZ0.out (by omega)|exact WP.new HC.out HB1.out M Zm HZm.out (by omega)|exact WP.new HC.out HB1.out k Zk HZk.out (by have:=HLL.out;have:=HK.out;omega)
 case rest=>
  have HP0:=hcut
  clear hcut C1 HC HLL hmkm hmk0' HZm HZ0
  go_wp2
  go_loopg [11,12] M (fun g v11 v12 wr=>∃(t1:Ip) (room:Int) (xs:List (List Pr)),xs.length+g=M∧v12= .int .i64 room∧(-2097152≤room∧room≤1048576)∧Hid (GetR vr r n FB g xs t1 room)∧Hid (WP w lo p l A c t1 v11 xs wr))
  case atStart=>exact ⟨s,1048576, [],by simp,rfl,by omega,⟨fun _=>⟨0,by omega,by omega,EB.out.symm⟩,fun h9=>by rw [←EB.out,JJ h9]⟩,HP0.out⟩
  case round=>
   clear HP0 EB
   obtain ⟨t1,room,xs,hig,rfl,hroom,HI,HP⟩:=hrel
   obtain ⟨vs0,hn0⟩:=HP.out.nst
   obtain ⟨Av,cv,hv,_,_⟩:=zh hn0.outer
   rw [hn0.len] at hv
   subst hv
   clear hn0
   have C1:=qH (Js HP.out.ce)
   cases gk with
   |zero=>
    have hin:¬(xs.length:Int)<(M:Int):=by omega
    by_cases he:t1.err≠0
    ·have d1:(t1.err !=0)=true:=by simp [he]
     obtain ⟨hz,htt⟩:=EBad.out (by rw [HI.out.2 he];exact he)
     rw [HI.out.2 he] at htt
     have HZ:=qH hz;have HTT:=qH htt
     clear he hz htt HI
     go_wp2_with fail
     refine C1.out.mono ?_
     rintro e W ⟨rfl,rfl⟩
     go_wp2
     go_ret
     exact ⟨_, [],rfl,by rw [HZ.out];exact NestV.nil _ _,HP.out.md,by rw [HTT.out];exact HP.out.ce⟩
    ·have he:t1.err=0:=by omega
     have d1:(t1.err !=0)=false:=by simp [he]
     have hF:=HI.out.done he
     have hF2:=EOk.out (by rw [hF];exact he)
     rw [hF] at hF2
     injection hF2 with hx htt
     have HZ:=qH hx;have HTT:=qH htt
     clear he hx htt hF HI
     obtain ⟨vs,hn0⟩:=HP.out.nst
     have HNN:=qH hn0
     clear hn0
     go_wp2_with fail
     refine C1.out.mono ?_
     rintro e W ⟨rfl,rfl⟩
     go_wp2
     go_ret
     exact ⟨_,vs,rfl,by rw [←HZ.out];exact HNN.out,HP.out.md,by rw [←HTT.out];exact HP.out.ce⟩
   |succ g=>
    have hin:(xs.length:Int)<(M:Int):=by omega
    by_cases he:t1.err≠0
    ·have d1:(t1.err !=0)=true:=by simp [he]
     have d0:(t1.err==0)=false:=by simp [he]
     obtain ⟨hz,htt⟩:=EBad.out (by rw [HI.out.2 he];exact he)
     rw [HI.out.2 he] at htt
     have HZ:=qH hz;have HTT:=qH htt
     clear he hz htt HI
     go_wp2_with fail
     refine C1.out.mono ?_
     rintro e W ⟨rfl,rfl⟩
     go_wp2_with fail
     refine C1.out.mono ?_
     rintro e W ⟨rfl,rfl⟩
     go_wp2
     go_ret
     exact ⟨_, [],rfl,by rw [HZ.out];exact NestV.nil _ _,HP.out.md,by rw [HTT.out];exact HP.out.ce⟩
    ·have he:t1.err=0:=by omega
     have d0:(t1.err==0)=true:=by simp [he]
     obtain ⟨tot,ht,hrt,hmore⟩:=HI.out.more he
     subst hrt
     have HM:=qH hmore
     have C2:=qH (zcF p vr r n wr)
     have C3:=qH fun (W2:World) (bb:Nat) (hb:Below wr.heap.size wr W2) (hx:RDB wr.heap.size bb p vr r n 0 (-1) W2)=>zet (HP.out.ce.mods (S:=No) (Mods.of_below hb) fun _ hk=>hk.elim) hx HP.out.ce.lt hvr hr hn ht
     obtain ⟨⟨pz,t2⟩,hpz⟩:∃y,ivE vr r n tot t1=y:=⟨_,rfl⟩
     rw [hpz] at HM C3
     clear he HI hmore hpz
     go_wp2_with fail
     refine C1.out.mono ?_
     rintro e W ⟨rfl,rfl⟩
     clear C1
     go_wp2_with fail
     refine C2.out.mono ?_
     rintro e W2 ⟨bb,rfl,hx,hb⟩
     have C4:=qH (C3.out W2 bb hb hx)
     have HBB:Hid (wr.heap.size≤bb):=by have:=hx.xb;show _≤_;omega
     have HB2:=qH hb
     clear hx hb C2 C3
     go_wp2_with fail
     refine C4.out.mono ?_
     rintro e W3 ⟨u,ps,rfl,hw,hp,hln⟩
     obtain ⟨Ac,cc,rfl,_,_⟩:=zh hw.own
     have HQ:=qH (HP.out.pair HB2.out HBB.out hw)
     have HR:=qH (HM.out ps hp)
     clear hw hp C4 HM
     obtain ⟨vs,hn⟩:=HP.out.nst
     have hpz:=HQ.out.pz
     have HN:=qH hn
     have hvl:=hn.len
     have hon:=(hn.mods HQ.out.md fun k h1 _ h2=>by unfold Is at h2;have:=HP.out.ce.lt;have:=HP.out.pw;omega).outer
     have hown:(W3.alloc (.cells #[.slice Ac ps.length cc] 52)).ownsRow w.heap.size 52 1 (.slice Av xs.length cv) xs.length ((vs.zip xs).flatMap fun p=>Jn.oc p.1 p.2):=by
      have h9:=((Mods.refl No W3).alloc (.cells #[.slice Ac ps.length cc] 52)).ownS hon fun _ _ hk=>hk.elim
      rw [hvl] at h9
      exact h9
     have hnew:=yI W3 #[.slice Ac ps.length cc] 52
     have HVL:=qH hvl
     clear hn hon hvl
     go_wp2_with (at_builtin;refine zB _ rfl (.tmp 41) (.tmp 43) 29 rfl w.heap.size 52 i1 (.slice none 0 0) 1 24 Tryz.underlying29 hi1 hy0 hy1 hy2 rfl (by decide) _ _ _ rfl hown (W3.heap.size+1) _ 1 1 _ rfl hnew rfl (Q3 ps Ac ps.length cc) ?c1 ?c2 ?c3 ?_)
     case c1=>unfold maxLen;omega
     case c2=>omega
     case c3=>(try rw [World.size_alloc]);omega
     intro v5 W5 ho hg _
     have HP7:=qH (HQ.out.fin HN.out (by rw [HVL.out];exact ho) hg)
     clear hown hnew ho hg HQ HN HVL HP
     go_wp2
     go_roundg g
     case measure=>omega
     case rel=>exact ⟨t2,1048576 - tot - ps.length,xs++ [ps],by rw [lc];simp only [lp,lE];omega,by go_num,by omega,HR.out,HP7.out⟩
end Go.Proofs.YtnifhpbgmjcndaaGreat
