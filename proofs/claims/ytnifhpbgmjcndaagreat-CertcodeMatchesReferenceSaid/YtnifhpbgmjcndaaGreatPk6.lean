import Derived.Test.YtnifhpbgmjcndaaGreatPk5
set_option linter.unusedVariables false
set_option linter.unusedSimpArgs false
set_option linter.unusedSectionVars false
set_option maxRecDepth 100000
set_option maxHeartbeats 1000000
namespace Go.Proofs.YtnifhpbgmjcndaaGreat
open Go.RowKit
def MemP(r:Nat × Nat × Nat)(S:Nat→Prop)(w:World)(Q:World→Prop)(e:Ending)(w':World):Prop:=e=UC r∧Mods S w w'∧Q w'
def Both(p:Nat)(S:Nat→Prop):Nat→Prop:=fun k=>k=p∨S k
theorem zfx(K:FuncId)(caps:Array Value)(hK:∀args W,(callFunc K args).run Tryz.prog W= .ok (.enter K args) W){w:World}{lo p:Nat}{l:List Nat}{i:Nat}{er:Int}{A:Option Addr}{c:Nat}(h:Cur w lo p l i er A c)(r:Nat × Nat × Nat)
  (hr:r.2.1≤(l.drop i).length) (S:Nat→Prop) (hS:∀k,S k→k<lo∨p<k) (Q:World→Prop) (hQ:∀w' j u,Q w'→Q (w'.setCell ⟨p,j,none⟩ u))
  (H:Hid (∀A' c' W,(∃n,W=w.drewN n)→Sees w p A' (bts (l.drop i))→l.length - i≤c'→c'≤maxLen→Calls Tryz.prog K (#[.slice A' (l.length - i) c']++caps) W (MemP r S w Q))) (he:er=0):
  Calls Tryz.prog 117 #[.pointer (some ⟨p,0,none⟩),.func (.func K) #[] caps] w fun e w'=>e= .returned (.int .u64 (zT er r))∧Mods (Both p S) w w'∧Cur w' lo p l (yN i er r) (yQ er r) A c∧Q w':=by
 have h0:w.cell? ⟨p,0,none⟩=some (.slice A l.length c):=h.row.cell 0
 have h1:w.cell? ⟨p,1,none⟩=some (.int .i64 i):=h.row.cell 1
 have hle:=h.le
 have hmx:=h.max
 have hlc:=h.lec
 have hcm:=h.cmax
 have hcm2:c - i≤maxLen:=by omega
 unfold maxLen at hmx
 subst he
 have hdl:(l.drop i).length=l.length - i:=by simp
 have hn:r.2.1≤l.length - i:=by omega
 have hs:=h.sees.drop (k:=i) (by rw [zg];exact hlc)
 rw [show (bts l).drop i=bts (l.drop i) from by simp [bts]] at hs
 clear hdl hr
 obtain ⟨v,n,e⟩:=r
 simp only at H hn
 by_cases hci:c=i
 case' pos=>rw [if_pos hci] at hs
 case' neg=>rw [if_neg hci] at hs
 all_goals
  have Hs:=qH hs
  have HQ:=qH hQ
  have HS:=qH hS
  clear hs hQ hS
  go_enter Tryz.func117,Tryz.ntmps117
  go_wp2_with fail
  refine (je h).mono ?_
  rintro e W ⟨rfl,rfl⟩
  have HC:=qH h
  clear h
  go_wp2_with fail
  go_region_with ((with_reducible refine (H.out _ _ _ (by first|exact ⟨1,rfl⟩|exact ⟨_,rfl⟩) Hs.out (by omega) (by first|exact hcm2|exact lF _)).mono ?_);rintro e W ⟨rfl,hm,hq⟩;have Hm:=qH hm;have Hq:=qH hq;clear hm hq;unfold UC)
  all_goals
   have hc1:=(HC.out.mods Hm.out HS.out)
   have h1':W.cell? ⟨p,1,none⟩=some (.int .i64 i):=hc1.row.cell 1
   have h2':W.cell? ⟨p,2,none⟩=some (.int .i64 0):=hc1.row.cell 2
   have f1:=hc1.row.frozen 1
   have f2:=hc1.row.frozen 2
   have HC1:=qH hc1
   have HM:=qH (Hm.out.mono (S':=Both p S) fun k hk=> .inr hk)
   clear hc1 HS Hm HC Hs
   by_cases h3:e=0
   ·subst h3
    go_wp2
    go_ret
    exact ⟨rfl,HM.out.setCell (p:=⟨p,1,none⟩) (.inl (.inl rfl)) _,by have:=HC1.out.at_ (i+n) (by omega);rwa [Int.natCast_add] at this,HQ.out _ _ _ Hq.out⟩
   ·have e3:((e:Int) !=0)=true:=by simp;omega
    have HV:=qH (show zT 0 (v,n,e)=0 from if_neg fun h=>h3 h.2)
    have HI:=qH (show yN i 0 (v,n,e)=i from if_neg fun h=>h3 h.2)
    go_wp2
    go_ret
    exact ⟨by rw [HV.out];rfl,HM.out.setCell (p:=⟨p,2,none⟩) (.inl (.inl rfl)) _,by rw [HI.out];exact HC1.out.err e,HQ.out _ _ _ Hq.out⟩
def jk(n:Int)(l:List Nat):Nat × Nat × Nat:=if n<0 then (0,0,32) else if (l.length:Int)<n then (0,0,1) else (0,n.toNat,0)
theorem zcr(n:Int)(l:List Nat):(jk n l).2.1≤l.length:=by
 unfold jk
 split
 ·simp
 ·split
  ·simp
  ·simp;omega
def Je(er n:Int)(l:List Nat):List Nat:=if er=0∧0≤n∧n≤(l.length:Int) then l.take n.toNat else []
def Got(B q:Nat)(l:List Nat)(w':World):Prop:=∃A' c',Row w' q 22 #[.slice A' l.length c']∧w'.ownsRow B 5 1 (.slice A' l.length c') l.length (bts l)∧(∀x,A'=some x→B≤x.block∧x.block≠q)∧l.length≤c'∧c'≤maxLen
theorem Y3{n:Int}{l:List Nat}(h0:0≤n)(h1:n≤(l.length:Int)):Je 0 n l=l.take n.toNat:=if_pos ⟨rfl,h0,h1⟩
theorem zcs{er n:Int}{l:List Nat}(h0:n<0):Je er n l= []:=if_neg fun h=>by omega
theorem zct{er n:Int}{l:List Nat}(h0:(l.length:Int)<n):Je er n l= []:=if_neg fun h=>by omega
theorem zcu{er n:Int}{l:List Nat}(h0:er≠0):Je er n l= []:=if_neg fun h=>h0 h.1
theorem zdn{w:World}{B q:Nat}(h:Row w q 22 #[.slice none 0 0]):Got B q [] w:=
 ⟨none,0,h,⟨rfl,.inl ⟨rfl,rfl⟩⟩,(fun _ h=>by cases h),la _,lF _⟩
theorem zhk(B:Nat)(A:Option Addr)(l:List Nat)(c:Nat)(n:Int)(q q':Nat)(w:World)(hs:Sees w B A (bts l))(hB:B≤w.heap.size)(hm:l.length≤70368744177664)(hlc:l.length≤c)(hc:c≤maxLen)(hn1:n≤9223372036854775807)
  (hq:w.cell? ⟨q,0,none⟩=some (.int .i64 n)) (hq':Row w q' 22 #[.slice none 0 0]) (hne:q≠q'):
  Calls Tryz.prog 119 #[.slice A l.length c,.pointer (some ⟨q,0,none⟩),.pointer (some ⟨q',0,none⟩)] w (MemP (jk n l) (Is q') w (Got w.heap.size q' (Je 0 n l))):=by
 have HU:=qH (show jk n l=if n<0 then (0,0,32) else if (l.length:Int)<n then (0,0,1) else (0,n.toNat,0) from rfl)
 by_cases n0:n<0
 ·have HU':=qH (HU.out.trans (if_pos n0))
  have HL:=qH (zcs (er:=0) (l:=l) n0)
  clear hs
  go_enter Tryz.func119,Tryz.ntmps119
  go_wp2
  go_ret3
  exact ⟨by rw [HU'.out];rfl,Mods.refl _ _,by rw [HL.out];exact zdn hq'⟩
 have n0':0≤n:=by omega
 unfold maxLen at hc
 by_cases hf:(l.length:Int)<n
 ·have HU':=qH (HU.out.trans ((if_neg n0).trans (if_pos hf)))
  have HL:=qH (zct (er:=0) (l:=l) hf)
  clear hs n0
  go_enter Tryz.func119,Tryz.ntmps119
  go_wp2
  go_ret3
  exact ⟨by rw [HU'.out];rfl,Mods.refl _ _,by rw [HL.out];exact zdn hq'⟩
 have HU':=qH (HU.out.trans ((if_neg n0).trans (if_neg hf)))
 have HL:=qH (Y3 (l:=l) n0' (by omega))
 obtain ⟨k,rfl⟩:=Int.eq_ofNat_of_zero_le n0'
 have hk:k≤l.length:=by omega
 have htl:(l.take k).length=k:=by rw [lu];omega
 have hst:Sees w B A (bts (l.take k)):=by have:=hs.take (k:=k);unfold bts at*;rwa [List.map_take]
 have hcl:=YR A (l.take k) B c w hst hB (by omega)
 rw [htl] at hcl
 have HCl:=qH hcl
 have HTL:=qH htl
 have hql:q<w.heap.size:=World.block_lt_of_cell? w _ hq
 have HQ:=qH hq'
 clear hs hst hcl htl n0 hf HU hq' n0'
 go_enter Tryz.func119,Tryz.ntmps119
 go_wp2_with fail
 refine HCl.out.mono ?_
 rintro e W ⟨A2,c2,rfl,ho,hb,hlc2,hm2,ha2⟩
 have hr2:=HQ.out.below hb HQ.out.lt
 have hx0:W.cell? ⟨q',0,none⟩=some (.slice none 0 0):=hr2.cell 0
 have hx1:=hr2.frozen 0
 have hx2:W.cell? ⟨q,0,none⟩=some (.int .i64 k):=(hb.cell (p:=⟨q,0,none⟩) hql).trans hq
 have HO:=qH ho
 have HB:=qH (Mods.of_below (S:=Is q') hb)
 have HR:=qH hr2
 clear ho hb hr2
 go_wp2_with fail
 go_quiet (fail)
 go_wp2
 go_ret3
 have hq2:=HQ.out.lt
 have hz:w.heap.size≤W.heap.size:=HB.out.size
 have hput:Mods (Is q') W ((W.setCell ⟨q',0,none⟩ (.slice A2 k c2)).drewN nq):=((Mods.refl _ _).put 0 _).drewN _
 have hne2:∀x,A2=some x→w.heap.size≤x.block∧x.block≠q':=fun x hx=>by have:=ha2 x hx;omega
 refine ⟨by rw [HU'.out];rfl,HB.out.trans hput,?_⟩
 rw [HL.out,Int.toNat_natCast]
 refine ⟨A2,c2,?_,?_,hne2,by have:=HTL.out;omega,hm2⟩
 ·rw [HTL.out]
  exact (HR.out.put 0 _).drewN nq
 ·rw [HTL.out]
  refine hput.own HO.out fun g hg=> ?_
  have:A2=some ⟨g,0,none⟩∨∃x,A2=some x∧x.block=g:=by
   rcases A2 with _|x
   ·simp [Value.ownBlock] at hg
   ·exact .inr ⟨x,rfl,by simpa [Value.ownBlock] using hg⟩
  rcases this with h|⟨x,h,hx⟩
  ·exact (hne2 _ h).2
  ·intro hs
   have:=(hne2 _ h).2
   unfold Is at hs
   omega
theorem zfy(K:FuncId)(caps:Array Value){w:World}{lo p:Nat}{l:List Nat}{i:Nat}{er:Int}{A:Option Addr}{c:Nat}(h:Cur w lo p l i er A c)(he:er≠0):
  Calls Tryz.prog 117 #[.pointer (some ⟨p,0,none⟩),.func (.func K) #[] caps] w fun e w'=>e= .returned (.int .u64 0)∧w=w':=by
 have e3:(er !=0)=true:=by simp [he]
 clear he
 go_enter Tryz.func117,Tryz.ntmps117
 go_wp2_with fail
 refine (je h).mono ?_
 rintro e W ⟨rfl,rfl⟩
 go_wp2
 go_ret
 exact ⟨rfl,rfl⟩
def zhl(w:World)(lo p:Nat)(l:List Nat)(i:Nat)(er:Int)(A:Option Addr)(c:Nat)(n:Int)(e:Ending)(w':World):Prop:=
 ∃A' c',e= .returned (.slice A' (Je er n (l.drop i)).length c')∧Mods (Is p) w w'∧Cur w' lo p l (yN i er (jk n (l.drop i))) (yQ er (jk n (l.drop i))) A c∧
  w'.ownsRow w.heap.size 5 1 (.slice A' (Je er n (l.drop i)).length c') (Je er n (l.drop i)).length (bts (Je er n (l.drop i)))∧(∀x,A'=some x→w.heap.size≤x.block)
theorem Za{w:World}{lo p:Nat}{l:List Nat}{i:Nat}{er:Int}{A:Option Addr}{c:Nat}(h:Cur w lo p l i er A c)(n:Int)(hn1:n≤9223372036854775807)(hsm:l.length≤70368744177664):
  Calls Tryz.prog 66 #[.pointer (some ⟨p,0,none⟩),.int .i64 n] w (zhl w lo p l i er A c n):=by
 have hm0:Mods (Is p) w ((w.alloc (.cells #[.int .i64 n] 3)).alloc (.cells #[.slice none 0 0] 22)):=((Mods.refl _ _).alloc _).alloc _
 have h1:=(h.alloc (.cells #[.int .i64 n] 3)).alloc (.cells #[.slice none 0 0] 22)
 have r1:Row ((w.alloc (.cells #[.int .i64 n] 3)).alloc (.cells #[.slice none 0 0] 22)) w.heap.size 3 #[.int .i64 n]:=(Row.new w 3 #[.int .i64 n]).alloc _
 have r2:Row ((w.alloc (.cells #[.int .i64 n] 3)).alloc (.cells #[.slice none 0 0] 22)) (w.heap.size+1) 22 #[.slice none 0 0]:=by
  have:=Row.new (w.alloc (.cells #[.int .i64 n] 3)) 22 #[.slice none 0 0]
  simpa using this
 have hpl:=h.row.lt
 have hlop:=h.lop
 by_cases he:er=0
 ·have hrd:=zfx 119 #[.pointer (some ⟨w.heap.size,0,none⟩),.pointer (some ⟨w.heap.size+1,0,none⟩)] (fun _ _=>rfl) h1 (jk n (l.drop i)) (zcr _ _)
   (Is (w.heap.size+1)) (fun k hk=>by unfold Is at hk;omega) (Got (w.heap.size+2) (w.heap.size+1) (Je 0 n (l.drop i)))
   (fun w' j u ⟨A',c',g1,g2,g3,g4,g5⟩=>⟨A',c',g1.far (q:=⟨p,j,none⟩) (by show _≠p;omega) u,ownsRow_setCell_below g2 (a:=⟨p,j,none⟩) (by show p<_;omega) u,g3,g4,g5⟩)
   (fun A' c' W ⟨m,hW⟩ hs hk1 hk2=>by
    subst hW
    have:=zhk p A' (l.drop i) c' n w.heap.size (w.heap.size+1) (((w.alloc (.cells #[.int .i64 n] 3)).alloc (.cells #[.slice none 0 0] 22)).drewN m) (hs.drewN m) (by simp;omega) (by rw [lr];omega) (by rw [lr];exact hk1) hk2 hn1
     (r1.cell 0) r2 (by omega)
    rw [h.restlen] at this
    exact this.mono fun e w' ⟨a,b,c⟩=>⟨a,⟨b.os,b.tape,b.output,b.size,b.block⟩,by simpa using c⟩) he
  have HC:=qH hrd
  have HM:=qH hm0
  subst he
  clear h1 r1 r2 hrd hm0
  go_enter Tryz.func66,Tryz.ntmps66
  go_wp2_with fail
  refine HC.out.mono ?_
  rintro e W ⟨rfl,hm,hc,A2,c2,g1,g2,g3,g4,g5⟩
  have hx0:W.cell? ⟨w.heap.size+1,0,none⟩=some (.slice A2 (Je 0 n (l.drop i)).length c2):=g1.cell 0
  have Hm:=qH hm
  have Hc:=qH hc
  have Hg:=qH g2
  clear hm hc g1 g2 HC
  go_wp2
  go_ret
  refine ⟨A2,c2,rfl,?_,Hc.out,⟨Hg.out.1,?_⟩,fun x hx=>by have:=(g3 x hx).1;omega⟩
  ·exact HM.out.then Hm.out fun k hk=>by
    rcases hk with hk|hk
    ·exact .inl hk
    ·unfold Is at hk;omega
  ·rcases Hg.out.2 with hh|⟨g,cap,cur,h1,h2,h3⟩
   ·exact .inl hh
   ·exact .inr ⟨g,cap,cur,h1,by omega,h3⟩
 ·have hL:=zcu (n:=n) (l:=l.drop i) he
  have HL:=qH hL
  have HI:=qH (show yN i er (jk n (l.drop i))=i from if_neg fun h=>he h.1)
  have HE:=qH (show yQ er (jk n (l.drop i))=er from if_neg he)
  have HC:=qH (zfy 119 #[.pointer (some ⟨w.heap.size,0,none⟩),.pointer (some ⟨w.heap.size+1,0,none⟩)] h1 he)
  have HM:=qH hm0
  have H1:=qH h1
  clear h1 r1 r2 hm0 he hL
  go_enter Tryz.func66,Tryz.ntmps66
  go_wp2_with fail
  refine HC.out.mono ?_
  rintro e W ⟨rfl,rfl⟩
  go_wp2
  go_ret
  refine ⟨none,0,by rw [HL.out];rfl,HM.out,by rw [HI.out,HE.out];exact H1.out,by rw [HL.out];exact ⟨rfl,.inl ⟨rfl,rfl⟩⟩,fun _ h=>by cases h⟩
theorem zdo(A:Option Addr)(l:List Nat)(B c:Nat)(w:World)(hs:Sees w B A (bts l))(hB:B≤w.heap.size)(hb:Byt l)(hm:l.length≤70368744177664):
  Calls Tryz.prog 60 #[.slice A l.length c] w fun e w'=>∃p A' c',e= .returned (.pointer (some ⟨p,0,none⟩))∧w.heap.size≤p∧Cur w' w.heap.size p l 0 0 A' c'∧Below w.heap.size w w':=by
 have HC:=qH (YR A l B c w hs hB hm)
 clear hs
 go_enter Tryz.func60,Tryz.ntmps60
 go_wp2_with fail
 refine HC.out.mono ?_
 rintro e W ⟨A2,c2,rfl,ho,hbl,hlc,hcm,ha⟩
 have HR:=qH (Row.new W 180 #[.slice A2 l.length c2,.int .i64 0,.int .i64 0])
 have HO:=qH ho
 have HB:=qH hbl
 clear ho hbl HC
 go_wp2
 go_ret
 refine ⟨W.heap.size,A2,c2,rfl,HB.out.size,⟨HR.out,?_,fun x hx=>ha x hx,HB.out.size,hb,lF _,hlc,hcm⟩,HB.out.alloc HB.out.size _⟩
 exact (Sees.of_own HO.out).alloc (la _) _
structure Wri(w:World)(q hi:Nat)(v:Value)(l:List Nat):Prop where
 row:Row w q 98 #[v]
 own:w.ownsRow (q+1) 5 1 v l.length (bts l)
 blk:∀k,v.ownBlock=some k→q<k∧k<hi
 qhi:q<hi
def Zt(q:Nat):Nat→Prop:=fun k=>q≤k
section
variable {w w' : World} {q hi : Nat} {v : Value} {l : List Nat}
theorem jr{w:World}{base n:Nat}{e:TypeId}{v:Value}{xs:List Value}(h:w.ownsRow base e 1 v n xs)(k:Nat)(hk:v.ownBlock=some k):base≤k∧k<w.heap.size:=by
 rcases h.2 with ⟨rfl,_⟩|⟨g,cap,cur,rfl,hg,hh,_⟩
 ·simp [Value.ownBlock] at hk
 ·have:g=k:=by simpa [Value.ownBlock] using hk
  subst this
  exact ⟨hg,(Array.getElem?_eq_some_iff.1 hh).1⟩
theorem yi{w:World}{base n:Nat}{e:TypeId}{v:Value}{xs:List Value}(h:w.ownsRow base e 1 v n xs)(hl:xs.length=n):∃A c,v= .slice A n c∧n≤c∧c≤maxLen:=by
 rcases h.2 with ⟨rfl,h0⟩|⟨g,cap,cur,rfl,_,_,h1,h2,_⟩
 ·subst h0
  exact ⟨none,0,rfl,la _,lF _⟩
 ·exact ⟨_,cap,rfl,h1,h2⟩
theorem Wri.mods{S:Nat→Prop}(h:Wri w q hi v l)(hm:Mods S w w')(hp:∀k,S k→k<q∨hi≤k):Wri w' q hi v l:=
 ⟨h.row.mods hm fun hs=>by have:=hp q hs;have:=h.qhi;omega,hm.own h.own fun k hk hs=>by have:=hp k hs;have:=h.blk k hk;omega,h.blk,h.qhi⟩
theorem Wri.new(w:World):Wri (w.alloc (.cells #[.slice none 0 0] 98)) w.heap.size (w.heap.size+1) (.slice none 0 0) []:=
 ⟨Row.new _ _ _,⟨rfl,.inl ⟨rfl,rfl⟩⟩,fun k hk=>by simp [Value.ownBlock] at hk,by omega⟩
end
def zdp(w:World)(q:Nat)(l:List Nat)(e:Ending)(w':World):Prop:=e= .returned (.tuple #[])∧(∃v',Wri w' q w'.heap.size v' l)∧Mods (Zt q) w w'
theorem Yk{w:World}{q hi:Nat}{v:Value}{l:List Nat}(h:Wri w q hi v l)(A:Option Addr)(x:List Nat)(c B:Nat)(hs:Sees w B A (bts x))(hB:B≤w.heap.size)(hm:l.length+x.length≤70368744177664):
  Calls Tryz.prog 101 #[.pointer (some ⟨q,0,none⟩),.slice A x.length c] w (zdp w q (l++x)):=by
 obtain ⟨i0,hi0,hz0,hz1,hz2⟩:=info_parts infoU8
 have h0:w.cell? ⟨q,0,none⟩=some v:=h.row.cell 0
 have hs1:=hs.more hB
 have hql:=h.row.lt
 have HH:=qH h
 have ho:=h.own
 clear hs h
 go_enter Tryz.func101,Tryz.ntmps101
 go_wp2_with (at_builtin;refine zv _ rfl (.tmp 10) (.tmp 11) 22 rfl (q+1) 5 i0 (.int .u8 0) 1 Tryz.underlying22 hi0 hz0 hz1 hz2 rfl _ _ _ rfl ho w.heap.size _ _ _ (bts x) rfl hs1 (zg _) (ye _) ?c1 ?c2 ?c3 ?_)
 case c1=>unfold maxLen;omega
 case c2=>omega
 case c3=>omega
 intro v1 W1 ho1 hg1
 have hrow:Row W1 q 98 #[v]:=(hg1.block q hql (fun e=>by have:=HH.out.blk q e.symm;omega)).trans HH.out.row
 have hmod:Mods (Zt q) w W1:=(Mods.refl _ _).grown hg1 fun k hk=> .inl (by have:=HH.out.blk k hk;unfold Zt;omega)
 rw [←yx] at ho1
 obtain ⟨A1,c1,rfl,hc1,hc2⟩:=yi ho1 (by rw [zg,lc])
 have hx0:W1.cell? ⟨q,0,none⟩=some v:=hrow.cell 0
 have hx1:=hrow.frozen 0
 have HO:=qH ho1
 have HR:=qH hrow
 have HM:=qH hmod
 clear ho1 hg1 hrow hmod ho
 go_wp2
 go_end0
 have hp:Mods (Is q) W1 (W1.setCell ⟨q,0,none⟩ (.slice A1 (l.length+x.length) c1)):=(Mods.refl _ _).put 0 _
 have ho2:=hp.own HO.out fun k hk hs=>by have:=jr HO.out k hk;unfold Is at hs;omega
 refine ⟨rfl,⟨.slice A1 (l.length+x.length) c1,HR.out.put 0 _,by rw [lc];exact ho2,fun k hk=>by have:=jr ho2 k hk;omega,(HR.out.put 0 _).lt⟩,HM.out.then hp fun k hk=> .inl (by unfold Is at hk;unfold Zt;omega)⟩
theorem zeh{w:World}{q hi:Nat}{v:Value}{l:List Nat}(h:Wri w q hi v l)(b:Nat)(hb:b<256)(hm:l.length+1≤70368744177664):
  Calls Tryz.prog 99 #[.pointer (some ⟨q,0,none⟩),.int .u8 b] w (zdp w q (l++ [b])):=by
 have h1:=h.mods (S:=No) ((Mods.refl _ _).alloc (.cells #[.int .u8 b] 5)) fun _ hk=>hk.elim
 have HC:=qH (Yk h1 (some ⟨w.heap.size,0,none⟩) [b] 1 (w.heap.size+1) (fun _=>⟨w.heap.size,0,rfl,by omega,fun i u hu=>by
  rw [(Row.new w 5 #[.int .u8 b]).cell (0+i),←hu,lI]
  simp [bts]⟩) (by simp) (by simpa using hm))
 clear h h1
 go_enter Tryz.func99,Tryz.ntmps99
 go_wp2_with fail
 refine HC.out.mono ?_
 rintro e W ⟨rfl,hw,hmm⟩
 have HW:=qH hw
 have HM:=qH hmm
 clear hw hmm
 go_wp2
 go_end0
 exact ⟨rfl,HW.out,((Mods.refl _ _).alloc _).trans HM.out⟩
theorem zei{w:World}{q hi:Nat}{v:Value}{l:List Nat}(h:Wri w q hi v l)(x:Int)(h0:0≤x)(h1:x≤18446744073709551615)(hm:l.length+10≤70368744177664)(hhi:hi≤w.heap.size):
  Calls Tryz.prog 100 #[.pointer (some ⟨q,0,none⟩),.int .u64 x] w (zdp w q (l++zc x.toNat)):=by
 have hl:yc x.toNat≤10:=zC _
 have HH:=qH h
 clear h
 go_enter Tryz.func100,Tryz.ntmps100
 go_wp2_with fail
 refine (zcY _ _ h0 h1).mono ?_
 rintro e W ⟨g,rfl,ho,hb⟩
 have hw:=HH.out.mods (S:=No) (Mods.of_below hb) fun _ hk=>hk.elim
 have HC:=qH (Yk hw (some ⟨g,0,none⟩) (zc x.toNat) (yc x.toNat) W.heap.size (Sees.of_own ho) (la _) (by unfold yc at hl;omega))
 have HB:=qH hb
 clear hw ho hb
 go_wp2_with fail
 refine HC.out.mono ?_
 rintro e W2 ⟨rfl,hw,hmm⟩
 have HW:=qH hw
 have HM:=qH hmm
 clear hw hmm
 go_wp2
 go_end0
 exact ⟨rfl,HW.out,(Mods.of_below HB.out).trans HM.out⟩
def zdq(w:World)(l:List Nat)(e:Ending)(w':World):Prop:=
 ∃A' c',e= .returned (.slice A' l.length c')∧w'.ownsRow w.heap.size 5 1 (.slice A' l.length c') l.length (bts l)∧Below w.heap.size w w'
theorem Uv{w:World}{q hi:Nat}{v:Value}{l:List Nat}(h:Wri w q hi v l)(hm:l.length≤70368744177664):
  Calls Tryz.prog 45 #[.pointer (some ⟨q,0,none⟩)] w (zdq w l):=by
 obtain ⟨A,c,rfl,_,_⟩:=yi h.own (zg _)
 have h0:w.cell? ⟨q,0,none⟩=some (.slice A l.length c):=h.row.cell 0
 have HC:=qH (YR A l w.heap.size c w (Sees.of_own h.own) (la _) hm)
 clear h
 go_enter Tryz.func45,Tryz.ntmps45
 go_wp2_with fail
 refine HC.out.mono ?_
 rintro e W ⟨A2,c2,rfl,ho,hbl,_⟩
 have HO:=qH ho
 have HB:=qH hbl
 clear ho hbl
 go_wp2
 go_ret
 exact ⟨A2,c2,rfl,HO.out,HB.out⟩
theorem Jp(w:World)(cs:Array Value)(e:TypeId)(l:List Nat)(h:cs.toList=bts l):Sees (w.alloc (.cells cs e)) (w.heap.size+1) (some ⟨w.heap.size,0,none⟩) (bts l):=fun _=>by
 refine ⟨w.heap.size,0,rfl,by omega,fun i u hu=> ?_⟩
 rw [cell_of_row _ w.heap.size (0+i) cs e (0,0) (heap_alloc_new w _),←hu,←h,lI]
 simp
theorem zfz(l:List Nat)(n:Nat)(A A':Option Addr)(c c':Nat)(B:Nat)(w:World)(hs:Sees w B A (bts l))(hs':Sees w B A' (bts l))(hn:l.length=n)(hm:l.length≤100):
  Calls Tryz.prog 15 #[.slice A n c,.slice A' n c'] w fun e w'=>e= .returned (.bool true)∧∃n,w.drewN n=w':=by
 subst hn
 have:=zax B A A' l l c c' w hs hs' (by unfold maxLen;omega) (by unfold maxLen;omega)
 rw [Yc] at this
 exact this
structure Keep(q:Nat)(w w':World):Prop where
 ty:∀B T cs,Row w B T cs→T≠5→T≠98→Row w' B T cs
 old:∀v,Row w q 98 #[v]→∀B o,w.heap[B]?=some o→B≠q→(∀k,v.ownBlock=some k→B<k)→w'.heap[B]?=some o∧∃v',Row w' q 98 #[v']∧∀k,v'.ownBlock=some k→B<k
theorem zej{w:World}{a b n:Nat}{e:TypeId}{v:Value}{xs:List Value}(h:w.ownsRow b e 1 v n xs)(ha:a≤b):w.ownsRow a e 1 v n xs:=by
 obtain ⟨h1,h2|⟨g,cap,cur,rfl,h3,h4⟩⟩:=h
 ·exact ⟨h1,.inl h2⟩
 ·exact ⟨h1,.inr ⟨g,cap,cur,rfl,by omega,h4⟩⟩
theorem Zq{w:World}{B:Nat}{o:Obj}(h:w.heap[B]?=some o):B<w.heap.size:=(Array.getElem?_eq_some_iff.1 h).1
theorem Keep.refl{q:Nat}(w:World):Keep q w w:=⟨fun _ _ _ h _ _=>h,fun v hv B o hB _ hk=>⟨hB,v,hv,hk⟩⟩
theorem Keep.trans{q:Nat}{a b c:World}(h:Keep q a b)(k:Keep q b c):Keep q a c:=
 ⟨fun B T cs hr h1 h2=>k.ty B T cs (h.ty B T cs hr h1 h2) h1 h2,fun v hv B o hB hq hk=>by
  obtain ⟨h1,v1,h2,h3⟩:=h.old v hv B o hB hq hk
  exact k.old v1 h2 B o h1 hq h3⟩
theorem Keep.below{q:Nat}{a b:World}(h:Below a.heap.size a b):Keep q a b:=
 ⟨fun B T cs hr _ _=>hr.below h hr.lt,fun v hv B o hB hq hk=>⟨(h.block B (Zq hB)).trans hB,v,hv.below h hv.lt,hk⟩⟩
theorem Keep.alloc{q:Nat}{a b:World}(h:Keep q a b)(o:Obj):Keep q a (b.alloc o):=h.trans (Keep.below ((ld b.heap.size b).alloc (la _) o))
theorem Wri.apart{w:World}{q hi:Nat}{v:Value}{l:List Nat}(h:Wri w q hi v l){B:Nat}{T:TypeId}{cs:Array Value}(hr:Row w B T cs)(h1:T≠5)(h2:T≠98):v.ownBlock≠some B∧B≠q:=by
 refine ⟨fun e=> ?_,fun e=> ?_⟩
 ·rcases h.own.2 with ⟨rfl,_⟩|⟨g,cap,cur,rfl,_,hh,_⟩
  ·simp [Value.ownBlock] at e
  ·have:g=B:=by simpa [Value.ownBlock] using e
   subst this
   have hr':w.heap[g]?=some (.cells cs T (0,0)):=hr
   rw [hr'] at hh
   injection hh with hh
   injection hh with _ hT _
   exact h1 hT
 ·subst e
  have hr':w.heap[B]?=some (.cells cs T (0,0)):=hr
  have hq:w.heap[B]?=some (.cells #[v] 98 (0,0)):=h.row
  rw [hr'] at hq
  injection hq with hq
  injection hq with _ hT _
  exact h2 hT
theorem Wri.more{w:World}{q hi hi':Nat}{v:Value}{l:List Nat}(h:Wri w q hi v l)(hh:hi≤hi'):Wri w q hi' v l:=⟨h.row,h.own,fun k hk=>⟨(h.blk k hk).1,lB (h.blk k hk).2 hh⟩,lB h.qhi hh⟩
def WroteK(w:World)(q:Nat)(l:List Nat)(e:Ending)(w':World):Prop:=zdp w q l e w'∧Keep q w w'
theorem zdr{w:World}{q hi:Nat}{v:Value}{l:List Nat}(h:Wri w q hi v l)(A:Option Addr)(x:List Nat)(c B:Nat)(hs:Sees w B A (bts x))(hB:B≤w.heap.size)(hm:l.length+x.length≤70368744177664):
  Calls Tryz.prog 101 #[.pointer (some ⟨q,0,none⟩),.slice A x.length c] w (WroteK w q (l++x)):=by
 obtain ⟨i0,hi0,hz0,hz1,hz2⟩:=info_parts infoU8
 have h0:w.cell? ⟨q,0,none⟩=some v:=h.row.cell 0
 have hs1:=hs.more hB
 have hql:=h.row.lt
 have HH:=qH h
 obtain ⟨b0,hb0,hb1,hb2,hb3⟩:∃b0,w.ownsRow b0 5 1 v l.length (bts l)∧q+1≤b0∧b0≤w.heap.size∧Hid (∀B,B<w.heap.size→(∀k,v.ownBlock=some k→B<k)→B<b0):=by
  rcases h.own with ⟨hl,⟨rfl,h1⟩|⟨g,cap,cur,rfl,h1,h2,h3⟩⟩
  ·exact ⟨w.heap.size,⟨hl,.inl ⟨rfl,h1⟩⟩,hql,la _,qH fun B hB _=>hB⟩
  ·exact ⟨g,⟨hl,.inr ⟨g,cap,cur,rfl,la _,h2,h3⟩⟩,h1,Nat.le_of_lt (Zq h2),qH fun B _ hk=>hk g rfl⟩
 have ho:=hb0
 clear hs h hb0
 go_enter Tryz.func101,Tryz.ntmps101
 go_wp2_with (at_builtin;refine zv _ rfl (.tmp 10) (.tmp 11) 22 rfl b0 5 i0 (.int .u8 0) 1 Tryz.underlying22 hi0 hz0 hz1 hz2 rfl _ _ _ rfl ho w.heap.size _ _ _ (bts x) rfl hs1 (zg _) (ye _) ?c1 ?c2 ?c3 ?_)
 case c1=>unfold maxLen;omega
 case c2=>omega
 case c3=>omega
 intro v1 W1 ho1 hg1
 have hrow:Row W1 q 98 #[v]:=(hg1.block q hql (fun e=>by have:=HH.out.blk q e.symm;omega)).trans HH.out.row
 have hmod:Mods (Zt q) w W1:=(Mods.refl _ _).grown hg1 fun k hk=> .inl (by have:=HH.out.blk k hk;unfold Zt;omega)
 rw [←yx] at ho1
 obtain ⟨A1,c1,rfl,hc1,hc2⟩:=yi ho1 (by rw [zg,lc])
 have hx0:W1.cell? ⟨q,0,none⟩=some v:=hrow.cell 0
 have hx1:=hrow.frozen 0
 have hkp:Keep q w W1:=⟨fun B T cs hr h1 h2=>(hg1.block B hr.lt (fun e=>(HH.out.apart hr h1 h2).1 e.symm)).trans hr,fun v9 hv9 B o hB hq9 hk9=>by
  have hv9':w.heap[q]?=some (.cells #[v9] 98 (0,0)):=hv9
  have hr9:w.heap[q]?=some (.cells #[v] 98 (0,0)):=HH.out.row
  rw [hv9'] at hr9
  injection hr9 with hr9
  injection hr9 with hr9 _ _
  have hr9:v9=v:=by simpa using hr9
  subst hr9
  exact ⟨(hg1.block B (Zq hB) (fun e=>by have:=hk9 B e.symm;omega)).trans hB,v9,hrow,hk9⟩⟩
 have HKP:=qH hkp
 have HO:=qH ho1
 have HR:=qH hrow
 have HM:=qH hmod
 have HG1:=qH hg1
 clear ho1 hg1 hrow hmod ho hkp
 go_wp2
 go_end0
 have hp:Mods (Is q) W1 (W1.setCell ⟨q,0,none⟩ (.slice A1 (l.length+x.length) c1)):=(Mods.refl _ _).put 0 _
 have ho2:=hp.own HO.out fun k hk hs=>by have:=jr HO.out k hk;unfold Is at hs;omega
 have hkt:∀B T cs,Row W1 B T cs→T≠5→T≠98→Row (W1.setCell ⟨q,0,none⟩ (.slice A1 (l.length+x.length) c1)) B T cs:=fun B T cs hr h1 h2=>hr.far (q:=⟨q,0,none⟩) (fun e=>by
  have e':B=q:=e
  subst e'
  have hr':W1.heap[B]?=some (.cells cs T (0,0)):=hr
  have hq:W1.heap[B]?=some (.cells #[v] 98 (0,0)):=HR.out
  rw [hr'] at hq
  injection hq with hq
  injection hq with _ hT _
  exact h2 hT) _
 have hkz:Keep q w (W1.setCell ⟨q,0,none⟩ (.slice A1 (l.length+x.length) c1)):=⟨fun B T cs hr h1 h2=>hkt B T cs (HKP.out.ty B T cs hr h1 h2) h1 h2,fun v9 hv9 B o hB hq9 hk9=>by
  have hv9':w.heap[q]?=some (.cells #[v9] 98 (0,0)):=hv9
  have hr9:w.heap[q]?=some (.cells #[v] 98 (0,0)):=HH.out.row
  rw [hv9'] at hr9
  injection hr9 with hr9
  injection hr9 with hr9 _ _
  have hr9:v9=v:=by simpa using hr9
  obtain ⟨e1,_⟩:=HKP.out.old v9 hv9 B o hB hq9 hk9
  subst hr9
  refine ⟨(hp.block B (Zq e1) (fun e=>hq9 e)).trans e1,_,HR.out.put 0 _,fun k hk=> ?_⟩
  have hlo:=(jr HO.out k hk).1
  have:=hb3.out B (Zq hB) hk9
  omega⟩
 refine ⟨⟨rfl,?_,?_⟩,hkz⟩
 ·exact ⟨.slice A1 (l.length+x.length) c1,HR.out.put 0 _,by rw [lc];exact zej ho2 hb1,fun k hk=>by have:=jr ho2 k hk;omega,(HR.out.put 0 _).lt⟩
 ·exact HM.out.then hp fun k hk=> .inl (by unfold Is at hk;unfold Zt;omega)
theorem zfA{w:World}{q hi:Nat}{v:Value}{l:List Nat}(h:Wri w q hi v l)(b:Nat)(hb:b<256)(hm:l.length+1≤70368744177664):
  Calls Tryz.prog 99 #[.pointer (some ⟨q,0,none⟩),.int .u8 b] w (WroteK w q (l++ [b])):=by
 have h1:=h.mods (S:=No) ((Mods.refl _ _).alloc (.cells #[.int .u8 b] 5)) fun _ hk=>hk.elim
 have HC:=qH (zdr h1 (some ⟨w.heap.size,0,none⟩) [b] 1 (w.heap.size+1) (fun _=>⟨w.heap.size,0,rfl,by omega,fun i u hu=>by
  rw [(Row.new w 5 #[.int .u8 b]).cell (0+i),←hu,lI]
  simp [bts]⟩) (by simp) (by simpa using hm))
 clear h h1
 go_enter Tryz.func99,Tryz.ntmps99
 go_wp2_with fail
 refine HC.out.mono ?_
 rintro e W ⟨⟨rfl,hw,hmm⟩,hk⟩
 have HW:=qH hw
 have HM:=qH hmm
 have HKP:=qH hk
 clear hw hmm hk
 go_wp2
 go_end0
 exact ⟨⟨rfl,HW.out,((Mods.refl _ _).alloc _).trans HM.out⟩,((Keep.refl (q:=q) w).alloc _).trans HKP.out⟩
theorem Y4{w:World}{q hi:Nat}{v:Value}{l:List Nat}(h:Wri w q hi v l)(x:Int)(h0:0≤x)(h1:x≤18446744073709551615)(hm:l.length+10≤70368744177664)(hhi:hi≤w.heap.size):
  Calls Tryz.prog 100 #[.pointer (some ⟨q,0,none⟩),.int .u64 x] w (WroteK w q (l++zc x.toNat)):=by
 have hl:yc x.toNat≤10:=zC _
 have HH:=qH h
 clear h
 go_enter Tryz.func100,Tryz.ntmps100
 go_wp2_with fail
 refine (zcY _ _ h0 h1).mono ?_
 rintro e W ⟨g,rfl,ho,hb⟩
 have hw:=HH.out.mods (S:=No) (Mods.of_below hb) fun _ hk=>hk.elim
 have HC:=qH (zdr hw (some ⟨g,0,none⟩) (zc x.toNat) (yc x.toNat) W.heap.size (Sees.of_own ho) (la _) (by unfold yc at hl;omega))
 have HB:=qH hb
 clear hw ho hb
 go_wp2_with fail
 refine HC.out.mono ?_
 rintro e W2 ⟨⟨rfl,hw,hmm⟩,hk⟩
 have HW:=qH hw
 have HM:=qH hmm
 have HKP:=qH hk
 clear hw hmm hk
 go_wp2
 go_end0
 exact ⟨⟨rfl,HW.out,(Mods.of_below HB.out).trans HM.out⟩,(Keep.below HB.out).trans HKP.out⟩
theorem zhH{w:World}{q hi:Nat}{v:Value}{l:List Nat}(h:Wri w q hi v l)(x:Int)(hx:InI x)(hm:l.length+10≤70368744177664)(hhi:hi≤w.heap.size):
  Calls Tryz.prog 149 #[.pointer (some ⟨q,0,none⟩),.int .i64 x] w (WroteK w q (l++zc (zz x).toNat)):=by
 have hz:=zeC hx
 have HC:=qH (Y4 h (zz x) hz.1 hz.2 hm hhi)
 clear h hz
 go_enter Tryz.func149,Tryz.ntmps149
 go_wp2_with fail
 refine (zf9 _ _ hx).mono ?_
 rintro e W ⟨rfl,rfl⟩
 go_wp2_with fail
 refine HC.out.mono ?_
 rintro e W2 ⟨⟨rfl,hw,hmm⟩,hk⟩
 have HW:=qH hw
 have HM:=qH hmm
 have HKP:=qH hk
 clear hw hmm hk
 go_wp2
 go_end0
 exact ⟨⟨rfl,HW.out,HM.out⟩,HKP.out⟩
theorem WroteK.refl{w:World}{q hi:Nat}{v:Value}{l:List Nat}(h:Wri w q hi v l)(hhi:hi≤w.heap.size):WroteK w q l (.returned (.tuple #[])) w:=⟨⟨rfl,⟨v,h.more hhi⟩,Mods.refl _ _⟩,Keep.refl _⟩
theorem Jq{w:World}{q hi:Nat}{v:Value}{l:List Nat}(h:Wri w q hi v l)(hm:l.length+10≤70368744177664)(hhi:hi≤w.heap.size)(b:Bool)(x x':Int)(hx:b=true→x'=x∧0≤x∧x≤18446744073709551615):
  Calls Tryz.prog 147 #[.bool b,.func (.func 100) #[.pointer (some ⟨q,0,none⟩)] #[],.int .u64 x'] w (WroteK w q (l++zk b x)):=by
 cases b
 ·have HZ:Hid (WroteK w q (l++zk false x) (.returned (.tuple #[])) w):=by
   show WroteK _ _ _ _ _
   rw [show zk false x= [] from rfl,lA]
   exact WroteK.refl h hhi
  clear h hx
  go_enter Tryz.func147,Tryz.ntmps147
  go_wp2
  go_end0
  exact HZ.out
 ·obtain ⟨rfl,h0,h1⟩:=hx rfl
  have HC:=qH (Y4 h x' h0 h1 hm hhi)
  rw [show zk true x'=zc x'.toNat from rfl]
  clear h
  go_enter Tryz.func147,Tryz.ntmps147
  go_wp2_with fail
  refine HC.out.mono ?_
  rintro e W ⟨⟨rfl,hw,hmm⟩,hk⟩
  have HZ:Hid (WroteK w q (l++zc x'.toNat) (.returned (.tuple #[])) W):=⟨⟨rfl,hw,hmm⟩,hk⟩
  clear hw hmm hk HC
  go_wp2
  go_end0
  exact HZ.out
theorem zfB{w:World}{q hi:Nat}{v:Value}{l:List Nat}(h:Wri w q hi v l)(hm:l.length+10≤70368744177664)(hhi:hi≤w.heap.size)(b:Bool)(x:Int)(hx:InI x):
  Calls Tryz.prog 148 #[.bool b,.func (.func 149) #[.pointer (some ⟨q,0,none⟩)] #[],.int .i64 x] w (WroteK w q (l++zk b (zz x))):=by
 cases b
 ·have HZ:Hid (WroteK w q (l++zk false (zz x)) (.returned (.tuple #[])) w):=by
   show WroteK _ _ _ _ _
   rw [show zk false (zz x)= [] from rfl,lA]
   exact WroteK.refl h hhi
  clear h hx
  go_enter Tryz.func148,Tryz.ntmps148
  go_wp2
  go_end0
  exact HZ.out
 ·have HC:=qH (zhH h x hx hm hhi)
  rw [show zk true (zz x)=zc (zz x).toNat from rfl]
  clear h
  go_enter Tryz.func148,Tryz.ntmps148
  go_wp2_with fail
  refine HC.out.mono ?_
  rintro e W ⟨⟨rfl,hw,hmm⟩,hk⟩
  have HZ:Hid (WroteK w q (l++zc (zz x).toNat) (.returned (.tuple #[])) W):=⟨⟨rfl,hw,hmm⟩,hk⟩
  clear hw hmm hk HC
  go_wp2
  go_end0
  exact HZ.out
end Go.Proofs.YtnifhpbgmjcndaaGreat
