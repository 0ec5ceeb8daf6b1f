import Derived.Test.YtnifhpbgmjcndaaGreatPk21
set_option linter.unusedVariables false
set_option linter.unusedSimpArgs false
set_option linter.unusedSectionVars false
set_option maxRecDepth 100000
set_option maxHeartbeats 16000000
namespace Go.Proofs.YtnifhpbgmjcndaaGreat
open Go.RowKit
theorem zfL:(Tryz.prog.info? 55).map (fun i=>(i.zero,i.size,i.bytes))=some (some (.agg #[.int .i64 0,.int .i64 0]),2,16):=by kernel_rfl
theorem zfM(p1 p2:Int):∀u∈([.int .i64 p1,.int .i64 p2]:List Value),u.oneCell'=true:=by
 intro u hu
 simp only [List.mem_cons,List.not_mem_nil,or_false] at hu
 rcases hu with rfl|rfl<;>rfl
theorem zcD(l:List Pr)(p:Pr):prs (l++ [p])=prs l++ [.int .i64 p.1,.int .i64 p.2]:=by simp [prs]
structure GWS(w:World)(B:Nat)(A:Option Addr)(c:Nat)(s:Ip)(v:Value)(xs:List (List Pr))(W:World):Prop where
 blw:Below w.heap.size w W
 inb:Row W w.heap.size 88 #[.slice A s.rest.length c,.int .i64 s.err]
 z3:Row W (w.heap.size+1) 88 #[.slice none 0 0,.int .i64 0]
 ip:IpV W B A c s
 nst:∃vs,NestV Jn W (w.heap.size+1+1) v vs xs
structure GWI(w Wq:World)(B:Nat)(A:Option Addr)(c:Nat)(s:Ip)(v:Value)(xs:List (List Pr))(q1 q2:Int)(u:Value)(l:List Pr)(W:World):Prop where
 q:∃A0 c0 s0,GWS w B A0 c0 s0 v xs Wq
 md:Mods (Is w.heap.size) Wq W
 inb:Row W w.heap.size 88 #[.slice A s.rest.length c,.int .i64 s.err]
 ip:IpV W B A c s
 qb:Row W Wq.heap.size 55 #[.int .i64 q1,.int .i64 q2]
 own:W.ownsRow (Wq.heap.size+1) 55 2 u l.length (prs l)
section
variable {w Wq : World} {B : Nat} {A A' : Option Addr} {c c' : Nat} {s s' : Ip} {v v' u u' : Value} {xs : List (List Pr)} {q1 q2 : Int} {l : List Pr} {W W' : World}
theorem GWS.lo(h:GWS w B A c s v xs W):w.heap.size+1<W.heap.size:=h.z3.lt
theorem GWS.start(h:IpV w B A c s)(hB:B≤w.heap.size):
  GWS w B A c s (.slice none 0 0) [] ((w.alloc (.cells #[.slice A s.rest.length c,.int .i64 s.err] 88)).alloc (.cells #[.slice none 0 0,.int .i64 0] 88)):=by
 have hb:=((ld w.heap.size w).alloc (la _) (.cells #[.slice A s.rest.length c,.int .i64 s.err] 88)).alloc (by simp) (.cells #[.slice none 0 0,.int .i64 0] 88)
 exact ⟨hb,(Row.new w _ _).alloc _,Row.new' (by simp) _ _,h.below (hb.mono hB),⟨[],NestV.nil _ _⟩⟩
theorem GWS.next(h:GWS w B A c s v xs W)(hb:Below W.heap.size W W')(hB:B≤w.heap.size):GWS w B A c s v xs W':=
 ⟨h.blw.trans (hb.mono h.blw.size),h.inb.below hb h.inb.lt,h.z3.below hb h.z3.lt,h.ip.below (hb.mono (lf hB h.blw.size)),let ⟨vs,hn⟩:=h.nst;⟨vs,hn.below hb⟩⟩
theorem GWS.inpt(h:GWS w B A c s v xs W)(hI:IpV W B A' c' s')(hB:B≤w.heap.size):GWS w B A' c' s' v xs ((W.setCell ⟨w.heap.size,0,none⟩ (.slice A' s'.rest.length c')).setCell ⟨w.heap.size,1,none⟩ (.int .i64 s'.err)):=by
 have hb:Below w.heap.size W ((W.setCell ⟨w.heap.size,0,none⟩ (.slice A' s'.rest.length c')).setCell ⟨w.heap.size,1,none⟩ (.int .i64 s'.err)):=((ld _ W).setCell (p:=⟨w.heap.size,0,none⟩) (la _) _).setCell (p:=⟨w.heap.size,1,none⟩) (la _) _
 have hm:Mods (Is w.heap.size) W ((W.setCell ⟨w.heap.size,0,none⟩ (.slice A' s'.rest.length c')).setCell ⟨w.heap.size,1,none⟩ (.int .i64 s'.err)):=((Mods.refl _ W).put 0 _).put 1 _
 exact ⟨h.blw.trans hb,(h.inb.put 0 _).put 1 _,h.z3.mods hm (fun e=>by unfold Is at e;omega),hI.below (hb.mono hB),let ⟨vs,hn⟩:=h.nst;⟨vs,hn.mods hm fun k h1 _ h2=>by unfold Is at h2;omega⟩⟩
theorem GWS.fin(h:GWS w B A c s v xs W)(hB:B≤w.heap.size):
  Row ((W.setCell ⟨w.heap.size+1,0,none⟩ (.slice A s.rest.length c)).setCell ⟨w.heap.size+1,1,none⟩ (.int .i64 s.err)).drew (w.heap.size+1) 88 #[.slice A s.rest.length c,.int .i64 s.err]∧
  Below w.heap.size w ((W.setCell ⟨w.heap.size+1,0,none⟩ (.slice A s.rest.length c)).setCell ⟨w.heap.size+1,1,none⟩ (.int .i64 s.err)).drew∧
  IpV ((W.setCell ⟨w.heap.size+1,0,none⟩ (.slice A s.rest.length c)).setCell ⟨w.heap.size+1,1,none⟩ (.int .i64 s.err)).drew B A c s∧
  ∃vs,NestV Jn ((W.setCell ⟨w.heap.size+1,0,none⟩ (.slice A s.rest.length c)).setCell ⟨w.heap.size+1,1,none⟩ (.int .i64 s.err)).drew (w.heap.size+1+1) v vs xs:=by
 have hm:Mods (Is (w.heap.size+1)) W ((W.setCell ⟨w.heap.size+1,0,none⟩ (.slice A s.rest.length c)).setCell ⟨w.heap.size+1,1,none⟩ (.int .i64 s.err)).drew:=(((Mods.refl _ W).put 0 _).put 1 _).drew
 have hb:Below w.heap.size W ((W.setCell ⟨w.heap.size+1,0,none⟩ (.slice A s.rest.length c)).setCell ⟨w.heap.size+1,1,none⟩ (.int .i64 s.err)).drew:=hm.below h.blw.size fun k hk=>by unfold Is at hk;omega
 obtain ⟨vs,hn⟩:=h.nst
 exact ⟨((h.z3.put 0 _).put 1 _).drew,h.blw.trans hb,h.ip.below (hb.mono hB),vs,hn.mods hm fun k h1 _ h2=>by unfold Is at h2;omega⟩
theorem GWI.lo(h:GWI w Wq B A c s v xs q1 q2 u l W):w.heap.size+1<Wq.heap.size∧Wq.heap.size<W.heap.size:=let ⟨_,_,_,hq⟩:=h.q;⟨hq.lo,h.qb.lt⟩
theorem GWI.blw(h:GWI w Wq B A c s v xs q1 q2 u l W):Below w.heap.size w W:=by
 obtain ⟨_,_,_,hq⟩:=h.q
 exact hq.blw.trans (h.md.below hq.blw.size fun k hk=>by unfold Is at hk;omega)
theorem GWI.next(h:GWI w Wq B A c s v xs q1 q2 u l W)(hb:Below W.heap.size W W')(hB:B≤w.heap.size):GWI w Wq B A c s v xs q1 q2 u l W':=
 ⟨h.q,h.md.trans (Mods.of_below hb),h.inb.below hb h.inb.lt,h.ip.below (hb.mono (lf hB h.blw.size)),h.qb.below hb h.qb.lt,(Mods.of_below (S:=No) hb).ownS h.own fun _ _ hs=>hs.elim⟩
theorem GWI.step(h:GWI w Wq B A c s v xs q1 q2 u l W)(hI:IpV W B A' c' s')(hB:B≤w.heap.size)(p1 p2:Int):
  GWI w Wq B A' c' s' v xs p1 p2 u l ((((W.setCell ⟨Wq.heap.size,0,none⟩ (.int .i64 p1)).setCell ⟨Wq.heap.size,1,none⟩ (.int .i64 p2)).setCell ⟨w.heap.size,0,none⟩ (.slice A' s'.rest.length c')).setCell ⟨w.heap.size,1,none⟩ (.int .i64 s'.err)):=by
 have hl:=h.lo
 have h1:Mods (Is Wq.heap.size) W ((W.setCell ⟨Wq.heap.size,0,none⟩ (.int .i64 p1)).setCell ⟨Wq.heap.size,1,none⟩ (.int .i64 p2)):=((Mods.refl _ W).put 0 _).put 1 _
 have r1:Row ((W.setCell ⟨Wq.heap.size,0,none⟩ (.int .i64 p1)).setCell ⟨Wq.heap.size,1,none⟩ (.int .i64 p2)) Wq.heap.size 55 #[.int .i64 p1,.int .i64 p2]:=(h.qb.put 0 _).put 1 _
 have hi:=h.inb.mods h1 fun e=>by unfold Is at e;omega
 have hI1:=hI.below (w':=((W.setCell ⟨Wq.heap.size,0,none⟩ (.int .i64 p1)).setCell ⟨Wq.heap.size,1,none⟩ (.int .i64 p2))) (h1.below (by omega) fun k hk=>by unfold Is at hk;omega)
 have ho1:=h1.ownS h.own fun k hk e=>by have:=zW h.own k hk;unfold Is at e;omega
 have hs1:=h1.size
 generalize ((W.setCell ⟨Wq.heap.size,0,none⟩ (.int .i64 p1)).setCell ⟨Wq.heap.size,1,none⟩ (.int .i64 p2))=V at*
 have h2:Mods (Is w.heap.size) V ((V.setCell ⟨w.heap.size,0,none⟩ (.slice A' s'.rest.length c')).setCell ⟨w.heap.size,1,none⟩ (.int .i64 s'.err)):=((Mods.refl _ V).put 0 _).put 1 _
 exact ⟨h.q,(h.md.then h1 fun k hk=> .inr (by unfold Is at hk;omega)).trans h2,(hi.put 0 _).put 1 _,hI1.below (h2.below (by omega) fun k hk=>by unfold Is at hk;omega),r1.mods h2 (fun e=>by unfold Is at e;omega),h2.ownS ho1 fun k hk e=>by have:=zW ho1 k hk;unfold Is at e;omega⟩
theorem GWI.app(h:GWI w Wq B A c s v xs q1 q2 u l W)(hB:B≤w.heap.size){o:Obj}(ho:W'.ownsRow (Wq.heap.size+1) 55 2 u' (l.length+1) (prs l++ [.int .i64 q1,.int .i64 q2]))(hg:(W.alloc o).grownBy W' u.ownBlock):
  GWI w Wq B A c s v xs q1 q2 u' (l++ [(q1,q2)]) W':=by
 have hl:=h.lo
 have hm:Mods (fun k=>u.ownBlock=some k) W W':=((Mods.refl _ W).alloc o).grown hg fun k hk=> .inl hk
 have hk:∀k,u.ownBlock=some k→Wq.heap.size+1≤k:=fun k hk=>(zW h.own k hk).1
 have hBel:Below w.heap.size W W':=hm.below (by omega) fun k hh=>by have:=hk k hh;omega
 exact ⟨h.q,h.md.then hm fun k hh=> .inr (by have:=hk k hh;omega),h.inb.mods hm (fun e=>by have:=hk _ e;omega),h.ip.below (hBel.mono hB),h.qb.mods hm (fun e=>by have:=hk _ e;omega),by rw [lc,zcD];exact ho⟩
theorem GWI.fin(h:GWI w Wq B A c s v xs q1 q2 u l W)(hB:B≤w.heap.size){vs:List Value}(hn:NestV Jn Wq (w.heap.size+1+1) v vs xs){o:Obj}
  (ho:W'.ownsRow (w.heap.size+1+1) 52 1 v' (vs.length+1) (((vs.zip xs).flatMap fun p=>Jn.oc p.1 p.2)++Jn.oc u l)) (hg:(W.alloc o).grownBy W' v.ownBlock):GWS w B A c s v' (xs++ [l]) W':=by
 have hl:=h.lo
 have hsn:=hn.snoc (x:=l) h.md (fun k hk=>by unfold Is at hk;omega) (by omega) (jo h.own (by omega)) o ho hg
 obtain ⟨_,_,_,hq⟩:=h.q
 have hon:=(hn.mods h.md fun k h1 _ h2=>by unfold Is at h2;omega).outer
 have hb:Below (w.heap.size+1+1) W W':=((ld _ W).alloc (by omega) o).grown hg (by rw [World.size_alloc];omega) fun k hk=>(zW hon k hk).1
 have hz:=(hq.z3.mods h.md (fun e=>by unfold Is at e;omega)).below hb (by omega)
 exact ⟨h.blw.trans (hb.mono (by omega)),h.inb.below hb (by omega),hz,h.ip.below (hb.mono (by omega)),⟨_,hsn⟩⟩
end
def RGW(w:World)(B:Nat)(xs:List (List Pr))(t:Ip)(e:Ending)(w':World):Prop:=
 ∃v vs A' c',e= .returned (.tuple #[v,.agg #[.slice A' t.rest.length c',.int .i64 t.err]])∧NestV Jn w' w.heap.size v vs xs∧IpV w' B A' c' t∧Below w.heap.size w w'
theorem QD{vr r n:Int}{f:Bool}{q:Pr}{s:Ip}(hq:Z1 vr f q)(hb:Byt s.rest)(hr:r≤1000000000)(hn:n≤1000000000)(h:(zw vr r n f q s).2.err=0):
  Z1 vr false (zw vr r n f q s).1∧(zw vr r n f q s).1.2≤4000000000:=by
 obtain ⟨_,h2,h3,_⟩:=zaS hq hb h
 refine ⟨h3,?_⟩
 have hl:yd (zw vr r n f q s).1.2 r n=true:=by
  cases h9:yd (zw vr r n f q s).1.2 r n
  ·unfold prE at h2
   rw [h9] at h2
   split at h2
   ·cases h2
   ·rw [if_pos rfl] at h2
    cases h2
  ·rfl
 have:=QX hr hn hl
 omega
theorem zds{vr r n tot:Int}{s:Ip}(h:(ivE vr r n tot s).2.err=0):tot+(icE tot s).1≤1048576:=by
 by_cases h0:(icE tot s).2.err=0
 ·unfold icE at h0⊢
  dsimp only at h0⊢
  by_cases hh:1048576<tot+(yu 2 s).1
  ·rw [if_pos hh] at h0
   exact absurd h0 (yh (by decide))
  ·omega
 ·unfold ivE at h
  rw [jn h0] at h
  exact absurd h h0
theorem zcE{w:World}{B:Nat}{A:Option Addr}{c:Nat}{s:Ip}(h:IpV w B A c s)(hB:B≤w.heap.size){m vr r n:Int}(hm:0≤m∧m≤1000000)(hvr:0≤vr∧vr≤1000000000)(hr:r≤1000000000)(hn:n≤1000000000):
  Calls Tryz.prog 39 #[.agg #[.slice A s.rest.length c,.int .i64 s.err],.int .i64 m,.int .i64 vr,.int .i64 r,.int .i64 n] w (RGW w B (yA vr r n m.toNat s).1 (yA vr r n m.toNat s).2):=by
 obtain ⟨i0,hi0,hz0,hz1,hz2⟩:=info_parts zfL
 obtain ⟨i1,hi1,hy0,hy1,hy2⟩:=info_parts zcg
 obtain ⟨FB,hFB⟩:∃y,yU vr r n m.toNat 0 s=y:=⟨_,rfl⟩
 have EB:Hid (yU vr r n m.toNat 0 s=FB):=hFB
 obtain ⟨FE,hFE⟩:∃y,y=yA vr r n m.toNat s:=⟨_,rfl⟩
 have EF:Hid (FE=if FB.2.err≠0 then ([],FB.2) else FB):=by show _=_;rw [hFE];unfold yA;rw [hFB]
 rw [←hFE]
 clear hFB hFE
 have HBB:=qH hB
 have HF0:=qH (GWS.start h hB)
 clear h hB
 go_enter Tryz.func39,Tryz.ntmps39
 go_upto_region 1 with fail
 generalize ((w.alloc (.cells #[.slice A s.rest.length c,.int .i64 s.err] 88)).alloc (.cells #[.slice none 0 0,.int .i64 0] 88))=W0 at*
 go_wp2
 go_loopg [12,13,14] m.toNat (fun g v12 v13 v14 wr=>∃(i:Nat) (tot:Int) (A:Option Addr) (c:Nat) (t:Ip) (xs:List (List Pr)),i+g=m.toNat∧v13= .int .i64 tot∧v14= .int .i64 i∧0≤tot∧Hid (t.err=0→tot≤1048576)∧Hid (xs.length=i)∧Hid (FB=(xs++(yU vr r n g tot t).1,(yU vr r n g tot t).2))∧Hid (GWS w B A c t v12 xs wr))
 case atStart=>exact ⟨0,0,A,c,s, [],by omega,rfl,rfl,Int.le_refl _,(fun _=>by decide),rfl,EB.out.symm,HF0.out⟩
 case round=>
  clear HF0 EB
  obtain ⟨i,tot,A,c,t,xs,hig,rfl,rfl,ht0,ht1,hbl,HE,HF⟩:=hrel
  cases gk with
  |zero=>
   have hin:¬(i:Int)<m:=by omega
   have HEE:Hid (FB=(xs,t)):=by show _=_;rw [HE.out];show (xs++ [],t)=_;rw [lA]
   by_cases he:t.err≠0
   ·have p0:=HF.out.inb.cell 0;have p1:=HF.out.inb.cell 1
    simp only [ln,lk,lm] at p0 p1
    have q0:=HF.out.z3.k0;have q1:=HF.out.z3.k1
    have qf0:=HF.out.z3.frozen 0;have qf1:=HF.out.z3.frozen 1
    have d0:(t.err !=0)=true:=by simp [he]
    have d1:(t.err==0)=false:=by simp [he]
    have HFE:Hid (FE=([],t)):=by show _=_;rw [EF.out,HEE.out];exact if_pos he
    clear he
    go_wp2_with fail
    go_region
    go_wp2
    (try simp only [Exit.inBlock,Exit.then])
    obtain ⟨f1,f2,f3,f4⟩:=HF.out.fin HBB.out
    refine bodyPost_ret (v:= .tuple #[.slice none 0 0,.agg #[.slice A t.rest.length c,.int .i64 t.err]]) ?_ rfl ⟨.slice none 0 0, [],A,c,by rw [HFE.out],by rw [HFE.out];exact NestV.nil _ _,by rw [HFE.out];exact f3,f2⟩
    exact zl rfl _ _ (w.heap.size+1) 88 #[.slice A t.rest.length c,.int .i64 t.err] (0,0) _ rfl rfl f1 Tryz.underlying88 rfl (by kernel_rfl)
   ·have he:t.err=0:=by omega
    obtain ⟨vs0,hn0⟩:=HF.out.nst
    obtain ⟨Av,cv,rfl,_,_⟩:=zh hn0.outer
    clear hn0
    have p0:=HF.out.inb.k0;have p1:=HF.out.inb.k1
    have q0:=HF.out.z3.k0;have q1:=HF.out.z3.k1
    have qf0:=HF.out.z3.frozen 0;have qf1:=HF.out.z3.frozen 1
    have d0:(t.err !=0)=false:=by simp [he]
    have HFE:Hid (FE=(xs,t)):=by show _=_;rw [EF.out,HEE.out];exact if_neg fun hh=>hh he
    clear he
    go_wp2_with fail
    go_region
    go_wp2
    (try simp only [Exit.inBlock,Exit.then])
    obtain ⟨f1,f2,f3,vs,f4⟩:=HF.out.fin HBB.out
    refine bodyPost_ret (v:= .tuple #[.slice Av vs0.length cv,.agg #[.slice A t.rest.length c,.int .i64 t.err]]) ?_ rfl ⟨.slice Av vs0.length cv,vs,A,c,by rw [HFE.out],by rw [HFE.out];exact f4.rebase (by omega),by rw [HFE.out];exact f3,f2⟩
    exact zl rfl _ _ (w.heap.size+1) 88 #[.slice A t.rest.length c,.int .i64 t.err] (0,0) _ rfl rfl f1 Tryz.underlying88 rfl (by kernel_rfl)
  |succ g=>
   have hin:(i:Int)<m:=by omega
   by_cases he:t.err≠0
   ·have HEE:Hid (FB=(xs,t)):=by show _=_;rw [HE.out,JJ he];show (xs++ [],t)=_;rw [lA]
    have p0:=HF.out.inb.k0;have p1:=HF.out.inb.k1
    have q0:=HF.out.z3.k0;have q1:=HF.out.z3.k1
    have qf0:=HF.out.z3.frozen 0;have qf1:=HF.out.z3.frozen 1
    have d0:(t.err !=0)=true:=by simp [he]
    have d1:(t.err==0)=false:=by simp [he]
    have HFE:Hid (FE=([],t)):=by show _=_;rw [EF.out,HEE.out];exact if_pos he
    clear he
    go_wp2_with fail
    go_region
    go_wp2
    (try simp only [Exit.inBlock,Exit.then])
    obtain ⟨f1,f2,f3,f4⟩:=HF.out.fin HBB.out
    refine bodyPost_ret (v:= .tuple #[.slice none 0 0,.agg #[.slice A t.rest.length c,.int .i64 t.err]]) ?_ rfl ⟨.slice none 0 0, [],A,c,by rw [HFE.out],by rw [HFE.out];exact NestV.nil _ _,by rw [HFE.out];exact f3,f2⟩
    exact zl rfl _ _ (w.heap.size+1) 88 #[.slice A t.rest.length c,.int .i64 t.err] (0,0) _ rfl rfl f1 Tryz.underlying88 rfl (by kernel_rfl)
   ·have he:t.err=0:=by omega
    have HEZ:=qH he
    have d0:(t.err==0)=true:=by simp [he]
    have ht2:=ht1.out he
    obtain ⟨⟨k,tk⟩,hK⟩:∃y,yu 2 t=y:=⟨_,rfl⟩
    have rk:0≤k∧k≤1048576:=by have:=jm (k:=2) (s:=t);rw [hK] at this;exact this
    obtain ⟨t3,hT3⟩:∃y,(if 1048576<tot+k then zA 6 tk else tk)=y:=⟨_,rfl⟩
    have EK:Hid (icE tot t=(k,t3)):=by show _=_;unfold icE;rw [hK];dsimp only;rw [hT3]
    have ET3:=qH hT3
    have C:=qH (Yf 2 ⟨by decide,by decide⟩ HF.out.ip (lf HBB.out HF.out.blw.size))
    rw [hK] at C
    clear he hK hT3
    have p0:=HF.out.inb.k0;have p1:=HF.out.inb.k1
    go_wp2_with fail
    refine C.out.mono ?_
    rintro e W2 ⟨A2,c2,rfl,hI,hb⟩
    have HG1:=qH (HF.out.next hb HBB.out)
    have HI1:=qH hI
    clear hb hI C p0 p1 HF
    have p0:=HG1.out.inb.k0;have p1:=HG1.out.inb.k1
    have pf0:=HG1.out.inb.frozen 0;have pf1:=HG1.out.inb.frozen 1
    go_upto_region 8 with fail
    have HG2:=qH (HG1.out.inpt HI1.out HBB.out)
    clear p0 p1 pf0 pf1 HG1 HI1
    generalize ((W2.setCell ⟨w.heap.size,0,none⟩ (.slice A2 tk.rest.length c2)).setCell ⟨w.heap.size,1,none⟩ (.int .i64 tk.err))=W3 at*
    have p0:=HG2.out.inb.k0;have p1:=HG2.out.inb.k1
    have pf0:=HG2.out.inb.frozen 0;have pf1:=HG2.out.inb.frozen 1
    go_upto_if 38 with fail
    go_cut [] from 19 to 69 (fun wx=>∃W9 A c,W9=wx∧Hid (GWS w B A c t3 u12 xs W9))
    case first=>
     by_cases hc:1048576<tot+k
     ·have hcE:Hid (zA 6 tk=t3):=by show _=_;rw [←ET3.out,if_pos hc]
      have C:=qH (jb 6 HG2.out.ip (lf HBB.out HG2.out.blw.size))
      rw [hcE.out] at C
      go_wp2_with fail
      refine C.out.mono ?_
      rintro e W4 ⟨A3,c3,rfl,hI,hb⟩
      have HF3:=qH (HG2.out.next hb HBB.out)
      have HI3:=qH hI
      clear hb hI C p0 p1 pf0 pf1 HG2
      have p0:=HF3.out.inb.k0;have p1:=HF3.out.inb.k1
      have pf0:=HF3.out.inb.frozen 0;have pf1:=HF3.out.inb.frozen 1
      go_wp2_with fail
      go_meet
      case rel=>exact ⟨_,A3,c3,rfl,HF3.out.inpt HI3.out HBB.out⟩
     ·have hcE:Hid (tk=t3):=by show _=_;rw [←ET3.out,if_neg hc]
      go_wp2_with fail
      go_meet
      case rel=>exact ⟨_,A2,c2,rfl,by rw [←hcE.out];exact HG2.out⟩
    case rest=>
     obtain ⟨Wq,A4,c4,hWq,HF4⟩:=hcut
     subst hWq
     clear HG2 p0 p1 pf0 pf1
     go_upto_region 13 with fail
     have hbx:=(ld Wq.heap.size Wq).alloc (la _) (.cells #[.int .i64 0,.int .i64 0] 55)
     have HG0:Hid (GWI w Wq B A4 c4 t3 u12 xs 0 0 (.slice none 0 0) [] (Wq.alloc (.cells #[.int .i64 0,.int .i64 0] 55))):=
      ⟨⟨A4,c4,t3,HF4.out⟩,(Mods.refl _ _).alloc _,HF4.out.inb.alloc _,HF4.out.ip.below (hbx.mono (lf HBB.out HF4.out.blw.size)),Row.new _ _ _,⟨by simp [prs],.inl ⟨rfl,rfl⟩⟩⟩
     clear hbx HF4
     generalize (Wq.alloc (.cells #[.int .i64 0,.int .i64 0] 55))=Wb at*
     go_wp2
     go_loopg [16,18] k.toNat (fun g2 v16 v18 wx=>∃(j:Nat) (A:Option Addr) (c:Nat) (t2:Ip) (q1 q2:Int) (l:List Pr),j+g2=k.toNat∧v18= .int .i64 j∧Hid (l.length=j)∧Hid (t2.err=0→Z1 vr ((j:Int)==0) (q1,q2)∧q2≤4000000000)∧Hid (ivE vr r n tot t=(l++(jj vr r n g2 ((j:Int)==0) (q1,q2) t2).1,(jj vr r n g2 ((j:Int)==0) (q1,q2) t2).2))∧Hid (GWI w Wq B A c t2 u12 xs q1 q2 v16 l wx))
     case atStart=>exact ⟨0,A4,c4,t3,0,0, [],by omega,rfl,rfl,(fun _=>⟨.inl ⟨rfl,rfl⟩,by decide⟩),(by show ivE vr r n tot t=_;unfold ivE;rw [EK.out];rfl),HG0.out⟩
     case round=>
      clear HG0
      obtain ⟨j,A,c,t2,q1,q2,l,hjg,rfl,hxl2,HP,HI,HG⟩:=hrel
      cases gk with
      |zero=>
       have hjn:¬(j:Int)<k:=by omega
       replace HI:Hid (ivE vr r n tot t=(l,t2)):=by show _=_;rw [HI.out];show (l++ [],t2)=_;rw [lA]
       obtain ⟨A0,c0,s0,hq⟩:=HG.out.q
       obtain ⟨vs,hn⟩:=hq.nst
       have hlo:=HG.out.lo
       have HN:=qH hn
       have hvl:=qH hn.len
       have hon:=(hn.mods HG.out.md fun k h1 _ h2=>by unfold Is at h2;omega).outer
       obtain ⟨Av,cv,rfl,_,_⟩:=zh hon
       obtain ⟨Ac,cc,rfl,_,_⟩:=zh HG.out.own
       have hown:(wr.alloc (.cells #[.slice Ac l.length cc] 52)).ownsRow (w.heap.size+1+1) 52 1 (.slice Av vs.length cv) vs.length ((vs.zip xs).flatMap fun p=>Jn.oc p.1 p.2):=((Mods.refl No wr).alloc _).ownS hon fun _ _ hk=>hk.elim
       have hnew:=yI wr #[.slice Ac l.length cc] 52
       clear hq hn hon
       have p0:=HG.out.inb.k0;have p1:=HG.out.inb.k1
       go_wp2_with (at_builtin;refine zB _ rfl (.tmp 66) (.tmp 68) 29 rfl (w.heap.size+1+1) 52 i1 (.slice none 0 0) 1 24 Tryz.underlying29 hi1 hy0 hy1 hy2 rfl (by decide) _ _ _ rfl hown (wr.heap.size+1) _ 1 1 _ rfl hnew rfl (Q3 l Ac l.length cc) ?c1 ?c2 ?c3 ?_)
       case c1=>have:=hvl.out;have:=hbl.out;unfold maxLen;omega
       case c2=>have:=hvl.out;have:=hbl.out;omega
       case c3=>(try rw [World.size_alloc]);omega
       intro v5 W5 ho hg _
       have HF7:=qH (HG.out.fin HBB.out HN.out ho hg)
       have ht7:Hid (t2.err=0→tot+k≤1048576):=fun h9=>by
        have:=zds (vr:=vr) (r:=r) (n:=n) (tot:=tot) (s:=t) (by rw [HI.out];exact h9)
        rw [EK.out] at this
        exact this
       clear p0 p1 hown hnew ho hg HG HN
       have HE7:Hid (FB=((xs++ [l])++(yU vr r n g (tot+k) t2).1,(yU vr r n g (tot+k) t2).2)):=by
        show _=_
        rw [HE.out]
        have e9:yU vr r n (g+1) tot t=((ivE vr r n tot t).1::(yU vr r n g (tot+(icE tot t).1) (ivE vr r n tot t).2).1,(yU vr r n g (tot+(icE tot t).1) (ivE vr r n tot t).2).2):=if_neg fun hh=>hh HEZ.out
        rw [e9,HI.out,EK.out]
        simp only [lg,List.singleton_append]
       go_wp2
       go_roundg g
       case measure=>omega
       case rel=>exact ⟨i+1,tot+k,A,c,t2,xs++ [l],by omega,by go_num,by go_num,by omega,ht7,by show _=_;rw [lc,hbl.out];rfl,HE7.out,HF7.out⟩
      |succ g2=>
       have hjn:(j:Int)<k:=by omega
       by_cases he2:t2.err=0
       ·have HE2Z:=qH he2
        have d2:(t2.err==0)=true:=by simp [he2]
        clear he2
        obtain ⟨⟨⟨x1,x2⟩,tm⟩,hM⟩:∃y,zw vr r n ((j:Int)==0) (q1,q2) t2=y:=⟨_,rfl⟩
        have EM:=qH hM
        clear hM
        have C:=qH (zaV (f:=((j:Int)==0)) (q:=(q1,q2)) HG.out.ip (lf HBB.out HG.out.blw.size) hvr hr hn (HP.out HE2Z.out).1 (HP.out HE2Z.out).2)
        rw [EM.out] at C
        have HP':Hid (tm.err=0→Z1 vr (((j+1:Nat):Int)==0) (x1,x2)∧x2≤4000000000):=fun h9=>by
         have:=QD (vr:=vr) (r:=r) (n:=n) (f:=((j:Int)==0)) (q:=(q1,q2)) (s:=t2) (HP.out HE2Z.out).1 HG.out.ip.byt hr hn (by rw [EM.out];exact h9)
         rw [EM.out] at this
         rw [show ((((j+1:Nat):Int))==0)=false by simp;omega]
         exact this
        have p0:=HG.out.inb.k0;have p1:=HG.out.inb.k1
        have y0:=HG.out.qb.k0;have y1:=HG.out.qb.k1
        go_wp2_with fail
        refine C.out.mono ?_
        rintro e W2 ⟨A2,c2,rfl,hI,hb⟩
        have HG2:=qH (HG.out.next hb HBB.out)
        have HI2:=qH hI
        clear hb hI C HG p0 p1 y0 y1 HP
        have p0:=HG2.out.inb.k0;have p1:=HG2.out.inb.k1
        have pf0:=HG2.out.inb.frozen 0;have pf1:=HG2.out.inb.frozen 1
        have y0:=HG2.out.qb.k0;have y1:=HG2.out.qb.k1
        have yf0:=HG2.out.qb.frozen 0;have yf1:=HG2.out.qb.frozen 1
        have hq1:¬Wq.heap.size=w.heap.size:=by have:=HG2.out.lo;omega
        have hq2:¬w.heap.size=Wq.heap.size:=by omega
        go_upto_region 17 with fail
        have HG3:=qH (HG2.out.step HI2.out HBB.out x1 x2)
        clear p0 p1 pf0 pf1 y0 y1 yf0 yf1 HG2 HI2
        generalize ((((W2.setCell ⟨Wq.heap.size,0,none⟩ (.int .i64 x1)).setCell ⟨Wq.heap.size,1,none⟩ (.int .i64 x2)).setCell ⟨w.heap.size,0,none⟩ (.slice A2 tm.rest.length c2)).setCell ⟨w.heap.size,1,none⟩ (.int .i64 tm.err))=V3 at*
        obtain ⟨Ac,cc,rfl,_,_⟩:=zh HG3.out.own
        have hown:(V3.alloc (.cells #[.int .i64 x1,.int .i64 x2] 55)).ownsRow (Wq.heap.size+1) 55 2 (.slice Ac l.length cc) l.length (prs l):=((Mods.refl No V3).alloc _).ownS HG3.out.own fun _ _ hk=>hk.elim
        have hnew:=yI V3 #[.int .i64 x1,.int .i64 x2] 55
        have hlo:=HG3.out.lo
        have p0:=HG3.out.inb.k0;have p1:=HG3.out.inb.k1
        have y0:=HG3.out.qb.k0;have y1:=HG3.out.qb.k1
        go_wp2_with (at_builtin;refine zB _ rfl (.tmp 62) (.tmp 64) 52 rfl (Wq.heap.size+1) 55 i0 (.agg #[.int .i64 0,.int .i64 0]) 2 16 Tryz.underlying52 hi0 hz0 hz1 hz2 rfl (by decide) _ _ _ rfl hown (V3.heap.size+1) _ 1 1 _ rfl hnew rfl (zfM x1 x2) ?c1 ?c2 ?c3 ?_)
        case c1=>have:=hxl2.out;unfold maxLen;omega
        case c2=>have:=hxl2.out;omega
        case c3=>(try rw [World.size_alloc]);omega
        intro v5 W5 ho hg _
        have HG7:=qH (HG3.out.app HBB.out ho hg)
        clear p0 p1 y0 y1 hown hnew ho hg HG3
        have HI7:Hid (ivE vr r n tot t=((l++ [(x1,x2)])++(jj vr r n g2 (((j+1:Nat):Int)==0) (x1,x2) tm).1,(jj vr r n g2 (((j+1:Nat):Int)==0) (x1,x2) tm).2)):=by
         show _=_
         rw [HI.out]
         have e9:jj vr r n (g2+1) ((j:Int)==0) (q1,q2) t2=((zw vr r n ((j:Int)==0) (q1,q2) t2).1::(jj vr r n g2 false (zw vr r n ((j:Int)==0) (q1,q2) t2).1 (zw vr r n ((j:Int)==0) (q1,q2) t2).2).1,(jj vr r n g2 false (zw vr r n ((j:Int)==0) (q1,q2) t2).1 (zw vr r n ((j:Int)==0) (q1,q2) t2).2).2):=if_neg fun hh=>hh HE2Z.out
         rw [e9,EM.out,show ((((j+1:Nat):Int))==0)=false by simp;omega]
         simp only [lg,List.singleton_append]
        go_wp2
        go_roundg g2
        case measure=>omega
        case rel=>exact ⟨j+1,A2,c2,tm,x1,x2,l++ [(x1,x2)],by omega,by go_num,by show _=_;rw [lc,hxl2.out];rfl,HP'.out,HI7.out,HG7.out⟩
       ·have d2:(t2.err==0)=false:=by simp [he2]
        replace HI:Hid (ivE vr r n tot t=(l,t2)):=by show _=_;rw [HI.out,jn he2];show (l++ [],t2)=_;rw [lA]
        clear he2
        obtain ⟨A0,c0,s0,hq⟩:=HG.out.q
        obtain ⟨vs,hn⟩:=hq.nst
        have hlo:=HG.out.lo
        have HN:=qH hn
        have hvl:=qH hn.len
        have hon:=(hn.mods HG.out.md fun k h1 _ h2=>by unfold Is at h2;omega).outer
        obtain ⟨Av,cv,rfl,_,_⟩:=zh hon
        obtain ⟨Ac,cc,rfl,_,_⟩:=zh HG.out.own
        have hown:(wr.alloc (.cells #[.slice Ac l.length cc] 52)).ownsRow (w.heap.size+1+1) 52 1 (.slice Av vs.length cv) vs.length ((vs.zip xs).flatMap fun p=>Jn.oc p.1 p.2):=((Mods.refl No wr).alloc _).ownS hon fun _ _ hk=>hk.elim
        have hnew:=yI wr #[.slice Ac l.length cc] 52
        clear hq hn hon
        have p0:=HG.out.inb.k0;have p1:=HG.out.inb.k1
        go_wp2_with (at_builtin;refine zB _ rfl (.tmp 66) (.tmp 68) 29 rfl (w.heap.size+1+1) 52 i1 (.slice none 0 0) 1 24 Tryz.underlying29 hi1 hy0 hy1 hy2 rfl (by decide) _ _ _ rfl hown (wr.heap.size+1) _ 1 1 _ rfl hnew rfl (Q3 l Ac l.length cc) ?c1 ?c2 ?c3 ?_)
        case c1=>have:=hvl.out;have:=hbl.out;unfold maxLen;omega
        case c2=>have:=hvl.out;have:=hbl.out;omega
        case c3=>(try rw [World.size_alloc]);omega
        intro v5 W5 ho hg _
        have HF7:=qH (HG.out.fin HBB.out HN.out ho hg)
        have ht7:Hid (t2.err=0→tot+k≤1048576):=fun h9=>by
         have:=zds (vr:=vr) (r:=r) (n:=n) (tot:=tot) (s:=t) (by rw [HI.out];exact h9)
         rw [EK.out] at this
         exact this
        clear p0 p1 hown hnew ho hg HG HN
        have HE7:Hid (FB=((xs++ [l])++(yU vr r n g (tot+k) t2).1,(yU vr r n g (tot+k) t2).2)):=by
         show _=_
         rw [HE.out]
         have e9:yU vr r n (g+1) tot t=((ivE vr r n tot t).1::(yU vr r n g (tot+(icE tot t).1) (ivE vr r n tot t).2).1,(yU vr r n g (tot+(icE tot t).1) (ivE vr r n tot t).2).2):=if_neg fun hh=>hh HEZ.out
         rw [e9,HI.out,EK.out]
         simp only [lg,List.singleton_append]
        go_wp2
        go_roundg g
        case measure=>omega
        case rel=>exact ⟨i+1,tot+k,A,c,t2,xs++ [l],by omega,by go_num,by go_num,by omega,ht7,by show _=_;rw [lc,hbl.out];rfl,HE7.out,HF7.out⟩
def Yl(v:Int):Int:=if v<2097152 then v else 2097152
theorem QE{w:World}{lo p:Nat}{l:List Nat}{A:Option Addr}{c:Nat}{t:Ip}(h:CE lo p l A c t w):
  Calls Tryz.prog 132 #[.pointer (some ⟨p,0,none⟩)] w fun e w'=>e= .returned (.int .i64 (Yl (yw t)))∧Mods (Is p) w w'∧CE lo p l A c (ya t) w':=by
 have C:=qH (zdj h)
 have hv:=zdi h.byt
 clear h
 generalize yw t=v at*
 have hv1:(0:Int)≤(v:Int)∧(v:Int)≤18446744073709551615:=by omega
 clear hv
 have C':=C.out
 clear C
 generalize (v:Int)=d at*
 have C:=qH C'
 clear C'
 obtain ⟨m,hm⟩:∃y,Yl d=y:=⟨_,rfl⟩
 rw [hm]
 have HM:=qH hm
 clear hm
 by_cases h0:d≤2097152
 ·have hmd:Hid (m=d):=by show _=_;rw [←HM.out];unfold Yl;split<;>omega
  go_enter Tryz.func132,Tryz.ntmps132
  go_wp2_with fail
  refine C.out.mono ?_
  rintro e W1 ⟨rfl,hm,hc⟩
  have HMM:=qH hm
  have HC:=qH hc
  clear hm hc C
  go_wp2
  go_ret
  exact ⟨by rw [hmd.out];rfl,HMM.out,HC.out⟩
 ·have hmd:Hid (m=2097152):=by show _=_;rw [←HM.out];exact if_neg (by omega)
  have h1:2097152<d:=by omega
  go_enter Tryz.func132,Tryz.ntmps132
  go_wp2_with fail
  refine C.out.mono ?_
  rintro e W1 ⟨rfl,hm,hc⟩
  have HMM:=qH hm
  have HC:=qH hc
  clear hm hc C
  go_wp2
  go_ret
  exact ⟨by rw [hmd.out];rfl,HMM.out,HC.out⟩
theorem YM(w:World):
  Calls Tryz.prog 130 #[] w fun e w'=>e= .returned (.agg #[.int .i64 0,.int .i64 (-1)])∧Below w.heap.size w w':=by
 have HB:=qH (((ld w.heap.size w).alloc (la _) (.cells #[.int .i64 0,.int .i64 0] 55)))
 have HR:=qH (Row.new w 55 #[.int .i64 0,.int .i64 0])
 go_enter Tryz.func130,Tryz.ntmps130
 go_upto_region 1 with fail
 generalize (w.alloc (.cells #[.int .i64 0,.int .i64 0] 55))=W0 at*
 have z0:=HR.out.k0;have z1:=HR.out.k1
 have zf0:=HR.out.frozen 0;have zf1:=HR.out.frozen 1
 have HR2:Hid (Row ((W0.setCell ⟨w.heap.size,0,none⟩ (.int .i64 0)).setCell ⟨w.heap.size,1,none⟩ (.int .i64 (-1))) w.heap.size 55 #[.int .i64 0,.int .i64 (-1)]):=(HR.out.put 0 _).put 1 _
 have HB2:Hid (Below w.heap.size w ((W0.setCell ⟨w.heap.size,0,none⟩ (.int .i64 0)).setCell ⟨w.heap.size,1,none⟩ (.int .i64 (-1)))):=HB.out.trans ((((Mods.refl (Is w.heap.size) W0).put 0 _).put 1 _).below HB.out.size fun k hk=>by unfold Is at hk;omega)
 go_wp2
 (try simp only [Exit.inBlock,Exit.then])
 refine bodyPost_ret (v:= .agg #[.int .i64 0,.int .i64 (-1)]) ?_ rfl ⟨rfl,HB2.out⟩
 exact results_cell_row rfl _ _ w.heap.size 55 #[.int .i64 0,.int .i64 (-1)] (0,0) _ rfl HR2.out Tryz.underlying55 rfl (by kernel_rfl)
def Um(q2 d:Int):Int:=if d=0 then q2+1 else 0
theorem Uh(w:World)(q1 q2 d:Int)(hq:d=0→ -9223372036854775808≤q2+1∧q2+1≤9223372036854775807):
  Calls Tryz.prog 133 #[.agg #[.int .i64 q1,.int .i64 q2],.int .i64 d] w fun e w'=>e= .returned (.int .i64 (Um q2 d))∧Below w.heap.size w w':=by
 have HB:=qH (((ld w.heap.size w).alloc (la _) (.cells #[.int .i64 q1,.int .i64 q2] 55)))
 have HR:=qH (Row.new w 55 #[.int .i64 q1,.int .i64 q2])
 obtain ⟨m,hm⟩:∃y,Um q2 d=y:=⟨_,rfl⟩
 rw [hm]
 have HM:=qH hm
 clear hm
 by_cases h0:d=0
 ·have hd:(d==0)=true:=by simp [h0]
  have hmd:Hid (q2+1=m):=by show _=_;rw [←HM.out];exact (if_pos h0).symm
  have hq2:=hq h0
  clear h0 hq
  go_enter Tryz.func133,Tryz.ntmps133
  go_wp2
  go_ret
  exact ⟨by rw [hmd.out];rfl,HB.out⟩
 ·have hd:(d==0)=false:=by simp [h0]
  have hmd:Hid (m=0):=by show _=_;rw [←HM.out];exact if_neg h0
  clear h0 hq
  go_enter Tryz.func133,Tryz.ntmps133
  go_wp2
  go_ret
  exact ⟨by rw [hmd.out];rfl,HB.out⟩
def jE(f:Bool)(q:Pr):Int:=if f then -1 else q.2
theorem zdt{v:Int}(h:0≤v):0≤Yl v∧Yl v≤2097152:=by unfold Yl;split<;>omega
theorem zeq{t:Ip}(h:t.err≠0):ya t=t:=if_pos h
theorem zhM{vr r n:Int}{f:Bool}{q:Pr}{s T1:Ip}{d lo1:Int}(hq:Z1 vr f q)(hvr:vr≤1048576)(hr:r≤1048576)(hn:n≤1048576)(hd:d=Yl (yw s))(h1:T1=if vr≤q.1+d then zA 9 (ya s) else ya s)(hl:lo1=Um (jE f q) d+Yl (yw T1)):
  (zw vr r n f q s).2=(if yd lo1 r n=false then zA 10 (ya T1) else ya T1)∧((if yd lo1 r n=false then zA 10 (ya T1) else ya T1).err=0→(zw vr r n f q s).1=(q.1+d,lo1)):=by
 have hq0:0≤q.1∧0≤q.2:=by
  rcases hq with ⟨_,rfl⟩|⟨_,a,b,c⟩
  ·exact ⟨Int.le_refl _,Int.le_refl _⟩
  ·exact ⟨a,c⟩
 by_cases hA:vr - q.1≤(yw s:Int)
 ·have hA2:vr≤q.1+d:=by rw [hd];unfold Yl;split<;>omega
  rw [if_pos hA2] at h1
  have he:T1.err≠0:=by rw [h1];exact yh (by decide)
  obtain ⟨p1,p2⟩:=zg9 (vr:=vr) (r:=r) (n:=n) (f:=f) (q:=q) (s:=s) hA
  have h3:(if yd lo1 r n=false then zA 10 (ya T1) else ya T1)=T1:=by
   rw [zeq he,jf he]
   split<;>rfl
  rw [h3]
  exact ⟨by rw [p1,h1],fun h=>absurd h he⟩
 ·have hds:d=yw s:=by rw [hd];unfold Yl;rw [if_pos (by omega)]
  rw [if_neg (by omega)] at h1
  have hll:0≤Um (jE f q) d:=by
   unfold Um jE
   split
   ·split<;>omega
   ·omega
  by_cases hB:4611686018427387904≤(yw (ya s):Int)
  ·obtain ⟨p1,p2⟩:=zha (vr:=vr) (r:=r) (n:=n) (f:=f) (q:=q) (s:=s) hA hB
   have hm:Yl (yw T1)=2097152:=by rw [h1];exact if_neg (by omega)
   have hL:yd lo1 r n=false:=by
    cases h9:yd lo1 r n
    ·rfl
    ·unfold yd at h9
     rw [if_neg (by omega)] at h9
     split at h9<;>(have:=of_decide_eq_true h9;omega)
   rw [if_pos hL]
   exact ⟨by rw [p1,h1],fun h=>absurd h (yh (by decide))⟩
  ·obtain ⟨lo2,hlo2⟩:∃y,y=if f=false∧(yw s:Int)=0 then q.2+1+(yw (ya s):Int) else (yw (ya s):Int):=⟨_,rfl⟩
   have hc:=zhb (vr:=vr) (r:=r) (n:=n) (f:=f) (q:=q) (s:=s) hA hB hlo2
   rw [hc]
   dsimp only
   have hl2:lo2=Um (jE f q) d+(yw (ya s):Int):=by
    rw [hlo2]
    unfold Um jE
    rw [hds]
    cases f
    ·by_cases h0:(yw s:Int)=0
     ·simp only [h0,and_self,if_true,Bool.false_eq_true,if_false]
     ·simp only [h0,and_false,if_false];omega
    ·simp only [Bool.true_eq_false,false_and,if_false,if_true]
     split<;>omega
   by_cases hC:(yw (ya s):Int)<2097152
   ·have hm:Yl (yw T1)=yw (ya s):=by rw [h1];exact if_pos hC
    have he:lo1=lo2:=by omega
    rw [he,h1,hds]
    exact ⟨rfl,fun _=>rfl⟩
   ·have hm:Yl (yw T1)=2097152:=by rw [h1];exact if_neg hC
    have hL:∀k,2097152≤k→yd k r n=false:=fun k hk=>by
     cases h9:yd k r n
     ·rfl
     ·unfold yd at h9
      rw [if_neg (by omega)] at h9
      split at h9<;>(have:=of_decide_eq_true h9;omega)
    rw [hL lo1 (by omega),hL lo2 (by omega),h1]
    exact ⟨rfl,fun h=>absurd h (yh (by decide))⟩
structure RDB(b bb p:Nat)(vr r n q1 q2:Int)(W:World):Prop where
 x0:Row W b 82 #[.pointer (some ⟨p,0,none⟩)]
 x1:Row W (b+1) 3 #[.int .i64 vr]
 x2:Row W (b+2) 3 #[.int .i64 r]
 x3:Row W (b+3) 3 #[.int .i64 n]
 x4:Row W bb 55 #[.int .i64 q1,.int .i64 q2]
 xb:b+3<bb
theorem RDB.mods{b bb p:Nat}{vr r n q1 q2:Int}{W W':World}{S:Nat→Prop}(h:RDB b bb p vr r n q1 q2 W)(hm:Mods S W W')(hS:∀k,S k→k<b∨bb<k):RDB b bb p vr r n q1 q2 W':=by
 have:=h.xb
 exact ⟨h.x0.mods hm fun e=>by have:=hS _ e;omega,h.x1.mods hm fun e=>by have:=hS _ e;omega,h.x2.mods hm fun e=>by have:=hS _ e;omega,h.x3.mods hm fun e=>by have:=hS _ e;omega,h.x4.mods hm fun e=>by have:=hS _ e;omega,h.xb⟩
theorem RDB.lt{b bb p:Nat}{vr r n q1 q2:Int}{W:World}(h:RDB b bb p vr r n q1 q2 W):bb<W.heap.size:=h.x4.lt
structure RDS(w:World)(lo p:Nat)(l:List Nat)(A:Option Addr)(c:Nat)(t:Ip)(b bb:Nat)(vr r n q1 q2:Int)(z:Nat)(W:World):Prop where
 md:Mods (fun k=>k=p∨k=bb) w W
 ce:CE lo p l A c t W
 bx:RDB b bb p vr r n q1 q2 W
 zr:Row W z 55 #[.int .i64 0,.int .i64 0]
 pb:p<b
 bz:bb<z
 wz:w.heap.size≤z
section
variable {w W W' : World} {lo p : Nat} {l : List Nat} {A : Option Addr} {c : Nat} {t t' : Ip} {b bb : Nat} {vr r n q1 q2 : Int} {z : Nat}
theorem RDS.next(h:RDS w lo p l A c t b bb vr r n q1 q2 z W)(hm:Mods (Is p) W W')(hc:CE lo p l A c t' W'):RDS w lo p l A c t' b bb vr r n q1 q2 z W':=by
 have:=h.pb;have:=h.bz;have:=h.bx.xb
 exact ⟨h.md.then hm fun k hk=> .inl (.inl hk),hc,h.bx.mods hm fun k hk=>by unfold Is at hk;omega,h.zr.mods hm fun e=>by unfold Is at e;omega,h.pb,h.bz,h.wz⟩
theorem RDS.below(h:RDS w lo p l A c t b bb vr r n q1 q2 z W)(hb:Below W.heap.size W W'):RDS w lo p l A c t b bb vr r n q1 q2 z W':=
 h.next (Mods.of_below hb) (h.ce.mods (S:=No) (Mods.of_below hb) fun _ hk=>hk.elim)
theorem RDS.drew(h:RDS w lo p l A c t b bb vr r n q1 q2 z W):RDS w lo p l A c t b bb vr r n q1 q2 z W.drew:=h.below (let b:=ld W.heap.size W;⟨b.os,b.tape,b.output,b.size,b.block⟩)
theorem RDS.cells(h:RDS w lo p l A c t b bb vr r n q1 q2 z W):W.cell? ⟨b,0,none⟩=some (.pointer (some ⟨p,0,none⟩))∧W.cell? ⟨bb,0,none⟩=some (.int .i64 q1)∧W.cell? ⟨bb,1,none⟩=some (.int .i64 q2):=by
 have b0:=h.bx.x0.k0;have b4:=h.bx.x4.k0;have b5:=h.bx.x4.k1
 exact ⟨b0,b4,b5⟩
theorem RDS.set(h:RDS w lo p l A c t b bb vr r n q1 q2 z W)(a1 a2:Int):
  RDS w lo p l A c t b bb vr r n a1 a2 z ((W.setCell ⟨bb,0,none⟩ (.int .i64 a1)).setCell ⟨bb,1,none⟩ (.int .i64 a2)):=by
 have hp:=h.pb;have hz:=h.bz;have hx:=h.bx.xb
 have m1:Mods (Is bb) W ((W.setCell ⟨bb,0,none⟩ (.int .i64 a1)).setCell ⟨bb,1,none⟩ (.int .i64 a2)):=((Mods.refl _ W).put 0 _).put 1 _
 exact ⟨h.md.then m1 fun k hk=> .inl (.inr hk),h.ce.mods m1 fun k hk=>by unfold Is at hk;omega,⟨h.bx.x0.mods m1 fun e=>by unfold Is at e;omega,h.bx.x1.mods m1 fun e=>by unfold Is at e;omega,h.bx.x2.mods m1 fun e=>by unfold Is at e;omega,h.bx.x3.mods m1 fun e=>by unfold Is at e;omega,(h.bx.x4.put 0 _).put 1 _,hx⟩,h.zr.mods m1 fun e=>by unfold Is at e;omega,hp,hz,h.wz⟩
end
def RD1(lo p:Nat)(l:List Nat)(A:Option Addr)(c b bb:Nat)(vr r n:Int)(pr:Pr)(t:Ip)(w:World)(e:Ending)(w':World):Prop:=
 ∃a1 a2,e= .returned (.agg #[.int .i64 a1,.int .i64 a2])∧Mods (fun k=>k=p∨k=bb) w w'∧CE lo p l A c t w'∧RDB b bb p vr r n a1 a2 w'∧(t.err=0→(a1,a2)=pr)
theorem RDS.fin{w W:World}{lo p:Nat}{l:List Nat}{A:Option Addr}{c:Nat}{t:Ip}{b bb:Nat}{vr r n:Int}{z:Nat}{pr:Pr}{a1 a2:Int}(h:RDS w lo p l A c t b bb vr r n a1 a2 z W)(hp:t.err=0→(a1,a2)=pr):
  RD1 lo p l A c b bb vr r n pr t w (.returned (.agg #[.int .i64 a1,.int .i64 a2])) ((W.setCell ⟨z,0,none⟩ (.int .i64 a1)).setCell ⟨z,1,none⟩ (.int .i64 a2))∧Row ((W.setCell ⟨z,0,none⟩ (.int .i64 a1)).setCell ⟨z,1,none⟩ (.int .i64 a2)) z 55 #[.int .i64 a1,.int .i64 a2]:=by
 have hm:Mods (Is z) W ((W.setCell ⟨z,0,none⟩ (.int .i64 a1)).setCell ⟨z,1,none⟩ (.int .i64 a2)):=((Mods.refl _ W).put 0 _).put 1 _
 have:=h.pb;have:=h.bz;have:=h.wz;have:=h.bx.xb
 exact ⟨⟨a1,a2,rfl,h.md.then hm fun k hk=> .inr (by unfold Is at hk;omega),h.ce.mods hm fun k hk=>by unfold Is at hk;omega,h.bx.mods hm fun k hk=>by unfold Is at hk;omega,hp⟩,(h.zr.put 0 _).put 1 _⟩
theorem zgI{w:World}{lo p:Nat}{l:List Nat}{A:Option Addr}{c:Nat}{s:Ip}(h:CE lo p l A c s w){b bb:Nat}{vr r n:Int}{q:Pr}{f:Bool}(hb:RDB b bb p vr r n q.1 (jE f q) w)(hpb:p<b)(hvr:0≤vr∧vr≤1048576)(hr:0≤r∧r≤1048576)(hn:0≤n∧n≤1048576)(hq:Z1 vr f q)(hq2:q.2≤4000000000):
  Calls Tryz.prog 131 #[.pointer (some ⟨b,0,none⟩),.pointer (some ⟨bb,0,none⟩),.pointer (some ⟨b+1,0,none⟩),.pointer (some ⟨b+2,0,none⟩),.pointer (some ⟨b+3,0,none⟩)] w (RD1 lo p l A c b bb vr r n (zw vr r n f q s).1 (zw vr r n f q s).2 w):=by
 have hqr:(0≤q.1∧q.1≤vr)∧ -1≤jE f q∧jE f q≤4000000000:=by
  unfold jE
  rcases hq with ⟨rfl,rfl⟩|⟨rfl,a,b,c⟩
  ·exact ⟨⟨Int.le_refl _,hvr.1⟩,Int.le_refl _,by decide⟩
  ·exact ⟨⟨a,by omega⟩,by simp only [Bool.false_eq_true,if_false];omega⟩
 have hlt:=hb.lt
 obtain ⟨d,hd⟩:∃y,y=Yl (yw s):=⟨_,rfl⟩
 obtain ⟨T1,hT1⟩:∃y,y=if vr≤q.1+d then zA 9 (ya s) else ya s:=⟨_,rfl⟩
 obtain ⟨x,hx⟩:∃y,y=Yl (yw T1):=⟨_,rfl⟩
 obtain ⟨least,hle⟩:∃y,y=Um (jE f q) d:=⟨_,rfl⟩
 have HC:=zhM (lo1:=least+x) hq hvr.2 hr.2 hn.2 hd hT1 (by rw [hle,hx])
 obtain ⟨PE,hPE⟩:∃y,zw vr r n f q s=y:=⟨_,rfl⟩
 rw [hPE] at HC⊢
 have hdr:0≤d∧d≤2097152:=by rw [hd];exact zdt (Int.natCast_nonneg _)
 have hxr:0≤x∧x≤2097152:=by rw [hx];exact zdt (Int.natCast_nonneg _)
 have hlr:0≤least∧least≤4000000001:=by rw [hle];unfold Um;split<;>omega
 have h0:Hid (RDS w lo p l A c s b bb vr r n q.1 (jE f q) w.heap.size (w.alloc (.cells #[.int .i64 0,.int .i64 0] 55))):=
  ⟨(Mods.refl _ w).alloc _,h.alloc _,hb.mods ((Mods.refl No w).alloc _) fun _ hk=>hk.elim,Row.new _ _ _,hpb,by omega,la _⟩
 have C1:=qH (QE h0.out.ce)
 rw [←hd] at C1
 have C2:=qH fun (W:World) (h:RDS w lo p l A c T1 b bb vr r n q.1 (jE f q) w.heap.size W)=>(QE h.ce).mono (R':=fun e w'=>e= .returned (.int .i64 x)∧RDS w lo p l A c (ya T1) b bb vr r n q.1 (jE f q) w.heap.size w') (by
  rintro e W' ⟨rfl,hm,hc⟩
  exact ⟨by rw [hx],h.next hm hc⟩)
 have C3:=qH fun (t:Ip) (W:World) (h:RDS w lo p l A c t b bb vr r n q.1 (jE f q) w.heap.size W)=>(Uh W q.1 (jE f q) d fun _=>by omega).mono (R':=fun e w'=>e= .returned (.int .i64 least)∧RDS w lo p l A c t b bb vr r n q.1 (jE f q) w.heap.size w') (by
  rintro e W' ⟨rfl,hm⟩
  exact ⟨by rw [hle],h.below hm⟩)
 have HT1:=qH hT1
 have HCC:=qH HC
 obtain ⟨T2,hT2⟩:∃y,y=ya T1:=⟨_,rfl⟩
 obtain ⟨S1,hS1⟩:∃y,y=ya s:=⟨_,rfl⟩
 rw [←hT2] at C2 HCC
 rw [←hS1] at C1 HT1
 clear hd hT1 hx hle HC hPE h hb hq hq2 hT2 hS1
 obtain ⟨q1,q2⟩:=q
 dsimp only at*
 generalize jE f (q1,q2)=q3 at*
 go_enter Tryz.func131,Tryz.ntmps131
 go_upto_region 1 with fail
 generalize (w.alloc (.cells #[.int .i64 0,.int .i64 0] 55))=W0 at*
 have b0:=h0.out.bx.x0.k0
 go_wp2_with fail
 refine C1.out.mono ?_
 rintro e W1 ⟨rfl,hm,hc⟩
 have h1:=qH (h0.out.next hm hc)
 clear b0 hm hc h0 C1
 have b0:=h1.out.bx.x0.k0;have b1:=h1.out.bx.x1.k0;have b4:=h1.out.bx.x4.k0;have b5:=h1.out.bx.x4.k1
 go_upto_if 17 with fail
 go_cut [] from 9 (fun wx=>∃W2,W2=wx∧Hid (RDS w lo p l A c T1 b bb vr r n q1 q3 w.heap.size W2))
 case first=>
  by_cases hA:vr≤q1+d
  ·have C4:=qH (Jr h1.out.ce 9 (by decide))
   have hte:Hid (T1=zA 9 S1):=by show _=_;rw [HT1.out,if_pos hA]
   go_wp2_with fail
   refine C4.out.mono ?_
   rintro e W2 ⟨rfl,hm,hc⟩
   have h2:=qH (h1.out.next hm hc)
   rw [←hte.out] at h2
   clear hm hc
   go_wp2_with fail
   go_meet
   case rel=>exact ⟨_,rfl,h2⟩
  ·have hte:Hid (T1=S1):=by show _=_;rw [HT1.out,if_neg hA]
   rw [←hte.out] at h1
   go_wp2_with fail
   go_meet
   case rel=>exact ⟨_,rfl,h1⟩
 case rest=>
  obtain ⟨W2,hW2,h2⟩:=hcut
  subst hW2
  clear b0 b1 b4 b5 h1 HT1
  go_upto_region 5 with fail
  have hG:=h2.out
  obtain ⟨b0,b4,b5⟩:=hG.cells
  have hsum:IntKind.i64.wrap (least+x)=least+x:=by rw [IntKind.wrap_i64];omega
  clear h2
  go_cut [8] from 9 (fun s8 wx=>s8= .int .i64 (least+x)∧RDS w lo p l A c T2 b bb vr r n q1 q3 w.heap.size wx)
  case first=>
   go_region_held3 (fun w'=>w'.cell? ⟨b,0,none⟩=some (.pointer (some ⟨p,0,none⟩))∧w'.cell? ⟨bb,0,none⟩=some (.int .i64 q1)∧w'.cell? ⟨bb,1,none⟩=some (.int .i64 q3)) (first|exact hG.cells|exact hG.drew.cells|exact (hG.drewN _).cells) (first
    |(go_at_call 132;go_must ((with_reducible refine (C2.out _ (by first|exact hG|exact hG.drew|exact hG.drewN _)).mono ?_);rintro e Wa ⟨rfl,hG⟩))
    |(go_at_call 133;go_must ((with_reducible refine (C3.out _ _ (by first|exact hG|exact hG.drew|exact hG.drewN _)).mono ?_);rintro e Wa ⟨rfl,hG⟩)))
   all_goals
    go_wp2_with fail
    go_meet
    case rel=>exact ⟨rfl,by first|exact hG|exact hG.drew|exact hG.drewN _⟩
  case rest=>
   obtain ⟨hs8,h3⟩:=hcut
   subst hs8
   clear b0 b4 b5 hG C2 C3 hsum
   have h4:=qH h3
   clear h3
   generalize wc=W3 at*
   have b0:=h4.out.bx.x0.k0;have b2:=h4.out.bx.x2.k0;have b3:=h4.out.bx.x3.k0
   obtain ⟨lo1,hlo1⟩:∃y,y=least+x:=⟨_,rfl⟩
   have hlor:0≤lo1∧lo1≤5000000000:=by omega
   rw [←hlo1] at HCC⊢
   clear hlo1
   have C4:=qH (YQ lo1 r n W3 ⟨by omega,by omega⟩)
   generalize yd lo1 r n=bl at*
   go_wp2_with fail
   refine C4.out.mono ?_
   rintro e W ⟨rfl,rfl⟩
   go_upto_if 30 with fail
   go_cut [] from 9 (fun wx=>∃W5,W5=wx∧Hid (RDS w lo p l A c PE.2 b bb vr r n q1 q3 w.heap.size W5)∧Hid (PE.2.err=0→PE.1=(q1+d,lo1)))
   case first=>
    obtain ⟨e1,e2⟩:=HCC.out
    cases bl
    ·rw [if_pos rfl] at e1 e2
     have hte:=qH e1
     have htp:Hid (PE.2.err=0→PE.1=(q1+d,lo1)):=by show _→_;rw [e1];exact e2
     have C5:=qH (Jr h4.out.ce 10 (by decide))
     clear e1 e2
     go_wp2_with fail
     refine C5.out.mono ?_
     rintro e W6 ⟨rfl,hm,hc⟩
     have h6:=qH (h4.out.next hm hc)
     rw [←hte.out] at h6
     clear hm hc
     go_wp2_with fail
     go_meet
     case rel=>exact ⟨_,rfl,h6,htp⟩
    ·rw [if_neg (by decide)] at e1 e2
     have hte:=qH e1
     have htp:Hid (PE.2.err=0→PE.1=(q1+d,lo1)):=by show _→_;rw [e1];exact e2
     have h6:=h4
     rw [←hte.out] at h6
     clear e1 e2
     go_wp2_with fail
     go_meet
     case rel=>exact ⟨_,rfl,h6,htp⟩
   case rest=>
    obtain ⟨W5,hW5,h5,htp⟩:=hcut
    subst hW5
    clear b0 b2 b3 h4 HCC C4
    have b4f:=h5.out.bx.x4.frozen 0;have b5f:=h5.out.bx.x4.frozen 1
    have b4:=h5.out.bx.x4.k0;have b5:=h5.out.bx.x4.k1
    go_upto_region 9 with fail
    have h6:=qH (h5.out.set (q1+d) lo1)
    clear b4 b5 b4f b5f h5
    generalize ((W5.setCell ⟨bb,0,none⟩ (.int .i64 (q1+d))).setCell ⟨bb,1,none⟩ (.int .i64 lo1))=W6 at*
    have y0:=h6.out.bx.x4.k0;have y1:=h6.out.bx.x4.k1
    have z0:=h6.out.zr.k0;have z1:=h6.out.zr.k1
    have zf0:=h6.out.zr.frozen 0;have zf1:=h6.out.zr.frozen 1
    obtain ⟨HX,HR⟩:=h6.out.fin (pr:=PE.1) (fun h9=>(htp.out h9).symm)
    have HXX:=qH HX
    have HRR:=qH HR
    clear HX HR
    go_wp2
    (try simp only [Exit.inBlock,Exit.then])
    refine bodyPost_ret (v:= .agg #[.int .i64 (q1+d),.int .i64 lo1]) ?_ rfl HXX.out
    exact results_cell_row rfl _ _ w.heap.size 55 #[.int .i64 (q1+d),.int .i64 lo1] (0,0) _ rfl HRR.out Tryz.underlying55 rfl (by kernel_rfl)
theorem zcF(p:Nat)(vr r n:Int)(w:World):
  Calls Tryz.prog 79 #[.pointer (some ⟨p,0,none⟩),.int .i64 vr,.int .i64 r,.int .i64 n] w fun e w'=>∃bb,e= .returned (.func (.func 131) #[] #[.pointer (some ⟨w.heap.size,0,none⟩),.pointer (some ⟨bb,0,none⟩),.pointer (some ⟨w.heap.size+1,0,none⟩),.pointer (some ⟨w.heap.size+2,0,none⟩),.pointer (some ⟨w.heap.size+3,0,none⟩)])∧RDB w.heap.size bb p vr r n 0 (-1) w'∧Below w.heap.size w w':=by
 go_enter Tryz.func79,Tryz.ntmps79
 go_upto_region 1 with fail
 have a0:=Row.new w 82 #[.pointer (some ⟨p,0,none⟩)]
 have e0:(w.alloc (.cells #[.pointer (some ⟨p,0,none⟩)] 82)).heap.size=w.heap.size+1:=by simp
 have hb0:=(ld w.heap.size w).alloc (la _) (.cells #[.pointer (some ⟨p,0,none⟩)] 82)
 generalize (w.alloc (.cells #[.pointer (some ⟨p,0,none⟩)] 82))=W0 at*
 have a1:=Row.new' e0 3 #[.int .i64 vr]
 have e1:(W0.alloc (.cells #[.int .i64 vr] 3)).heap.size=w.heap.size+2:=by simp [e0]
 have hb1:=hb0.alloc hb0.size (.cells #[.int .i64 vr] 3)
 replace a0:=a0.alloc (.cells #[.int .i64 vr] 3)
 generalize (W0.alloc (.cells #[.int .i64 vr] 3))=W1 at*
 have a2:=Row.new' e1 3 #[.int .i64 r]
 have e2:(W1.alloc (.cells #[.int .i64 r] 3)).heap.size=w.heap.size+3:=by simp [e1]
 have hb2:=hb1.alloc hb1.size (.cells #[.int .i64 r] 3)
 replace a0:=a0.alloc (.cells #[.int .i64 r] 3);replace a1:=a1.alloc (.cells #[.int .i64 r] 3)
 generalize (W1.alloc (.cells #[.int .i64 r] 3))=W2 at*
 have a3:=Row.new' e2 3 #[.int .i64 n]
 have e3:(W2.alloc (.cells #[.int .i64 n] 3)).heap.size=w.heap.size+4:=by simp [e2]
 have hb3:=hb2.alloc hb2.size (.cells #[.int .i64 n] 3)
 replace a0:=a0.alloc (.cells #[.int .i64 n] 3);replace a1:=a1.alloc (.cells #[.int .i64 n] 3);replace a2:=a2.alloc (.cells #[.int .i64 n] 3)
 generalize (W2.alloc (.cells #[.int .i64 n] 3))=W3 at*
 have HB3:=qH hb3
 have A0:=qH a0;have A1:=qH a1;have A2:=qH a2;have A3:=qH a3
 have HE3:=qH e3
 have C:=qH (YM W3)
 clear hb0 hb1 hb2 hb3 a0 a1 a2 a3 e0 e1 e2 e3
 go_wp2_with fail
 refine C.out.mono ?_
 rintro e W4 ⟨rfl,hb4⟩
 have HB4:=qH hb4
 clear hb4 C
 go_wp2
 go_ret
 have hs:=HB4.out.size
 have he:=HE3.out
 have hn:=Row.new W4 55 #[.int .i64 0,.int .i64 (-1)]
 refine ⟨W4.heap.size,rfl,⟨(A0.out.below HB4.out A0.out.lt).alloc _,(A1.out.below HB4.out A1.out.lt).alloc _,(A2.out.below HB4.out A2.out.lt).alloc _,(A3.out.below HB4.out A3.out.lt).alloc _,hn,by omega⟩,?_⟩
 exact (HB3.out.trans (HB4.out.mono (by omega))).alloc (by omega) _
end Go.Proofs.YtnifhpbgmjcndaaGreat
