import Derived.Test.YtnifhpbgmjcndaaGreatIcMach
import Derived.Test.YtnifhpbgmjcndaaGreatIcTerm
import Derived.Test.YtnifhpbgmjcndaaGreatSrcCopy
import Derived.Test.YtnifhpbgmjcndaaGreatMacCopy
import Derived.Test.YtnifhpbgmjcndaaGreatIcEnc
set_option linter.unusedVariables false
set_option linter.unusedSimpArgs false
set_option linter.unusedSectionVars false
set_option maxRecDepth 100000
set_option maxHeartbeats 2000000
namespace Go.Proofs.YtnifhpbgmjcndaaGreat
open Go.RowKit
theorem yT{w:World}{lo n p sz:Nat}{e T:TypeId}{v:Value}{xs:List Value}{cs:Array Value}(h:w.ownsRow lo e sz v n xs)(hr:Row w p T cs)(hT:e≠T):∀k,v.ownBlock=some k→¬k=p:=by
 intro k hk e1
 subst e1
 rcases h.2 with ⟨rfl,_⟩|⟨a,cap,cur,rfl,_,h1,_⟩
 ·cases hk
 ·simp only [Value.ownBlock,Option.some.injEq] at hk
  subst hk
  unfold Row at hr
  rw [h1] at hr
  simp only [Option.some.injEq,Obj.cells.injEq] at hr
  exact hT hr.2.1
structure FHS(w:World)(B:Nat)(A:Option Addr)(c:Nat)(t:Ip)(a r:Int)(v:Value)(bs:List Blk)(W:World):Prop where
 blw:Below w.heap.size w W
 inp:Row W w.heap.size 88 #[.slice A t.rest.length c,.int .i64 t.err]
 z2:Row W (w.heap.size+1) 25 #[.int .i64 0,.int .i64 0,.slice none 0 0]
 z3:Row W (w.heap.size+1+1) 88 #[.slice none 0 0,.int .i64 0]
 fb:Row W (w.heap.size+1+1+1) 25 #[.int .i64 a,.int .i64 r,v]
 ip:IpV W B A c t
 nest:∃vs,NestV Jk W (w.heap.size+1+1+1+1) v vs bs
section
variable {w : World} {B : Nat} {A A' : Option Addr} {c c' : Nat} {t t' : Ip} {a r : Int} {v v' : Value} {bs : List Blk} {W W' : World}
theorem FHS.next(h:FHS w B A c t a r v bs W)(hb:Below W.heap.size W W')(hB:B≤w.heap.size):FHS w B A c t a r v bs W':=
 ⟨h.blw.trans (hb.mono h.blw.size),h.inp.below hb h.inp.lt,h.z2.below hb h.z2.lt,h.z3.below hb h.z3.lt,h.fb.below hb h.fb.lt,h.ip.below (hb.mono (lf hB h.blw.size)),let ⟨vs,hn⟩:=h.nest;⟨vs,hn.below hb⟩⟩
theorem FHS.inpt(h:FHS w B A c t a r v bs W)(hI:IpV W B A' c' t')(hB:B≤w.heap.size):FHS w B A' c' t' a r v bs ((W.setCell ⟨w.heap.size,0,none⟩ (.slice A' t'.rest.length c')).setCell ⟨w.heap.size,1,none⟩ (.int .i64 t'.err)):=by
 have hb:Below w.heap.size W ((W.setCell ⟨w.heap.size,0,none⟩ (.slice A' t'.rest.length c')).setCell ⟨w.heap.size,1,none⟩ (.int .i64 t'.err)):=((ld _ W).setCell (p:=⟨w.heap.size,0,none⟩) (la _) _).setCell (p:=⟨w.heap.size,1,none⟩) (la _) _
 have hm:Mods (Is w.heap.size) W ((W.setCell ⟨w.heap.size,0,none⟩ (.slice A' t'.rest.length c')).setCell ⟨w.heap.size,1,none⟩ (.int .i64 t'.err)):=((Mods.refl _ W).put 0 _).put 1 _
 exact ⟨h.blw.trans hb,(h.inp.put 0 _).put 1 _,h.z2.mods hm (fun e=>by unfold Is at e;omega),h.z3.mods hm (fun e=>by unfold Is at e;omega),h.fb.mods hm (fun e=>by unfold Is at e;omega),hI.below (hb.mono hB),let ⟨vs,hn⟩:=h.nest;⟨vs,hn.mods hm fun k h1 _ h2=>by unfold Is at h2;omega⟩⟩
theorem FHS.fld(h:FHS w B A c t a r v bs W)(k:Nat)(u:Value){a' r':Int}(e:(#[.int .i64 a,.int .i64 r,v]:Array Value).setIfInBounds k u= #[.int .i64 a',.int .i64 r',v])(hB:B≤w.heap.size):FHS w B A c t a' r' v bs (W.setCell ⟨w.heap.size+1+1+1,k,none⟩ u):=by
 have hb:Below w.heap.size W (W.setCell ⟨w.heap.size+1+1+1,k,none⟩ u):=(ld _ W).setCell (p:=⟨w.heap.size+1+1+1,k,none⟩) (by show _≤w.heap.size+1+1+1;omega) u
 have hm:Mods (Is (w.heap.size+1+1+1)) W (W.setCell ⟨w.heap.size+1+1+1,k,none⟩ u):=(Mods.refl _ W).put k u
 have hp:=h.fb.put k u
 rw [e] at hp
 exact ⟨h.blw.trans hb,h.inp.mods hm (fun e=>by unfold Is at e;omega),h.z2.mods hm (fun e=>by unfold Is at e;omega),h.z3.mods hm (fun e=>by unfold Is at e;omega),hp,h.ip.below (hb.mono hB),let ⟨vs,hn⟩:=h.nest;⟨vs,hn.mods hm fun k h1 _ h2=>by unfold Is at h2;omega⟩⟩
end
structure GHS(w Wq:World)(B:Nat)(A:Option Addr)(c:Nat)(t:Ip)(a r:Int)(v:Value)(bs:List Blk)(vc:Value)(xs:List In)(W:World):Prop where
 q:∃A0 c0 t0,FHS w B A0 c0 t0 a r v bs Wq
 md:Mods (Is w.heap.size) Wq W
 inp:Row W w.heap.size 88 #[.slice A t.rest.length c,.int .i64 t.err]
 ip:IpV W B A c t
 bb:Row W Wq.heap.size 60 #[vc,.int .i64 0,.int .i64 0,.int .i64 0,.int .i64 0]
 own:W.ownsRow Wq.heap.size 125 5 vc xs.length (xs.flatMap In.cells)
section
variable {w Wq : World} {B : Nat} {A A' : Option Addr} {c c' : Nat} {t t' : Ip} {a r : Int} {v vc v' : Value} {bs : List Blk} {xs : List In} {W W' : World}
theorem GHS.lo(h:GHS w Wq B A c t a r v bs vc xs W):w.heap.size+1+1+1<Wq.heap.size∧Wq.heap.size<W.heap.size:=let ⟨_,_,_,hq⟩:=h.q;⟨hq.fb.lt,h.bb.lt⟩
theorem GHS.blw(h:GHS w Wq B A c t a r v bs vc xs W):Below w.heap.size w W:=by
 obtain ⟨_,_,_,hq⟩:=h.q
 exact hq.blw.trans (h.md.below hq.blw.size fun k hk=>by unfold Is at hk;omega)
theorem GHS.fb(h:GHS w Wq B A c t a r v bs vc xs W):Row W (w.heap.size+1+1+1) 25 #[.int .i64 a,.int .i64 r,v]:=by
 obtain ⟨_,_,_,hq⟩:=h.q
 exact hq.fb.mods h.md fun e=>by unfold Is at e;omega
theorem GHS.next(h:GHS w Wq B A c t a r v bs vc xs W)(hb:Below W.heap.size W W')(hB:B≤w.heap.size):GHS w Wq B A c t a r v bs vc xs W':=
 ⟨h.q,h.md.trans (Mods.of_below hb),h.inp.below hb h.inp.lt,h.ip.below (hb.mono (lf hB h.blw.size)),h.bb.below hb h.bb.lt,(Mods.of_below (S:=No) hb).ownS h.own fun _ _ hs=>hs.elim⟩
theorem GHS.inpt(h:GHS w Wq B A c t a r v bs vc xs W)(hI:IpV W B A' c' t')(hB:B≤w.heap.size):GHS w Wq B A' c' t' a r v bs vc xs ((W.setCell ⟨w.heap.size,0,none⟩ (.slice A' t'.rest.length c')).setCell ⟨w.heap.size,1,none⟩ (.int .i64 t'.err)):=by
 have hl:=h.lo
 have hb:Below w.heap.size W ((W.setCell ⟨w.heap.size,0,none⟩ (.slice A' t'.rest.length c')).setCell ⟨w.heap.size,1,none⟩ (.int .i64 t'.err)):=((ld _ W).setCell (p:=⟨w.heap.size,0,none⟩) (la _) _).setCell (p:=⟨w.heap.size,1,none⟩) (la _) _
 have hm:Mods (Is w.heap.size) W ((W.setCell ⟨w.heap.size,0,none⟩ (.slice A' t'.rest.length c')).setCell ⟨w.heap.size,1,none⟩ (.int .i64 t'.err)):=((Mods.refl _ W).put 0 _).put 1 _
 exact ⟨h.q,h.md.trans hm,(h.inp.put 0 _).put 1 _,hI.below (hb.mono hB),h.bb.mods hm (fun e=>by unfold Is at e;omega),hm.ownS h.own fun k hk e=>by have:=zW h.own k hk;unfold Is at e;omega⟩
theorem GHS.app(h:GHS w Wq B A c t a r v bs vc xs W)(hB:B≤w.heap.size)(x:In){o:Obj}(ho:W'.ownsRow Wq.heap.size 125 5 v' (xs.length+1) (xs.flatMap In.cells++In.cells x))(hg:(W.alloc o).grownBy W' vc.ownBlock):
  Row W' Wq.heap.size 60 #[vc,.int .i64 0,.int .i64 0,.int .i64 0,.int .i64 0]∧GHS w Wq B A c t a r v bs v' (xs++ [x]) (W'.setCell ⟨Wq.heap.size,0,none⟩ v'):=by
 have hl:=h.lo
 have hne:=yT h.own h.bb (by decide)
 have hr:Row W' Wq.heap.size 60 #[vc,.int .i64 0,.int .i64 0,.int .i64 0,.int .i64 0]:=(hg.block _ (by rw [World.size_alloc];omega) (fun e=>hne _ e.symm rfl)).trans (h.bb.alloc o)
 have hne2:=yT ho hr (by decide)
 have hm:Mods (fun k=>vc.ownBlock=some k) W W':=((Mods.refl _ W).alloc o).grown hg fun k hk=> .inl hk
 have hms:Mods (Is Wq.heap.size) W' (W'.setCell ⟨Wq.heap.size,0,none⟩ v'):=(Mods.refl _ W').put 0 v'
 have hBel:Below w.heap.size W (W'.setCell ⟨Wq.heap.size,0,none⟩ v'):=(hm.below (B:=w.heap.size) (by omega) fun k hk=>by have:=zW h.own k hk;omega).trans (hms.below (B:=w.heap.size) (by have:=hm.size;omega) fun k hk=>by unfold Is at hk;omega)
 have hinp:Row W' w.heap.size 88 #[.slice A t.rest.length c,.int .i64 t.err]:=h.inp.mods hm fun e=>by have:=zW h.own _ e;omega
 refine ⟨hr,h.q,?_,hinp.mods hms (fun e=>by unfold Is at e;omega),h.ip.below (hBel.mono hB),hr.put 0 v',?_⟩
 ·exact (h.md.then hm fun k hk=> .inr (zW h.own k hk).1).then hms fun k hk=> .inr (by unfold Is at hk;omega)
 ·have:=hms.ownS ho fun k hk e=>hne2 k hk e
  rw [lc,List.flatMap_append]
  simpa using this
end
structure THS(w Wq:World)(B:Nat)(A:Option Addr)(c:Nat)(t:Ip)(a r:Int)(v:Value)(bs:List Blk)(vc:Value)(xs:List In)(tm:Tm)(W:World):Prop where
 q:∃A0 c0 t0,FHS w B A0 c0 t0 a r v bs Wq
 md:Mods (Is w.heap.size) Wq W
 inp:Row W w.heap.size 88 #[.slice A t.rest.length c,.int .i64 t.err]
 ip:IpV W B A c t
 bb:Row W Wq.heap.size 60 #[vc,.int .i64 tm.kind,.int .i64 tm.a,.int .i64 tm.to,.int .i64 tm.el]
 own:W.ownsRow Wq.heap.size 125 5 vc xs.length (xs.flatMap In.cells)
section
variable {w Wq : World} {B : Nat} {A A' : Option Addr} {c c' : Nat} {t t' : Ip} {a r : Int} {v vc v' : Value} {bs : List Blk} {xs : List In} {tm : Tm} {W W' : World}
theorem GHS.term(h:GHS w Wq B A c t a r v bs vc xs W)(tm:Tm)(hI:IpV W B A' c' t')(hB:B≤w.heap.size):
  THS w Wq B A' c' t' a r v bs vc xs tm ((((((W.setCell ⟨Wq.heap.size,1,none⟩ (.int .i64 tm.kind)).setCell ⟨Wq.heap.size,2,none⟩ (.int .i64 tm.a)).setCell ⟨Wq.heap.size,3,none⟩ (.int .i64 tm.to)).setCell ⟨Wq.heap.size,4,none⟩ (.int .i64 tm.el)).setCell ⟨w.heap.size,0,none⟩ (.slice A' t'.rest.length c')).setCell ⟨w.heap.size,1,none⟩ (.int .i64 t'.err)):=by
 have hl:=h.lo
 have hm1:Mods (Is Wq.heap.size) W ((((W.setCell ⟨Wq.heap.size,1,none⟩ (.int .i64 tm.kind)).setCell ⟨Wq.heap.size,2,none⟩ (.int .i64 tm.a)).setCell ⟨Wq.heap.size,3,none⟩ (.int .i64 tm.to)).setCell ⟨Wq.heap.size,4,none⟩ (.int .i64 tm.el)):=((((Mods.refl _ W).put 1 _).put 2 _).put 3 _).put 4 _
 have hr1:Row ((((W.setCell ⟨Wq.heap.size,1,none⟩ (.int .i64 tm.kind)).setCell ⟨Wq.heap.size,2,none⟩ (.int .i64 tm.a)).setCell ⟨Wq.heap.size,3,none⟩ (.int .i64 tm.to)).setCell ⟨Wq.heap.size,4,none⟩ (.int .i64 tm.el)) Wq.heap.size 60 #[vc,.int .i64 tm.kind,.int .i64 tm.a,.int .i64 tm.to,.int .i64 tm.el]:=(((h.bb.put 1 _).put 2 _).put 3 _).put 4 _
 have hne:=yT h.own h.bb (by decide)
 have hI1:=hI.below (w':=((((W.setCell ⟨Wq.heap.size,1,none⟩ (.int .i64 tm.kind)).setCell ⟨Wq.heap.size,2,none⟩ (.int .i64 tm.a)).setCell ⟨Wq.heap.size,3,none⟩ (.int .i64 tm.to)).setCell ⟨Wq.heap.size,4,none⟩ (.int .i64 tm.el))) (hm1.below (by omega) fun k hk=>by unfold Is at hk;omega)
 generalize ((((W.setCell ⟨Wq.heap.size,1,none⟩ (.int .i64 tm.kind)).setCell ⟨Wq.heap.size,2,none⟩ (.int .i64 tm.a)).setCell ⟨Wq.heap.size,3,none⟩ (.int .i64 tm.to)).setCell ⟨Wq.heap.size,4,none⟩ (.int .i64 tm.el))=V at*
 have hm2:Mods (Is w.heap.size) V ((V.setCell ⟨w.heap.size,0,none⟩ (.slice A' t'.rest.length c')).setCell ⟨w.heap.size,1,none⟩ (.int .i64 t'.err)):=((Mods.refl _ V).put 0 _).put 1 _
 have hi:=h.inp.mods hm1 fun e=>by unfold Is at e;omega
 have ho1:=hm1.ownS h.own fun k hk e=>hne k hk e
 exact ⟨h.q,(h.md.then hm1 fun k hk=> .inr (by unfold Is at hk;omega)).trans hm2,(hi.put 0 _).put 1 _,hI1.below (hm2.below (by have:=hm1.size;have:=hl.2;omega) fun k hk=>by unfold Is at hk;omega),hr1.mods hm2 (fun e=>by unfold Is at e;omega),hm2.ownS ho1 fun k hk e=>by have:=zW ho1 k hk;unfold Is at e;omega⟩
theorem THS.fb(h:THS w Wq B A c t a r v bs vc xs tm W):Row W (w.heap.size+1+1+1) 25 #[.int .i64 a,.int .i64 r,v]:=by
 obtain ⟨_,_,_,hq⟩:=h.q
 exact hq.fb.mods h.md fun e=>by unfold Is at e;omega
theorem THS.nest(h:THS w Wq B A c t a r v bs vc xs tm W):∃vs,NestV Jk Wq (w.heap.size+1+1+1+1) v vs bs∧NestV Jk W (w.heap.size+1+1+1+1) v vs bs:=by
 obtain ⟨_,_,_,hq⟩:=h.q
 obtain ⟨vs,hn⟩:=hq.nest
 exact ⟨vs,hn,hn.mods h.md fun k h1 _ h2=>by unfold Is at h2;omega⟩
theorem THS.lo(h:THS w Wq B A c t a r v bs vc xs tm W):w.heap.size+1+1+1<Wq.heap.size∧Wq.heap.size<W.heap.size:=let ⟨_,_,_,hq⟩:=h.q;⟨hq.fb.lt,h.bb.lt⟩
theorem THS.app(h:THS w Wq B A c t a r v bs vc xs tm W)(hB:B≤w.heap.size){vs:List Value}(hn:NestV Jk Wq (w.heap.size+1+1+1+1) v vs bs){o:Obj}
  (ho:W'.ownsRow (w.heap.size+1+1+1+1) 60 5 v' (vs.length+1) (((vs.zip bs).flatMap fun p=>Jk.oc p.1 p.2)++Jk.oc vc ⟨xs,tm⟩)) (hg:(W.alloc o).grownBy W' v.ownBlock):
  Row W' (w.heap.size+1+1+1) 25 #[.int .i64 a,.int .i64 r,v]∧FHS w B A c t a r v' (bs++ [⟨xs,tm⟩]) (W'.setCell ⟨w.heap.size+1+1+1,2,none⟩ v'):=by
 have hl:=h.lo
 have hsn:=hn.snoc (x:=(⟨xs,tm⟩:Blk)) h.md (fun k hk=>by unfold Is at hk;omega) (by omega) h.own o ho hg
 obtain ⟨_,_,_,hq⟩:=h.q
 have hon:=(hn.mods h.md fun k h1 _ h2=>by unfold Is at h2;omega).outer
 have hb:Below (w.heap.size+1+1+1+1) W W':=((ld _ W).alloc (by omega) o).grown hg (by rw [World.size_alloc];omega) fun k hk=>(zW hon k hk).1
 have hfb:=h.fb.below hb (by omega)
 have hm:Mods (Is (w.heap.size+1+1+1)) W' (W'.setCell ⟨w.heap.size+1+1+1,2,none⟩ v'):=(Mods.refl _ W').put 2 v'
 have hbw:Below w.heap.size W' (W'.setCell ⟨w.heap.size+1+1+1,2,none⟩ v'):=(ld _ W').setCell (p:=⟨w.heap.size+1+1+1,2,none⟩) (by show _≤w.heap.size+1+1+1;omega) v'
 have hmd:Below w.heap.size Wq W:=h.md.below (by omega) fun k hk=>by unfold Is at hk;omega
 refine ⟨hfb,hq.blw.trans (hmd.trans ((hb.mono (by omega)).trans hbw)),(h.inp.below hb (by omega)).mods hm (fun e=>by unfold Is at e;omega),((hq.z2.mods h.md (fun e=>by unfold Is at e;omega)).below hb (by omega)).mods hm (fun e=>by unfold Is at e;omega),((hq.z3.mods h.md (fun e=>by unfold Is at e;omega)).below hb (by omega)).mods hm (fun e=>by unfold Is at e;omega),hfb.put 2 v',h.ip.below (((hb.mono (by omega)).trans hbw).mono hB),vs++ [vc],hsn.mods hm fun k h1 _ h2=>by unfold Is at h2;omega⟩
end
structure FHM(w:World)(B:Nat)(A:Option Addr)(c:Nat)(t:Ip)(a r sl:Int)(v:Value)(bs:List MBlk)(W:World):Prop where
 blw:Below w.heap.size w W
 inp:Row W w.heap.size 88 #[.slice A t.rest.length c,.int .i64 t.err]
 z2:Row W (w.heap.size+1) 28 #[.int .i64 0,.int .i64 0,.int .i64 0,.slice none 0 0]
 z3:Row W (w.heap.size+1+1) 88 #[.slice none 0 0,.int .i64 0]
 fb:Row W (w.heap.size+1+1+1) 28 #[.int .i64 a,.int .i64 r,.int .i64 sl,v]
 ip:IpV W B A c t
 nest:∃vs,NestV jV W (w.heap.size+1+1+1+1) v vs bs
section
variable {w : World} {B : Nat} {A A' : Option Addr} {c c' : Nat} {t t' : Ip} {a r sl : Int} {v v' : Value} {bs : List MBlk} {W W' : World}
theorem FHM.next(h:FHM w B A c t a r sl v bs W)(hb:Below W.heap.size W W')(hB:B≤w.heap.size):FHM w B A c t a r sl v bs W':=
 ⟨h.blw.trans (hb.mono h.blw.size),h.inp.below hb h.inp.lt,h.z2.below hb h.z2.lt,h.z3.below hb h.z3.lt,h.fb.below hb h.fb.lt,h.ip.below (hb.mono (lf hB h.blw.size)),let ⟨vs,hn⟩:=h.nest;⟨vs,hn.below hb⟩⟩
theorem FHM.inpt(h:FHM w B A c t a r sl v bs W)(hI:IpV W B A' c' t')(hB:B≤w.heap.size):FHM w B A' c' t' a r sl v bs ((W.setCell ⟨w.heap.size,0,none⟩ (.slice A' t'.rest.length c')).setCell ⟨w.heap.size,1,none⟩ (.int .i64 t'.err)):=by
 have hb:Below w.heap.size W ((W.setCell ⟨w.heap.size,0,none⟩ (.slice A' t'.rest.length c')).setCell ⟨w.heap.size,1,none⟩ (.int .i64 t'.err)):=((ld _ W).setCell (p:=⟨w.heap.size,0,none⟩) (la _) _).setCell (p:=⟨w.heap.size,1,none⟩) (la _) _
 have hm:Mods (Is w.heap.size) W ((W.setCell ⟨w.heap.size,0,none⟩ (.slice A' t'.rest.length c')).setCell ⟨w.heap.size,1,none⟩ (.int .i64 t'.err)):=((Mods.refl _ W).put 0 _).put 1 _
 exact ⟨h.blw.trans hb,(h.inp.put 0 _).put 1 _,h.z2.mods hm (fun e=>by unfold Is at e;omega),h.z3.mods hm (fun e=>by unfold Is at e;omega),h.fb.mods hm (fun e=>by unfold Is at e;omega),hI.below (hb.mono hB),let ⟨vs,hn⟩:=h.nest;⟨vs,hn.mods hm fun k h1 _ h2=>by unfold Is at h2;omega⟩⟩
theorem FHM.fld(h:FHM w B A c t a r sl v bs W)(k:Nat)(u:Value){a' r' sl':Int}(e:(#[.int .i64 a,.int .i64 r,.int .i64 sl,v]:Array Value).setIfInBounds k u= #[.int .i64 a',.int .i64 r',.int .i64 sl',v])(hB:B≤w.heap.size):FHM w B A c t a' r' sl' v bs (W.setCell ⟨w.heap.size+1+1+1,k,none⟩ u):=by
 have hb:Below w.heap.size W (W.setCell ⟨w.heap.size+1+1+1,k,none⟩ u):=(ld _ W).setCell (p:=⟨w.heap.size+1+1+1,k,none⟩) (by show _≤w.heap.size+1+1+1;omega) u
 have hm:Mods (Is (w.heap.size+1+1+1)) W (W.setCell ⟨w.heap.size+1+1+1,k,none⟩ u):=(Mods.refl _ W).put k u
 have hp:=h.fb.put k u
 rw [e] at hp
 exact ⟨h.blw.trans hb,h.inp.mods hm (fun e=>by unfold Is at e;omega),h.z2.mods hm (fun e=>by unfold Is at e;omega),h.z3.mods hm (fun e=>by unfold Is at e;omega),hp,h.ip.below (hb.mono hB),let ⟨vs,hn⟩:=h.nest;⟨vs,hn.mods hm fun k h1 _ h2=>by unfold Is at h2;omega⟩⟩
end
structure GHM(w Wq:World)(B:Nat)(A:Option Addr)(c:Nat)(t:Ip)(a r sl:Int)(v:Value)(bs:List MBlk)(vc:Value)(xs:List Mi)(W:World):Prop where
 q:∃A0 c0 t0,FHM w B A0 c0 t0 a r sl v bs Wq
 md:Mods (Is w.heap.size) Wq W
 inp:Row W w.heap.size 88 #[.slice A t.rest.length c,.int .i64 t.err]
 ip:IpV W B A c t
 bb:Row W Wq.heap.size 63 #[vc,.int .i64 0,.int .i64 0,.int .i64 0,.int .i64 0]
 own:W.ownsRow Wq.heap.size 131 7 vc xs.length (xs.flatMap Mi.cells)
section
variable {w Wq : World} {B : Nat} {A A' : Option Addr} {c c' : Nat} {t t' : Ip} {a r sl : Int} {v vc v' : Value} {bs : List MBlk} {xs : List Mi} {W W' : World}
theorem GHM.lo(h:GHM w Wq B A c t a r sl v bs vc xs W):w.heap.size+1+1+1<Wq.heap.size∧Wq.heap.size<W.heap.size:=let ⟨_,_,_,hq⟩:=h.q;⟨hq.fb.lt,h.bb.lt⟩
theorem GHM.blw(h:GHM w Wq B A c t a r sl v bs vc xs W):Below w.heap.size w W:=by
 obtain ⟨_,_,_,hq⟩:=h.q
 exact hq.blw.trans (h.md.below hq.blw.size fun k hk=>by unfold Is at hk;omega)
theorem GHM.fb(h:GHM w Wq B A c t a r sl v bs vc xs W):Row W (w.heap.size+1+1+1) 28 #[.int .i64 a,.int .i64 r,.int .i64 sl,v]:=by
 obtain ⟨_,_,_,hq⟩:=h.q
 exact hq.fb.mods h.md fun e=>by unfold Is at e;omega
theorem GHM.next(h:GHM w Wq B A c t a r sl v bs vc xs W)(hb:Below W.heap.size W W')(hB:B≤w.heap.size):GHM w Wq B A c t a r sl v bs vc xs W':=
 ⟨h.q,h.md.trans (Mods.of_below hb),h.inp.below hb h.inp.lt,h.ip.below (hb.mono (lf hB h.blw.size)),h.bb.below hb h.bb.lt,(Mods.of_below (S:=No) hb).ownS h.own fun _ _ hs=>hs.elim⟩
theorem GHM.inpt(h:GHM w Wq B A c t a r sl v bs vc xs W)(hI:IpV W B A' c' t')(hB:B≤w.heap.size):GHM w Wq B A' c' t' a r sl v bs vc xs ((W.setCell ⟨w.heap.size,0,none⟩ (.slice A' t'.rest.length c')).setCell ⟨w.heap.size,1,none⟩ (.int .i64 t'.err)):=by
 have hl:=h.lo
 have hb:Below w.heap.size W ((W.setCell ⟨w.heap.size,0,none⟩ (.slice A' t'.rest.length c')).setCell ⟨w.heap.size,1,none⟩ (.int .i64 t'.err)):=((ld _ W).setCell (p:=⟨w.heap.size,0,none⟩) (la _) _).setCell (p:=⟨w.heap.size,1,none⟩) (la _) _
 have hm:Mods (Is w.heap.size) W ((W.setCell ⟨w.heap.size,0,none⟩ (.slice A' t'.rest.length c')).setCell ⟨w.heap.size,1,none⟩ (.int .i64 t'.err)):=((Mods.refl _ W).put 0 _).put 1 _
 exact ⟨h.q,h.md.trans hm,(h.inp.put 0 _).put 1 _,hI.below (hb.mono hB),h.bb.mods hm (fun e=>by unfold Is at e;omega),hm.ownS h.own fun k hk e=>by have:=zW h.own k hk;unfold Is at e;omega⟩
theorem GHM.app(h:GHM w Wq B A c t a r sl v bs vc xs W)(hB:B≤w.heap.size)(x:Mi){o:Obj}(ho:W'.ownsRow Wq.heap.size 131 7 v' (xs.length+1) (xs.flatMap Mi.cells++Mi.cells x))(hg:(W.alloc o).grownBy W' vc.ownBlock):
  Row W' Wq.heap.size 63 #[vc,.int .i64 0,.int .i64 0,.int .i64 0,.int .i64 0]∧GHM w Wq B A c t a r sl v bs v' (xs++ [x]) (W'.setCell ⟨Wq.heap.size,0,none⟩ v'):=by
 have hl:=h.lo
 have hne:=yT h.own h.bb (by decide)
 have hr:Row W' Wq.heap.size 63 #[vc,.int .i64 0,.int .i64 0,.int .i64 0,.int .i64 0]:=(hg.block _ (by rw [World.size_alloc];omega) (fun e=>hne _ e.symm rfl)).trans (h.bb.alloc o)
 have hne2:=yT ho hr (by decide)
 have hm:Mods (fun k=>vc.ownBlock=some k) W W':=((Mods.refl _ W).alloc o).grown hg fun k hk=> .inl hk
 have hms:Mods (Is Wq.heap.size) W' (W'.setCell ⟨Wq.heap.size,0,none⟩ v'):=(Mods.refl _ W').put 0 v'
 have hBel:Below w.heap.size W (W'.setCell ⟨Wq.heap.size,0,none⟩ v'):=(hm.below (B:=w.heap.size) (by omega) fun k hk=>by have:=zW h.own k hk;omega).trans (hms.below (B:=w.heap.size) (by have:=hm.size;omega) fun k hk=>by unfold Is at hk;omega)
 have hinp:Row W' w.heap.size 88 #[.slice A t.rest.length c,.int .i64 t.err]:=h.inp.mods hm fun e=>by have:=zW h.own _ e;omega
 refine ⟨hr,h.q,?_,hinp.mods hms (fun e=>by unfold Is at e;omega),h.ip.below (hBel.mono hB),hr.put 0 v',?_⟩
 ·exact (h.md.then hm fun k hk=> .inr (zW h.own k hk).1).then hms fun k hk=> .inr (by unfold Is at hk;omega)
 ·have:=hms.ownS ho fun k hk e=>hne2 k hk e
  rw [lc,List.flatMap_append]
  simpa using this
end
structure THM(w Wq:World)(B:Nat)(A:Option Addr)(c:Nat)(t:Ip)(a r sl:Int)(v:Value)(bs:List MBlk)(vc:Value)(xs:List Mi)(tm:Tm)(W:World):Prop where
 q:∃A0 c0 t0,FHM w B A0 c0 t0 a r sl v bs Wq
 md:Mods (Is w.heap.size) Wq W
 inp:Row W w.heap.size 88 #[.slice A t.rest.length c,.int .i64 t.err]
 ip:IpV W B A c t
 bb:Row W Wq.heap.size 63 #[vc,.int .i64 tm.kind,.int .i64 tm.a,.int .i64 tm.to,.int .i64 tm.el]
 own:W.ownsRow Wq.heap.size 131 7 vc xs.length (xs.flatMap Mi.cells)
section
variable {w Wq : World} {B : Nat} {A A' : Option Addr} {c c' : Nat} {t t' : Ip} {a r sl : Int} {v vc v' : Value} {bs : List MBlk} {xs : List Mi} {tm : Tm} {W W' : World}
theorem GHM.term(h:GHM w Wq B A c t a r sl v bs vc xs W)(tm:Tm)(hI:IpV W B A' c' t')(hB:B≤w.heap.size):
  THM w Wq B A' c' t' a r sl v bs vc xs tm ((((((W.setCell ⟨Wq.heap.size,1,none⟩ (.int .i64 tm.kind)).setCell ⟨Wq.heap.size,2,none⟩ (.int .i64 tm.a)).setCell ⟨Wq.heap.size,3,none⟩ (.int .i64 tm.to)).setCell ⟨Wq.heap.size,4,none⟩ (.int .i64 tm.el)).setCell ⟨w.heap.size,0,none⟩ (.slice A' t'.rest.length c')).setCell ⟨w.heap.size,1,none⟩ (.int .i64 t'.err)):=by
 have hl:=h.lo
 have hm1:Mods (Is Wq.heap.size) W ((((W.setCell ⟨Wq.heap.size,1,none⟩ (.int .i64 tm.kind)).setCell ⟨Wq.heap.size,2,none⟩ (.int .i64 tm.a)).setCell ⟨Wq.heap.size,3,none⟩ (.int .i64 tm.to)).setCell ⟨Wq.heap.size,4,none⟩ (.int .i64 tm.el)):=((((Mods.refl _ W).put 1 _).put 2 _).put 3 _).put 4 _
 have hr1:Row ((((W.setCell ⟨Wq.heap.size,1,none⟩ (.int .i64 tm.kind)).setCell ⟨Wq.heap.size,2,none⟩ (.int .i64 tm.a)).setCell ⟨Wq.heap.size,3,none⟩ (.int .i64 tm.to)).setCell ⟨Wq.heap.size,4,none⟩ (.int .i64 tm.el)) Wq.heap.size 63 #[vc,.int .i64 tm.kind,.int .i64 tm.a,.int .i64 tm.to,.int .i64 tm.el]:=(((h.bb.put 1 _).put 2 _).put 3 _).put 4 _
 have hne:=yT h.own h.bb (by decide)
 have hI1:=hI.below (w':=((((W.setCell ⟨Wq.heap.size,1,none⟩ (.int .i64 tm.kind)).setCell ⟨Wq.heap.size,2,none⟩ (.int .i64 tm.a)).setCell ⟨Wq.heap.size,3,none⟩ (.int .i64 tm.to)).setCell ⟨Wq.heap.size,4,none⟩ (.int .i64 tm.el))) (hm1.below (by omega) fun k hk=>by unfold Is at hk;omega)
 generalize ((((W.setCell ⟨Wq.heap.size,1,none⟩ (.int .i64 tm.kind)).setCell ⟨Wq.heap.size,2,none⟩ (.int .i64 tm.a)).setCell ⟨Wq.heap.size,3,none⟩ (.int .i64 tm.to)).setCell ⟨Wq.heap.size,4,none⟩ (.int .i64 tm.el))=V at*
 have hm2:Mods (Is w.heap.size) V ((V.setCell ⟨w.heap.size,0,none⟩ (.slice A' t'.rest.length c')).setCell ⟨w.heap.size,1,none⟩ (.int .i64 t'.err)):=((Mods.refl _ V).put 0 _).put 1 _
 have hi:=h.inp.mods hm1 fun e=>by unfold Is at e;omega
 have ho1:=hm1.ownS h.own fun k hk e=>hne k hk e
 exact ⟨h.q,(h.md.then hm1 fun k hk=> .inr (by unfold Is at hk;omega)).trans hm2,(hi.put 0 _).put 1 _,hI1.below (hm2.below (by have:=hm1.size;have:=hl.2;omega) fun k hk=>by unfold Is at hk;omega),hr1.mods hm2 (fun e=>by unfold Is at e;omega),hm2.ownS ho1 fun k hk e=>by have:=zW ho1 k hk;unfold Is at e;omega⟩
theorem THM.fb(h:THM w Wq B A c t a r sl v bs vc xs tm W):Row W (w.heap.size+1+1+1) 28 #[.int .i64 a,.int .i64 r,.int .i64 sl,v]:=by
 obtain ⟨_,_,_,hq⟩:=h.q
 exact hq.fb.mods h.md fun e=>by unfold Is at e;omega
theorem THM.nest(h:THM w Wq B A c t a r sl v bs vc xs tm W):∃vs,NestV jV Wq (w.heap.size+1+1+1+1) v vs bs∧NestV jV W (w.heap.size+1+1+1+1) v vs bs:=by
 obtain ⟨_,_,_,hq⟩:=h.q
 obtain ⟨vs,hn⟩:=hq.nest
 exact ⟨vs,hn,hn.mods h.md fun k h1 _ h2=>by unfold Is at h2;omega⟩
theorem THM.lo(h:THM w Wq B A c t a r sl v bs vc xs tm W):w.heap.size+1+1+1<Wq.heap.size∧Wq.heap.size<W.heap.size:=let ⟨_,_,_,hq⟩:=h.q;⟨hq.fb.lt,h.bb.lt⟩
theorem THM.app(h:THM w Wq B A c t a r sl v bs vc xs tm W)(hB:B≤w.heap.size){vs:List Value}(hn:NestV jV Wq (w.heap.size+1+1+1+1) v vs bs){o:Obj}
  (ho:W'.ownsRow (w.heap.size+1+1+1+1) 63 5 v' (vs.length+1) (((vs.zip bs).flatMap fun p=>jV.oc p.1 p.2)++jV.oc vc ⟨xs,tm⟩)) (hg:(W.alloc o).grownBy W' v.ownBlock):
  Row W' (w.heap.size+1+1+1) 28 #[.int .i64 a,.int .i64 r,.int .i64 sl,v]∧FHM w B A c t a r sl v' (bs++ [⟨xs,tm⟩]) (W'.setCell ⟨w.heap.size+1+1+1,3,none⟩ v'):=by
 have hl:=h.lo
 have hsn:=hn.snoc (x:=(⟨xs,tm⟩:MBlk)) h.md (fun k hk=>by unfold Is at hk;omega) (by omega) h.own o ho hg
 obtain ⟨_,_,_,hq⟩:=h.q
 have hon:=(hn.mods h.md fun k h1 _ h2=>by unfold Is at h2;omega).outer
 have hb:Below (w.heap.size+1+1+1+1) W W':=((ld _ W).alloc (by omega) o).grown hg (by rw [World.size_alloc];omega) fun k hk=>(zW hon k hk).1
 have hfb:=h.fb.below hb (by omega)
 have hm:Mods (Is (w.heap.size+1+1+1)) W' (W'.setCell ⟨w.heap.size+1+1+1,3,none⟩ v'):=(Mods.refl _ W').put 3 v'
 have hbw:Below w.heap.size W' (W'.setCell ⟨w.heap.size+1+1+1,3,none⟩ v'):=(ld _ W').setCell (p:=⟨w.heap.size+1+1+1,3,none⟩) (by show _≤w.heap.size+1+1+1;omega) v'
 have hmd:Below w.heap.size Wq W:=h.md.below (by omega) fun k hk=>by unfold Is at hk;omega
 refine ⟨hfb,hq.blw.trans (hmd.trans ((hb.mono (by omega)).trans hbw)),(h.inp.below hb (by omega)).mods hm (fun e=>by unfold Is at e;omega),((hq.z2.mods h.md (fun e=>by unfold Is at e;omega)).below hb (by omega)).mods hm (fun e=>by unfold Is at e;omega),((hq.z3.mods h.md (fun e=>by unfold Is at e;omega)).below hb (by omega)).mods hm (fun e=>by unfold Is at e;omega),hfb.put 3 v',h.ip.below (((hb.mono (by omega)).trans hbw).mono hB),vs++ [vc],hsn.mods hm fun k h1 _ h2=>by unfold Is at h2;omega⟩
end
def KT(W W':World):Prop:=∀p T cs,5≠T→Row W p T cs→Row W' p T cs
section
variable {W W' W'' : World}
theorem KT.trans(h:KT W W')(h':KT W' W''):KT W W'':=fun p T cs hT hr=>h' p T cs hT (h p T cs hT hr)
theorem KT.of_below(hb:Below W.heap.size W W'):KT W W':=fun _ _ _ _ h=>h.below hb h.lt
theorem KT.grown{lo n:Nat}{v:Value}{xs:List Value}(ho:W.ownsRow lo 5 1 v n xs)(hg:W.grownBy W' v.ownBlock):KT W W':=fun p T cs hT hr=>by
 refine (hg.block p hr.lt fun e=> ?_).trans hr
 first|exact yT ho hr hT p e rfl|exact yT ho hr hT p e.symm rfl
end
theorem jg{w0 W:World}{v:Value}{l:List Nat}(h:BL w0 v l W)(x:Int)(h0:0≤x)(h1:x≤9223372036854775807)(hl:l.length≤1000000000000):
  Calls Tryz.prog 104 #[v,.int .i64 x] W fun e W'=>∃v',e= .returned v'∧BL w0 v' (l++zc x.toNat) W'∧KT W W':=by
 obtain ⟨i0,hi,hz0,hz1,hz2⟩:=info_parts Tryz.infoU8c
 have C1:=qH (Zy x W h0 (by omega))
 have HL:=qH h
 have hp:=zC x.toNat
 clear h
 go_enter Tryz.func104,Tryz.ntmps104
 go_wp2_with fail
 refine C1.out.mono ?_
 rintro e W1 ⟨g,c,rfl,ho,hb⟩
 have HL1:=qH (HL.out.next hb)
 have HK1:=qH (KT.of_below hb)
 have hsee:=Sees.of_own ho
 have hlo:w0.heap.size≤W1.heap.size:=HL1.out.blw.size
 have HLS:Hid (yc x.toNat=(zc x.toNat).length):=rfl
 clear ho hb C1 HL
 have hown:=HL1.out.own
 go_wp2_with (at_builtin;refine zv _ rfl (.tmp 5) (.tmp 8) 22 rfl w0.heap.size 5 i0 (.int .u8 0) 1 Tryz.underlying22 hi hz0 hz1 hz2 rfl v l.length (bts l) rfl hown W1.heap.size _ _ _ (bts (zc x.toNat)) rfl hsee (zg _) (ye _) ?c1 ?c2 ?c3 ?_)
 case c1=>have h9:yc x.toNat=(zc x.toNat).length:=rfl;unfold maxLen;omega
 case c2=>have h9:yc x.toNat=(zc x.toNat).length:=rfl;omega
 case c3=>exact hlo
 intro v2 W2 ho2 hg2
 have HL2:=qH (HL1.out.app rfl ho2 hg2)
 have HK2:=qH (HK1.out.trans (KT.grown hown hg2))
 clear ho2 hg2 hown hsee
 go_wp2
 go_ret
 exact ⟨v2,rfl,HL2.out,HK2.out⟩
theorem jh{α:Type}(f:α→List Nat)(l:List α)(k:Nat)(hk:k<l.length):(l.take (k+1)).flatMap f=(l.take k).flatMap f++f l[k]:=by
 rw [List.take_succ_eq_append_getElem hk,List.flatMap_append,List.flatMap_cons,List.flatMap_nil,lA]
theorem Zg{α:Type}(f:α→List Nat)(l:List α)(k:Nat)(hk:k<l.length):((l.take k).flatMap f).length+(f l[k]).length≤(l.flatMap f).length:=by
 have h:=congrArg List.length (congrArg (List.flatMap f) (List.take_append_drop (k+1) l))
 rw [List.flatMap_append,jh f l k hk,lc,lc] at h
 omega
def PI(m:Mi):Prop:=(0≤m.op∧m.op<256)∧InI m.imm∧(uD m.op=true→0≤m.d∧m.d≤9223372036854775807)∧(uA m.op=true→0≤m.a∧m.a≤9223372036854775807)∧(uB m.op=true→0≤m.b∧m.b≤9223372036854775807)∧
 ((m.op==18)=true→0≤m.dst∧m.dst≤9223372036854775807)∧((m.op==18)=true→0≤m.src∧m.src≤9223372036854775807)
def PT(t:Tm):Prop:=(0≤t.kind∧t.kind<256)∧((t.kind !=1)=true→0≤t.a∧t.a≤9223372036854775807)∧((t.kind !=3)=true→0≤t.to∧t.to≤9223372036854775807)∧((t.kind==2)=true→0≤t.el∧t.el≤9223372036854775807)
def PB(x:Blk):Prop:=(∀y∈x.code,PI (inM y))∧PT x.term
def PMB(x:MBlk):Prop:=(∀y∈x.code,PI y)∧PT x.term
theorem zbY(w:World):BL w (.slice none 0 0) [] w:=⟨⟨rfl,.inl ⟨rfl,rfl⟩⟩,ld _ _⟩
def Gt{α:Type}(r:α × Ip)(v:α)(p q:List Nat)(j:Nat):Prop:=
 (p.length≤j∧r=(v,⟨q.take (j - p.length),0⟩))∨(j<(p++q).length∧r.2.err=1)
theorem Gt.full{α:Type}{f:Ip→α × Ip}{v:α}{p q:List Nat}(h:Gt (f ⟨(p++q).take (p++q).length,0⟩) v p q (p++q).length):f ⟨p++q,0⟩=(v,⟨q,0⟩):=by
 rcases h with ⟨_,h⟩|⟨h,_⟩
 ·rw [List.take_length,lc,Nat.add_sub_cancel_left,List.take_length] at h
  exact h
 ·omega
theorem Cuts.gt{f:Ip→Int × Ip}{p:List Nat}{v:Int}(h:Cuts f p v)(q:List Nat)(j:Nat):Gt (f ⟨(p++q).take j,0⟩) v p q j:=by
 rcases h.at_ q j with ⟨hj,e⟩|⟨hj,e⟩
 ·exact .inr ⟨by rw [lc];omega,by rw [e]⟩
 ·exact .inl ⟨hj,e⟩
theorem J6{v:Int}(h0:0≤v)(h1:v≤1048576)(q:List Nat)(j:Nat):Gt (zR ⟨(zc v.toNat++q).take j,0⟩) v (zc v.toNat) q j:=
 (J4 (bd:=1048577) (why:=6) h0 (by omega) (by omega)).gt q j
theorem QR{k v:Int}(hk:0<k)(h0:0≤v)(h1:v≤1048576)(q:List Nat)(j:Nat)(hq:v*k≤(q.length:Int)):Gt (yu k ⟨(zc v.toNat++q).take j,0⟩) v (zc v.toNat) q j:=by
 rcases J6 h0 h1 q j with ⟨hj,e⟩|⟨hj,e⟩
 ·unfold yu
  rw [e]
  dsimp only
  by_cases hc:((q.take (j - (zc v.toNat).length)).length:Int) / k<v
  ·rw [if_pos ⟨rfl,hc⟩]
   refine .inr ⟨?_,rfl⟩
   rw [lc]
   by_cases hh:(zc v.toNat).length+q.length≤j
   ·rw [List.take_of_length_le (by omega)] at hc
    have:=Int.lt_mul_of_ediv_lt hk hc
    omega
   ·omega
  ·rw [if_neg fun hh=>hc hh.2]
   exact .inl ⟨hj,rfl⟩
 ·refine .inr ⟨hj,?_⟩
  unfold yu
  rw [if_neg fun hh=>by rw [e] at hh;exact absurd hh.1 (by decide)]
  exact e
theorem zaG{v:Int}(h0:1≤v)(h1:v≤1048576)(q:List Nat)(j:Nat)(hq:v*3≤(q.length:Int)):Gt (yl ⟨(zc v.toNat++q).take j,0⟩) v (zc v.toNat) q j:=by
 rcases QR (k:=3) (by decide) (by omega) h1 q j hq with ⟨hj,e⟩|⟨hj,e⟩
 ·refine .inl ⟨hj,?_⟩
  unfold yl
  rw [e,if_neg (by dsimp only;omega)]
 ·refine .inr ⟨hj,?_⟩
  unfold yl
  split
  ·dsimp only
   rw [jf (by rw [e];decide)]
   exact e
  ·exact e
theorem zaH{tot v:Int}(h0:0≤v)(h1:tot+v≤1048576)(ht:0≤tot)(q:List Nat)(j:Nat)(hq:v*2≤(q.length:Int)):Gt (zN tot ⟨(zc v.toNat++q).take j,0⟩) v (zc v.toNat) q j:=by
 rcases QR (k:=2) (by decide) h0 (by omega) q j hq with ⟨hj,e⟩|⟨hj,e⟩
 ·refine .inl ⟨hj,?_⟩
  unfold zN
  rw [e,if_neg (by dsimp only;omega)]
 ·refine .inr ⟨hj,?_⟩
  unfold zN
  split
  ·dsimp only
   rw [jf (by rw [e];decide)]
   exact e
  ·exact e
theorem zbZ{regs:Int}{m:Mi}(hd:m.dst=0)(hs:m.src=0)(h:eI m.ins regs=0)(hi:InI m.imm)(hr:regs≤1000000000){j:Nat}(hj:j<(zU m).length):zI regs ⟨(zU m).take j,0⟩=(Mi0,⟨[],1⟩):=by
 obtain ⟨⟨h1,h2⟩,hm⟩:=(UL (n:=0) hd hs).1 h
 rw [Ur] at hj⊢
 rcases j with _|j
 ·rfl
 ·rw [ly]
  unfold zI
  rw [Ja h1 h2 (by omega),if_neg (by simp)]
  have hj:j<(Yy m).length:=by simpa using hj
  rcases Yz hm hi hr (by omega) [] j with ⟨g,e⟩|⟨g,_⟩
  ·rw [lA] at e
   exact e
  ·omega
theorem zdT{regs:Int}{m:Mi}(hd:m.dst=0)(hs:m.src=0)(h:eI m.ins regs=0)(hi:InI m.imm)(hr:regs≤1000000000)(q:List Nat)(j:Nat):Gt (zI regs ⟨(zU m++q).take j,0⟩) m (zU m) q j:=by
 by_cases hj:j<(zU m).length
 ·refine .inr ⟨by rw [lc];omega,?_⟩
  rw [List.take_append_of_le_length (by omega),zbZ hd hs h hi hr hj]
 ·refine .inl ⟨by omega,?_⟩
  rw [List.take_append,List.take_of_length_le (by omega)]
  exact zbW hd hs h hi hr _
theorem zeY{regs n:Int}{m:Mi}(h:eM m regs n=0)(hi:InI m.imm)(hr:regs≤1000000000)(hn:n≤1000000000)(q:List Nat)(j:Nat):Gt (zt regs n ⟨(zU m++q).take j,0⟩) m (zU m) q j:=by
 by_cases hj:j<(zU m).length
 ·refine .inr ⟨by rw [lc];omega,?_⟩
  rw [List.take_append_of_le_length (by omega),zdR h hi hr hn hj]
 ·refine .inl ⟨by omega,?_⟩
  rw [List.take_append,List.take_of_length_le (by omega)]
  exact zdQ h hi hr hn _
theorem zaI{regs n:Int}{t:Tm}(h:eT t regs n=0)(hr:regs≤1000000000)(hn:n≤1000000000)(q:List Nat)(j:Nat):Gt (yL regs n ⟨(yf t++q).take j,0⟩) t (yf t) q j:=by
 by_cases hj:(yf t).length≤j
 ·refine .inl ⟨hj,?_⟩
  rw [List.take_append,List.take_of_length_le hj]
  exact zdS h hr hn _
 refine .inr ⟨by rw [lc];omega,?_⟩
 rw [List.take_append_of_le_length (by omega)]
 obtain ⟨⟨k1,k2⟩,r1,r2,r3,z1,z2,z3⟩:=YT.1 h
 have C1:=jC (why:=9) r1 z1 (by omega)
 have C2:=jC (why:=11) r2 z2 (by omega)
 have C3:=jC (why:=11) r3 z3 (by omega)
 have fin:∀s,(teE regs n s).2.err=1→(yL regs n s).2.err=1:=fun s hs=>by
  unfold yL
  rw [if_pos (by rw [hs];decide)]
  exact hs
 refine fin _ ?_
 rcases j with _|j
 ·have e0:tkE ⟨(yf t).take 0,0⟩=(0,⟨[],1⟩):=rfl
  have e1:taE regs ⟨(yf t).take 0,0⟩=(0,⟨[],1⟩):=by unfold taE;rw [e0];exact zZ (by decide)
  have e2:ttE regs n ⟨(yf t).take 0,0⟩=(0,⟨[],1⟩):=by unfold ttE;rw [e1];exact zZ (by decide)
  unfold teE
  rw [e2,zZ (by decide)]
 ·have hj':j<(zk (t.kind !=1) t.a++(zk (t.kind !=3) t.to++zk (t.kind==2) t.el)).length:=by
   unfold yf at hj
   rw [lp] at hj
   omega
  have e0:tkE ⟨(yf t).take (j+1),0⟩=(t.kind,⟨(zk (t.kind !=1) t.a++(zk (t.kind !=3) t.to++zk (t.kind==2) t.el)).take j,0⟩):=by
   unfold tkE yf
   rw [ly,Ja k1 k2 (by omega)]
  rcases C1.at_ (zk (t.kind !=3) t.to++zk (t.kind==2) t.el) j with ⟨g1,e1⟩|⟨g1,e1⟩
  ·have e1':taE regs ⟨(yf t).take (j+1),0⟩=(0,⟨[],1⟩):=by unfold taE;rw [e0];exact e1
   have e2':ttE regs n ⟨(yf t).take (j+1),0⟩=(0,⟨[],1⟩):=by unfold ttE;rw [e1'];exact zZ (by decide)
   unfold teE
   rw [e2',zZ (by decide)]
  ·have e1':taE regs ⟨(yf t).take (j+1),0⟩=(t.a,⟨(zk (t.kind !=3) t.to++zk (t.kind==2) t.el).take (j - (zk (t.kind !=1) t.a).length),0⟩):=by unfold taE;rw [e0];exact e1
   rcases C2.at_ (zk (t.kind==2) t.el) (j - (zk (t.kind !=1) t.a).length) with ⟨g2,e2⟩|⟨g2,e2⟩
   ·have e2':ttE regs n ⟨(yf t).take (j+1),0⟩=(0,⟨[],1⟩):=by unfold ttE;rw [e1',e0];exact e2
    unfold teE
    rw [e2',zZ (by decide)]
   ·have e2':ttE regs n ⟨(yf t).take (j+1),0⟩=(t.to,⟨(zk (t.kind==2) t.el).take (j - (zk (t.kind !=1) t.a).length - (zk (t.kind !=3) t.to).length),0⟩):=by unfold ttE;rw [e1',e0];exact e2
    have h3:j - (zk (t.kind !=1) t.a).length - (zk (t.kind !=3) t.to).length<(zk (t.kind==2) t.el).length:=by
     rw [lc,lc] at hj'
     omega
    have e3:=C3.cut _ h3
    unfold teE
    rw [e2',e0]
    show (jv (t.kind==2) n 11 _).2.err=1
    rw [e3]
theorem zaJ{m:Mi}(h:1≤m.op∧m.op≤18):2≤(zU m).length:=by
 rcases (by omega:m.op≤16∨m.op=17∨m.op=18) with h1|h1|h1
 ·have hd:uD m.op=true:=decide_eq_true ⟨h.1,h1⟩
  have:=yG m.d.toNat
  unfold zU
  rw [hd]
  simp only [lp,lc,zk,if_true]
  omega
 ·have hd:uA m.op=true:=decide_eq_true ⟨by omega,by omega⟩
  have:=yG m.a.toNat
  unfold zU
  rw [hd]
  simp only [lp,lc,zk,if_true]
  omega
 ·have hd:(m.op==18)=true:=by rw [h1];rfl
  have:=yG m.dst.toNat
  unfold zU
  rw [hd]
  simp only [lp,lc,zk,if_true]
  omega
theorem zaK{t:Tm}(h:1≤t.kind∧t.kind≤3):2≤(yf t).length:=by
 by_cases h1:t.kind=1
 ·have hd:(t.kind !=3)=true:=by rw [h1];rfl
  have:=yG t.to.toNat
  unfold yf
  rw [hd]
  simp only [lp,lc,zk,if_true]
  omega
 ·have hd:(t.kind !=1)=true:=by simpa using h1
  have:=yG t.a.toNat
  unfold yf
  rw [hd]
  simp only [lp,lc,zk,if_true]
  omega
theorem zaL{regs:Int}:∀(xs:List In),(∀x∈xs,eI x regs=0)→xs.length*2≤(yK xs).length
 | [],_=>lF _
 |x::r,h=>by
  have:=zaL r fun y hy=>h y (List.mem_cons_of_mem _ hy)
  obtain ⟨⟨o1,o2⟩,_⟩:=(UL (m:=inM x) (n:=0) rfl rfl).1 (h x lC)
  have h2:=zaJ (m:=inM x) ⟨o1,by omega⟩
  show (r.length+1)*2≤(zU (inM x)++yK r).length
  rw [lc]
  omega
theorem zaM{regs n:Int}:∀(xs:List Mi),(∀x∈xs,eM x regs n=0)→xs.length*2≤(yF xs).length
 | [],_=>lF _
 |x::r,h=>by
  have:=zaM r fun y hy=>h y (List.mem_cons_of_mem _ hy)
  obtain ⟨⟨o1,o2,_⟩,_⟩:=YS.1 (h x lC)
  have h2:=zaJ (m:=x) ⟨o1,o2⟩
  show (r.length+1)*2≤(zU x++yF r).length
  rw [lc]
  omega
theorem QS{regs:Int}:∀{xs:List In},eIs regs xs=0→∀x∈xs,eI x regs=0
 | [],_=>fun x hx=>by cases hx
 |y::r,h=>fun x hx=>by
  have h':(if eI y regs=0 then eIs regs r else eI y regs)=0:=h
  by_cases hy:eI y regs=0
  ·rw [if_pos hy] at h'
   rcases List.mem_cons.1 hx with rfl|hx
   ·exact hy
   ·exact QS h' x hx
  ·rw [if_neg hy] at h'
   exact absurd h' hy
theorem YA{regs slots:Int}:∀{run:Nat} {xs:List Mi},eCd regs slots run xs=0→∀x∈xs,eM x regs slots=0
 |_, [],_=>fun x hx=>by cases hx
 |run,y::r,h=>fun x hx=>by
  have h':(if eM y regs slots=0 then if 64<ext run y then 15 else eCd regs slots (ext run y) r else eM y regs slots)=0:=h
  by_cases hy:eM y regs slots=0
  ·rw [if_pos hy] at h'
   rcases List.mem_cons.1 hx with rfl|hx
   ·exact hy
   ·by_cases hx':64<ext run y
    ·rw [if_pos hx'] at h';cases h'
    ·rw [if_neg hx'] at h'
     exact YA h' x hx
  ·rw [if_neg hy] at h'
   exact absurd h' hy
theorem zc1{regs:Int}(hr:regs≤1000000000):∀(xs:List In),(∀x∈xs,eI x regs=0∧InI x.imm)→∀(q:List Nat) (j:Nat),Gt (yR regs xs.length ⟨(yK xs++q).take j,0⟩) xs (yK xs) q j
 | [],_,q,j=> .inl ⟨lF _,rfl⟩
 |x::r,h,q,j=>by
  obtain ⟨h1,h2⟩:=h x lC
  have e0:yK (x::r)++q=zU (inM x)++(yK r++q):=by
   show (zU (inM x)++yK r)++q=_
   rw [lg]
  have el:(yK (x::r)).length=(zU (inM x)).length+(yK r).length:=by
   show (zU (inM x)++yK r).length=_
   rw [lc]
  have g:=zdT (m:=inM x) rfl rfl h1 h2 hr (yK r++q) j
  rw [←e0] at g
  have e:yR regs (x::r).length ⟨(yK (x::r)++q).take j,0⟩=((zI regs ⟨(yK (x::r)++q).take j,0⟩).1.ins::(yR regs r.length (zI regs ⟨(yK (x::r)++q).take j,0⟩).2).1,(yR regs r.length (zI regs ⟨(yK (x::r)++q).take j,0⟩).2).2):=if_neg fun hh=>hh rfl
  rw [e]
  rcases g with ⟨g1,g2⟩|⟨g1,g2⟩
  ·rw [g2]
   dsimp only
   rcases zc1 hr r (fun y hy=>h y (List.mem_cons_of_mem _ hy)) q (j - (zU (inM x)).length) with ⟨k1,k2⟩|⟨k1,k2⟩
   ·refine .inl ⟨by omega,?_⟩
    rw [k2,el,←Nat.sub_sub]
    rfl
   ·refine .inr ⟨?_,k2⟩
    rw [lc] at k1⊢
    omega
  ·refine .inr ⟨by rw [e0];exact g1,?_⟩
   rw [jU (by rw [g2];decide)]
   exact g2
theorem zeZ{regs slots:Int}(hr:regs≤1000000000)(hn:slots≤1000000000):∀(xs:List Mi) (run:Nat),eCd regs slots run xs=0→(∀x∈xs,InI x.imm)→∀(q:List Nat) (j:Nat),Gt (miE regs slots xs.length run ⟨(yF xs++q).take j,0⟩) xs (yF xs) q j
 | [],_,_,_,q,j=> .inl ⟨lF _,rfl⟩
 |x::r,run,hc,h,q,j=>by
  have h1:=YA hc x lC
  have h2:=h x lC
  have hc':(if eM x regs slots=0 then if 64<ext run x then 15 else eCd regs slots (ext run x) r else eM x regs slots)=0:=hc
  rw [if_pos h1] at hc'
  have hx:¬64<ext run x:=fun hh=>by rw [if_pos hh] at hc';cases hc'
  rw [if_neg hx] at hc'
  have e0:yF (x::r)++q=zU x++(yF r++q):=by
   show (zU x++yF r)++q=_
   rw [lg]
  have el:(yF (x::r)).length=(zU x).length+(yF r).length:=by
   show (zU x++yF r).length=_
   rw [lc]
  have g:=zeY (m:=x) h1 h2 hr hn (yF r++q) j
  rw [←e0] at g
  have e:miE regs slots (x::r).length run ⟨(yF (x::r)++q).take j,0⟩=((zt regs slots ⟨(yF (x::r)++q).take j,0⟩).1::(miE regs slots r.length (ext run (zt regs slots ⟨(yF (x::r)++q).take j,0⟩).1) (mvE run (zt regs slots ⟨(yF (x::r)++q).take j,0⟩).1 (zt regs slots ⟨(yF (x::r)++q).take j,0⟩).2)).1,(miE regs slots r.length (ext run (zt regs slots ⟨(yF (x::r)++q).take j,0⟩).1) (mvE run (zt regs slots ⟨(yF (x::r)++q).take j,0⟩).1 (zt regs slots ⟨(yF (x::r)++q).take j,0⟩).2)).2):=if_neg fun hh=>hh rfl
  rw [e]
  rcases g with ⟨g1,g2⟩|⟨g1,g2⟩
  ·rw [g2]
   dsimp only
   rw [show∀t,mvE run x t=t from fun t=>if_neg hx]
   rcases zeZ hr hn r (ext run x) hc' (fun y hy=>h y (List.mem_cons_of_mem _ hy)) q (j - (zU x).length) with ⟨k1,k2⟩|⟨k1,k2⟩
   ·refine .inl ⟨by omega,?_⟩
    rw [k2,el,←Nat.sub_sub]
   ·refine .inr ⟨?_,k2⟩
    rw [lc] at k1⊢
    omega
  ·refine .inr ⟨by rw [e0];exact g1,?_⟩
   have hm:∀(m:Mi) (t:Ip),t.err=1→mvE run m t=t:=fun m t ht=>by
    unfold mvE
    split
    ·exact jf (by rw [ht];decide)
    ·rfl
   rw [hm _ _ g2,Jx (by rw [g2];decide)]
   exact g2
theorem zaN{regs n:Int}(hr:regs≤1000000000)(hn:n≤1000000000):∀(bs:List Blk) (tot:Int),0≤tot→tot+(zQ bs:Int)≤1048576→eBs regs n bs=0→(∀b∈bs,∀x∈b.code,InI x.imm)→∀(q:List Nat) (j:Nat),Gt (zY regs n bs.length tot ⟨(zG bs++q).take j,0⟩) bs (zG bs) q j
 | [],_,_,_,_,_,q,j=> .inl ⟨lF _,rfl⟩
 |b::r,tot,ht,hc,he,hi,q,j=>by
  have he':(if eB b regs n=0 then eBs regs n r else eB b regs n)=0:=he
  have hb:eB b regs n=0:=by
   by_cases h9:eB b regs n=0
   ·exact h9
   ·rw [if_neg h9] at he';exact he'
  rw [if_pos hb] at he'
  have hI:eIs regs b.code=0:=by
   by_cases h9:eIs regs b.code=0
   ·exact h9
   ·unfold eB at hb;rw [if_neg h9] at hb;exact hb
  have hT:eT b.term regs n=0:=by unfold eB at hb;rw [if_pos hI] at hb;exact hb
  have hall:=QS hI
  rw [jX] at hc
  have e0:zG (b::r)++q=zc (b.code.length:Int).toNat++(yK b.code++(yf b.term++(zG r++q))):=by
   show (Jw b++zG r)++q=_
   unfold Jw
   simp only [lg,Int.toNat_natCast]
  have el:(zG (b::r)).length=(zc (b.code.length:Int).toNat).length+(yK b.code).length+(yf b.term).length+(zG r).length:=by
   show (Jw b++zG r).length=_
   unfold Jw
   simp only [lc,Int.toNat_natCast]
   omega
  have el2:(zG (b::r)++q).length=(zG (b::r)).length+q.length:=lc
  have e:∀s:Ip,s.err=0→zY regs n (b::r).length tot s=(⟨(yY regs tot s).1,(yZ regs n tot s).1⟩::(zY regs n r.length (tot+yJ tot s) (yZ regs n tot s).2).1,(zY regs n r.length (tot+yJ tot s) (yZ regs n tot s).2).2):=fun s hs=>if_neg fun hh=>hh hs
  have hfin:∀s:Ip,s.err=0→(yZ regs n tot s).2.err=1→(zY regs n (b::r).length tot s).2.err=1:=fun s hs h9=>by
   rw [e s hs]
   dsimp only
   rw [ja (by rw [h9];decide)]
   exact h9
  have g:=zaH (tot:=tot) (v:=(b.code.length:Int)) (by omega) (by omega) ht (yK b.code++(yf b.term++(zG r++q))) j (by
   have:=zaL b.code hall
   rw [lc]
   omega)
  rw [←e0] at g
  obtain ⟨s,hs⟩:∃s:Ip,s=⟨(zG (b::r)++q).take j,0⟩:=⟨_,rfl⟩
  rw [←hs] at g⊢
  have hs0:s.err=0:=by rw [hs]
  have ef:(zc (b.code.length:Int).toNat++(yK b.code++(yf b.term++(zG r++q)))).length=(zG (b::r)).length+q.length:=by rw [←e0,el2]
  rcases g with ⟨g1,g2⟩|⟨g1,g2⟩
  ·have hK:yJ tot s=(b.code.length:Int):=by unfold yJ;rw [g2]
   have hblkI:yY regs tot s=yR regs b.code.length ⟨(yK b.code++(yf b.term++(zG r++q))).take (j - (zc (b.code.length:Int).toNat).length),0⟩:=by
    unfold yY
    rw [g2]
    rfl
   rcases zc1 hr b.code (fun x hx=>⟨hall x hx,hi b lC x hx⟩) (yf b.term++(zG r++q)) (j - (zc (b.code.length:Int).toNat).length) with ⟨i1,i2⟩|⟨i1,i2⟩
   ·rw [←hblkI] at i2
    have hblkT:yZ regs n tot s=yL regs n ⟨(yf b.term++(zG r++q)).take (j - (zc (b.code.length:Int).toNat).length - (yK b.code).length),0⟩:=by
     unfold yZ
     rw [i2]
    rcases zaI hT hr hn (zG r++q) (j - (zc (b.code.length:Int).toNat).length - (yK b.code).length) with ⟨k1,k2⟩|⟨k1,k2⟩
    ·rw [←hblkT] at k2
     rcases zaN hr hn r (tot+(b.code.length:Int)) (by omega) (by omega) he' (fun y hy=>hi y (List.mem_cons_of_mem _ hy)) q (j - (zc (b.code.length:Int).toNat).length - (yK b.code).length - (yf b.term).length) with ⟨m1,m2⟩|⟨m1,m2⟩
     ·refine .inl ⟨by omega,?_⟩
      rw [e s hs0,hK,k2]
      dsimp only
      rw [m2,i2,el]
      dsimp only
      rw [show j - ((zc (b.code.length:Int).toNat).length+(yK b.code).length+(yf b.term).length+(zG r).length)=j - (zc (b.code.length:Int).toNat).length - (yK b.code).length - (yf b.term).length - (zG r).length by omega]
     ·refine .inr ⟨?_,?_⟩
      ·rw [lc] at m1
       omega
      ·rw [e s hs0,hK,k2]
       exact m2
    ·rw [←hblkT] at k2
     refine .inr ⟨?_,hfin s hs0 k2⟩
     rw [lc,lc] at k1
     omega
   ·rw [←hblkI] at i2
    refine .inr ⟨?_,hfin s hs0 ?_⟩
    ·rw [lc,lc,lc] at i1
     omega
    ·unfold yZ
     rw [jL (by rw [i2];decide)]
     exact i2
  ·refine .inr ⟨by rw [←e0] at g1;exact g1,hfin s hs0 ?_⟩
   have hblkI:(yY regs tot s).2.err=1:=by
    unfold yY
    rw [jU (by rw [g2];decide)]
    exact g2
   unfold yZ
   rw [jL (by rw [hblkI];decide)]
   exact hblkI
theorem Ql{regs slots n:Int}(hr:regs≤1000000000)(hsl:slots≤1000000000)(hn:n≤1000000000):∀(bs:List MBlk) (tot:Int),0≤tot→tot+(zF bs:Int)≤1048576→jY regs slots n bs=0→(∀b∈bs,∀x∈b.code,InI x.imm)→∀(q:List Nat) (j:Nat),Gt (zK regs slots n bs.length tot ⟨(zo bs++q).take j,0⟩) bs (zo bs) q j
 | [],_,_,_,_,_,q,j=> .inl ⟨lF _,rfl⟩
 |b::r,tot,ht,hc,he,hi,q,j=>by
  have he':(if eMB b regs slots n=0 then jY regs slots n r else eMB b regs slots n)=0:=he
  have hb:eMB b regs slots n=0:=by
   by_cases h9:eMB b regs slots n=0
   ·exact h9
   ·rw [if_neg h9] at he';exact he'
  rw [if_pos hb] at he'
  have hI:eCd regs slots 0 b.code=0:=by
   by_cases h9:eCd regs slots 0 b.code=0
   ·exact h9
   ·unfold eMB at hb;rw [if_neg h9] at hb;exact hb
  have hT:eT b.term regs n=0:=by unfold eMB at hb;rw [if_pos hI] at hb;exact hb
  have hall:=YA hI
  rw [jJ] at hc
  have e0:zo (b::r)++q=zc (b.code.length:Int).toNat++(yF b.code++(yf b.term++(zo r++q))):=by
   show (js b++zo r)++q=_
   unfold js
   simp only [lg,Int.toNat_natCast]
  have el:(zo (b::r)).length=(zc (b.code.length:Int).toNat).length+(yF b.code).length+(yf b.term).length+(zo r).length:=by
   show (js b++zo r).length=_
   unfold js
   simp only [lc,Int.toNat_natCast]
   omega
  have el2:(zo (b::r)++q).length=(zo (b::r)).length+q.length:=lc
  have e:∀s:Ip,s.err=0→zK regs slots n (b::r).length tot s=(⟨(ym regs slots tot s).1,(yr regs slots n tot s).1⟩::(zK regs slots n r.length (tot+yJ tot s) (yr regs slots n tot s).2).1,(zK regs slots n r.length (tot+yJ tot s) (yr regs slots n tot s).2).2):=fun s hs=>if_neg fun hh=>hh hs
  have hfin:∀s:Ip,s.err=0→(yr regs slots n tot s).2.err=1→(zK regs slots n (b::r).length tot s).2.err=1:=fun s hs h9=>by
   rw [e s hs]
   dsimp only
   rw [yP (by rw [h9];decide)]
   exact h9
  have g:=zaH (tot:=tot) (v:=(b.code.length:Int)) (by omega) (by omega) ht (yF b.code++(yf b.term++(zo r++q))) j (by
   have:=zaM b.code hall
   rw [lc]
   omega)
  rw [←e0] at g
  obtain ⟨s,hs⟩:∃s:Ip,s=⟨(zo (b::r)++q).take j,0⟩:=⟨_,rfl⟩
  rw [←hs] at g⊢
  have hs0:s.err=0:=by rw [hs]
  have ef:(zc (b.code.length:Int).toNat++(yF b.code++(yf b.term++(zo r++q)))).length=(zo (b::r)).length+q.length:=by rw [←e0,el2]
  rcases g with ⟨g1,g2⟩|⟨g1,g2⟩
  ·have hK:yJ tot s=(b.code.length:Int):=by unfold yJ;rw [g2]
   have hmblkI:ym regs slots tot s=miE regs slots b.code.length 0 ⟨(yF b.code++(yf b.term++(zo r++q))).take (j - (zc (b.code.length:Int).toNat).length),0⟩:=by
    unfold ym
    rw [g2]
    rfl
   rcases zeZ hr hsl b.code 0 hI (hi b lC) (yf b.term++(zo r++q)) (j - (zc (b.code.length:Int).toNat).length) with ⟨i1,i2⟩|⟨i1,i2⟩
   ·rw [←hmblkI] at i2
    have hmblkT:yr regs slots n tot s=yL regs n ⟨(yf b.term++(zo r++q)).take (j - (zc (b.code.length:Int).toNat).length - (yF b.code).length),0⟩:=by
     unfold yr
     rw [i2]
    rcases zaI hT hr hn (zo r++q) (j - (zc (b.code.length:Int).toNat).length - (yF b.code).length) with ⟨k1,k2⟩|⟨k1,k2⟩
    ·rw [←hmblkT] at k2
     rcases Ql hr hsl hn r (tot+(b.code.length:Int)) (by omega) (by omega) he' (fun y hy=>hi y (List.mem_cons_of_mem _ hy)) q (j - (zc (b.code.length:Int).toNat).length - (yF b.code).length - (yf b.term).length) with ⟨m1,m2⟩|⟨m1,m2⟩
     ·refine .inl ⟨by omega,?_⟩
      rw [e s hs0,hK,k2]
      dsimp only
      rw [m2,i2,el]
      dsimp only
      rw [show j - ((zc (b.code.length:Int).toNat).length+(yF b.code).length+(yf b.term).length+(zo r).length)=j - (zc (b.code.length:Int).toNat).length - (yF b.code).length - (yf b.term).length - (zo r).length by omega]
     ·refine .inr ⟨?_,?_⟩
      ·rw [lc] at m1
       omega
      ·rw [e s hs0,hK,k2]
       exact m2
    ·rw [←hmblkT] at k2
     refine .inr ⟨?_,hfin s hs0 k2⟩
     rw [lc,lc] at k1
     omega
   ·rw [←hmblkI] at i2
    refine .inr ⟨?_,hfin s hs0 ?_⟩
    ·rw [lc,lc,lc] at i1
     omega
    ·unfold yr
     rw [jL (by rw [i2];decide)]
     exact i2
  ·refine .inr ⟨by rw [←e0] at g1;exact g1,hfin s hs0 ?_⟩
   have hmblkI:(ym regs slots tot s).2.err=1:=by
    unfold ym
    rw [Jx (by rw [g2];decide)]
    exact g2
   unfold yr
   rw [jL (by rw [hmblkI];decide)]
   exact hmblkI
theorem Ub{regs n:Int}:∀(bs:List Blk),eBs regs n bs=0→bs.length*3≤(zG bs).length
 | [],_=>lF _
 |b::r,he=>by
  have he':(if eB b regs n=0 then eBs regs n r else eB b regs n)=0:=he
  have hb:eB b regs n=0:=by
   by_cases h9:eB b regs n=0
   ·exact h9
   ·rw [if_neg h9] at he';exact he'
  rw [if_pos hb] at he'
  have hI:eIs regs b.code=0:=by
   by_cases h9:eIs regs b.code=0
   ·exact h9
   ·unfold eB at hb;rw [if_neg h9] at hb;exact hb
  have hT:eT b.term regs n=0:=by unfold eB at hb;rw [if_pos hI] at hb;exact hb
  have h2:=zaK (YT.1 hT).1
  have:=Ub r he'
  have h1:=yG b.code.length
  show (r.length+1)*3≤(Jw b++zG r).length
  unfold Jw
  simp only [lc]
  omega
theorem YB{regs slots n:Int}:∀(bs:List MBlk),jY regs slots n bs=0→bs.length*3≤(zo bs).length
 | [],_=>lF _
 |b::r,he=>by
  have he':(if eMB b regs slots n=0 then jY regs slots n r else eMB b regs slots n)=0:=he
  have hb:eMB b regs slots n=0:=by
   by_cases h9:eMB b regs slots n=0
   ·exact h9
   ·rw [if_neg h9] at he';exact he'
  rw [if_pos hb] at he'
  have hI:eCd regs slots 0 b.code=0:=by
   by_cases h9:eCd regs slots 0 b.code=0
   ·exact h9
   ·unfold eMB at hb;rw [if_neg h9] at hb;exact hb
  have hT:eT b.term regs n=0:=by unfold eMB at hb;rw [if_pos hI] at hb;exact hb
  have h2:=zaK (YT.1 hT).1
  have:=YB r he'
  have h1:=yG b.code.length
  show (r.length+1)*3≤(js b++zo r).length
  unfold js
  simp only [lc]
  omega
theorem zc2{args regs:Int}{bs:List Blk}(h:eSz args regs bs=0):0≤args∧args≤regs∧regs≤1048576∧1≤bs.length∧bs.length≤1048576∧zQ bs≤1048576:=by
 unfold eSz at h
 split at h
 ·cases h
 ·split at h
  ·cases h
  ·split at h
   ·cases h
   ·split at h
    ·cases h
    ·omega
theorem UO{args regs slots:Int}{bs:List MBlk}(h:JO args regs slots bs=0):0≤args∧args≤slots∧0≤regs∧regs≤1048576∧slots≤1048576∧1≤bs.length∧bs.length≤1048576∧zF bs≤1048576:=by
 unfold JO at h
 split at h
 ·cases h
 ·split at h
  ·cases h
  ·split at h
   ·cases h
   ·split at h
    ·cases h
    ·split at h
     ·cases h
     ·omega
theorem ze0{f:Fd}(hf:eF f.args f.regs f.bs=0)(hi:∀b∈f.bs,∀x∈b.code,InI x.imm)(q:List Nat)(j:Nat):Gt (zJ ⟨(zO f++q).take j,0⟩) f (zO f) q j:=by
 have hz:eSz f.args f.regs f.bs=0:=by
  by_cases h9:eSz f.args f.regs f.bs=0
  ·exact h9
  ·unfold eF at hf;rw [if_neg h9] at hf;exact absurd hf h9
 have hB:eBs f.regs f.bs.length f.bs=0:=by unfold eF at hf;rw [if_pos hz] at hf;exact hf
 obtain ⟨z1,z2,z3,z4,z5,z6⟩:=zc2 hz
 have h3:=Ub f.bs hB
 have fin:∀s:Ip,(fB s).2.err=1→(zJ s).2.err=1:=fun s hs=>by
  unfold zJ
  rw [if_pos (by rw [hs];decide)]
  exact hs
 have e0:zO f++q=zc f.args.toNat++(zc f.regs.toNat++(zc (f.bs.length:Int).toNat++(zG f.bs++q))):=by
  unfold zO
  simp only [lg,Int.toNat_natCast]
 have el:(zO f).length=(zc f.args.toNat).length+(zc f.regs.toNat).length+(zc (f.bs.length:Int).toNat).length+(zG f.bs).length:=by
  unfold zO
  simp only [lc,Int.toNat_natCast]
  omega
 have el2:(zO f++q).length=(zO f).length+q.length:=lc
 obtain ⟨s,hs⟩:∃s:Ip,s=⟨(zO f++q).take j,0⟩:=⟨_,rfl⟩
 rw [←hs]
 have errN:(fC s).err=1→(zJ s).2.err=1:=fun h9=>fin s (by
  have hN:fN s=(0,fC s):=ZV (by rw [h9];decide)
  unfold fB
  rw [hN,ja (by rw [h9];decide)]
  exact h9)
 have errC:(fR' s).2.err=1→(zJ s).2.err=1:=fun h9=>errN (by
  unfold fC
  split
  ·rw [jf (by rw [h9];decide)]
   exact h9
  ·exact h9)
 have errR:=errC
 have errA:(fA s).2.err=1→(zJ s).2.err=1:=fun h9=>errR (by
  unfold fR'
  rw [Jb (by rw [h9];decide)]
  exact h9)
 have full:∀k,k<(zO f).length+q.length - (j - k)→True:=fun _ _=>trivial
 clear full
 have gA:=J6 (v:=f.args) (by omega) (by omega) (zc f.regs.toNat++(zc (f.bs.length:Int).toNat++(zG f.bs++q))) j
 rw [←e0,←hs] at gA
 rcases gA with ⟨a1,a2⟩|⟨a1,a2⟩
 case inr=>exact .inr ⟨by rw [←e0] at a1;exact a1,errA a2⟩
 have hA:fA s=(f.args,⟨(zc f.regs.toNat++(zc (f.bs.length:Int).toNat++(zG f.bs++q))).take (j - (zc f.args.toNat).length),0⟩):=a2
 have gR:=J6 (v:=f.regs) (by omega) (by omega) (zc (f.bs.length:Int).toNat++(zG f.bs++q)) (j - (zc f.args.toNat).length)
 have hR0:fR' s=zR ⟨(zc f.regs.toNat++(zc (f.bs.length:Int).toNat++(zG f.bs++q))).take (j - (zc f.args.toNat).length),0⟩:=by unfold fR';rw [hA]
 rw [←hR0] at gR
 rcases gR with ⟨b1,hR⟩|⟨b1,b2⟩
 case inr=>exact .inr ⟨by simp only [lc] at b1 el2⊢;omega,errR b2⟩
 have hC:fC s=⟨(zc (f.bs.length:Int).toNat++(zG f.bs++q)).take (j - (zc f.args.toNat).length - (zc f.regs.toNat).length),0⟩:=by
  unfold fC
  rw [hR,hA,if_neg (by dsimp only;omega)]
 have gN':=zaG (v:=(f.bs.length:Int)) (by omega) (by omega) (zG f.bs++q) (j - (zc f.args.toNat).length - (zc f.regs.toNat).length) (by rw [lc];omega)
 have hN0:fN s=yl ⟨(zc (f.bs.length:Int).toNat++(zG f.bs++q)).take (j - (zc f.args.toNat).length - (zc f.regs.toNat).length),0⟩:=by unfold fN;rw [hC]
 rw [←hN0] at gN'
 rcases gN' with ⟨d1,hN⟩|⟨d1,d2⟩
 case inr=>
  refine .inr ⟨by simp only [lc] at d1 el2⊢;omega,fin s ?_⟩
  unfold fB
  rw [ja (by rw [d2];decide)]
  exact d2
 have gB':=zaN (regs:=f.regs) (n:=(f.bs.length:Int)) (by omega) (by omega) f.bs 0 (by decide) (by omega) hB hi q ((j - (zc f.args.toNat).length - (zc f.regs.toNat).length) - (zc (f.bs.length:Int).toNat).length)
 have hB0:fB s=zY f.regs (f.bs.length:Int) f.bs.length 0 ⟨(zG f.bs++q).take ((j - (zc f.args.toNat).length - (zc f.regs.toNat).length) - (zc (f.bs.length:Int).toNat).length),0⟩:=by
  unfold fB
  rw [hN,hR]
  rfl
 rw [←hB0] at gB'
 rcases gB' with ⟨e1,hBB⟩|⟨e1,e2⟩
 case inr=>exact .inr ⟨by simp only [lc] at e1 el2⊢;omega,fin s e2⟩
 refine .inl ⟨by omega,?_⟩
 unfold zJ
 rw [hBB,if_neg (by simp),hA,hR]
 dsimp only
 rw [el]
 rw [show j - ((zc f.args.toNat).length+(zc f.regs.toNat).length+(zc (f.bs.length:Int).toNat).length+(zG f.bs).length)=(j - (zc f.args.toNat).length - (zc f.regs.toNat).length) - (zc (f.bs.length:Int).toNat).length - (zG f.bs).length by omega]
theorem zdU{f:Gd}(hf:eMF f.args f.regs f.slots f.ms=0)(hi:∀b∈f.ms,∀x∈b.code,InI x.imm)(q:List Nat)(j:Nat):Gt (zq ⟨(yz f++q).take j,0⟩) f (yz f) q j:=by
 have hz:JO f.args f.regs f.slots f.ms=0:=by
  by_cases h9:JO f.args f.regs f.slots f.ms=0
  ·exact h9
  ·unfold eMF at hf;rw [if_neg h9] at hf;exact absurd hf h9
 have hB:jY f.regs f.slots f.ms.length f.ms=0:=by unfold eMF at hf;rw [if_pos hz] at hf;exact hf
 obtain ⟨z1,z2,z3,z4,z5,z6,z7,z8⟩:=UO hz
 have h3:=YB f.ms hB
 have fin:∀s:Ip,(gB s).2.err=1→(zq s).2.err=1:=fun s hs=>by
  unfold zq
  rw [if_pos (by rw [hs];decide)]
  exact hs
 have e0:yz f++q=zc f.args.toNat++(zc f.regs.toNat++(zc f.slots.toNat++(zc (f.ms.length:Int).toNat++(zo f.ms++q)))):=by
  unfold yz
  simp only [lg,Int.toNat_natCast]
 have el:(yz f).length=(zc f.args.toNat).length+(zc f.regs.toNat).length+(zc f.slots.toNat).length+(zc (f.ms.length:Int).toNat).length+(zo f.ms).length:=by
  unfold yz
  simp only [lc,Int.toNat_natCast]
  omega
 have el2:(yz f++q).length=(yz f).length+q.length:=lc
 obtain ⟨s,hs⟩:∃s:Ip,s=⟨(yz f++q).take j,0⟩:=⟨_,rfl⟩
 rw [←hs]
 have errN:(gC s).err=1→(zq s).2.err=1:=fun h9=>fin s (by
  have hN:gN s=(0,gC s):=ZV (by rw [h9];decide)
  unfold gB
  rw [hN,yP (by rw [h9];decide)]
  exact h9)
 have errC:(gS s).2.err=1→(zq s).2.err=1:=fun h9=>errN (by
  unfold gC
  split
  ·rw [jf (by rw [h9];decide)]
   exact h9
  ·exact h9)
 have errR:(fR' s).2.err=1→(zq s).2.err=1:=fun h9=>errC (by
  unfold gS
  rw [Jb (by rw [h9];decide)]
  exact h9)
 have errA:(fA s).2.err=1→(zq s).2.err=1:=fun h9=>errR (by
  unfold fR'
  rw [Jb (by rw [h9];decide)]
  exact h9)
 have full:∀k,k<(yz f).length+q.length - (j - k)→True:=fun _ _=>trivial
 clear full
 have gA:=J6 (v:=f.args) (by omega) (by omega) (zc f.regs.toNat++(zc f.slots.toNat++(zc (f.ms.length:Int).toNat++(zo f.ms++q)))) j
 rw [←e0,←hs] at gA
 rcases gA with ⟨a1,a2⟩|⟨a1,a2⟩
 case inr=>exact .inr ⟨by rw [←e0] at a1;exact a1,errA a2⟩
 have hA:fA s=(f.args,⟨(zc f.regs.toNat++(zc f.slots.toNat++(zc (f.ms.length:Int).toNat++(zo f.ms++q)))).take (j - (zc f.args.toNat).length),0⟩):=a2
 have gR:=J6 (v:=f.regs) (by omega) (by omega) (zc f.slots.toNat++(zc (f.ms.length:Int).toNat++(zo f.ms++q))) (j - (zc f.args.toNat).length)
 have hR0:fR' s=zR ⟨(zc f.regs.toNat++(zc f.slots.toNat++(zc (f.ms.length:Int).toNat++(zo f.ms++q)))).take (j - (zc f.args.toNat).length),0⟩:=by unfold fR';rw [hA]
 rw [←hR0] at gR
 rcases gR with ⟨b1,hR⟩|⟨b1,b2⟩
 case inr=>exact .inr ⟨by simp only [lc] at b1 el2⊢;omega,errR b2⟩
 have gS':=J6 (v:=f.slots) (by omega) (by omega) (zc (f.ms.length:Int).toNat++(zo f.ms++q)) (j - (zc f.args.toNat).length - (zc f.regs.toNat).length)
 have hS0:gS s=zR ⟨(zc f.slots.toNat++(zc (f.ms.length:Int).toNat++(zo f.ms++q))).take (j - (zc f.args.toNat).length - (zc f.regs.toNat).length),0⟩:=by unfold gS;rw [hR]
 rw [←hS0] at gS'
 rcases gS' with ⟨c1,hL⟩|⟨c1,c2⟩
 case inr=>exact .inr ⟨by simp only [lc] at c1 el2⊢;omega,errC c2⟩
 have hC:gC s=⟨(zc (f.ms.length:Int).toNat++(zo f.ms++q)).take ((j - (zc f.args.toNat).length - (zc f.regs.toNat).length) - (zc f.slots.toNat).length),0⟩:=by
  unfold gC
  rw [hL,hA,if_neg (by dsimp only;omega)]
 have gN':=zaG (v:=(f.ms.length:Int)) (by omega) (by omega) (zo f.ms++q) ((j - (zc f.args.toNat).length - (zc f.regs.toNat).length) - (zc f.slots.toNat).length) (by rw [lc];omega)
 have hN0:gN s=yl ⟨(zc (f.ms.length:Int).toNat++(zo f.ms++q)).take ((j - (zc f.args.toNat).length - (zc f.regs.toNat).length) - (zc f.slots.toNat).length),0⟩:=by unfold gN;rw [hC]
 rw [←hN0] at gN'
 rcases gN' with ⟨d1,hN⟩|⟨d1,d2⟩
 case inr=>
  refine .inr ⟨by simp only [lc] at d1 el2⊢;omega,fin s ?_⟩
  unfold gB
  rw [yP (by rw [d2];decide)]
  exact d2
 have gB':=Ql (regs:=f.regs) (slots:=f.slots) (n:=(f.ms.length:Int)) (by omega) (by omega) (by omega) f.ms 0 (by decide) (by omega) hB hi q (((j - (zc f.args.toNat).length - (zc f.regs.toNat).length) - (zc f.slots.toNat).length) - (zc (f.ms.length:Int).toNat).length)
 have hB0:gB s=zK f.regs f.slots (f.ms.length:Int) f.ms.length 0 ⟨(zo f.ms++q).take (((j - (zc f.args.toNat).length - (zc f.regs.toNat).length) - (zc f.slots.toNat).length) - (zc (f.ms.length:Int).toNat).length),0⟩:=by
  unfold gB
  rw [hN,hR,hL]
  rfl
 rw [←hB0] at gB'
 rcases gB' with ⟨e1,hBB⟩|⟨e1,e2⟩
 case inr=>exact .inr ⟨by simp only [lc] at e1 el2⊢;omega,fin s e2⟩
 refine .inl ⟨by omega,?_⟩
 unfold zq
 rw [hBB,if_neg (by simp),hA,hR,hL]
 dsimp only
 rw [el]
 rw [show j - ((zc f.args.toNat).length+(zc f.regs.toNat).length+(zc f.slots.toNat).length+(zc (f.ms.length:Int).toNat).length+(zo f.ms).length)=((j - (zc f.args.toNat).length - (zc f.regs.toNat).length) - (zc f.slots.toNat).length) - (zc (f.ms.length:Int).toNat).length - (zo f.ms).length by omega]
theorem zdV{f:Fd}(hf:eF f.args f.regs f.bs=0)(hi:∀b∈f.bs,∀x∈b.code,InI x.imm)(q:List Nat):zJ ⟨zO f++q,0⟩=(f,⟨q,0⟩):=(ze0 hf hi q _).full
theorem zb0{g:Gd}(hg:eMF g.args g.regs g.slots g.ms=0)(hi:∀b∈g.ms,∀x∈b.code,InI x.imm)(q:List Nat):zq ⟨yz g++q,0⟩=(g,⟨q,0⟩):=(zdU hg hi q _).full
theorem UP{v r n:Int}(h:yd v r n=true)(hr:r≤1000000000)(hn:n≤1000000000):0≤v∧v≤10000000000:=by
 have h0:=Ju h
 unfold yd at h
 rw [if_neg (by omega)] at h
 split at h
 ·have:=of_decide_eq_true h;omega
 ·have:=of_decide_eq_true h;omega
theorem MOk.rng18{r n:Int}{m:Mi}(h:MOk r n m)(hr:r≤1000000000)(hn:n≤1000000000):
  (0≤m.d∧m.d≤10000000000)∧(0≤m.a∧m.a≤10000000000)∧(0≤m.b∧m.b≤10000000000)∧(0≤m.dst∧m.dst≤10000000000)∧(0≤m.src∧m.src≤10000000000):=by
 have h1:=JW.1 h.r1
 have h2:=JW.1 h.r2
 have h3:=JW.1 h.r3
 have z1:=j9.1 h.z1
 have z2:=j9.1 h.z2
 have z3:=j9.1 h.z3
 have l1:=h.l1
 have l2:=h.l2
 refine ⟨?_,?_,?_,?_,?_⟩
 ·cases hb:uD m.op
  ·rw [z1 hb];decide
  ·have:=h1 hb;omega
 ·cases hb:uA m.op
  ·rw [z2 hb];decide
  ·have:=h2 hb;omega
 ·cases hb:uB m.op
  ·rw [z3 hb];decide
  ·have:=h3 hb;omega
 ·cases hb:(m.op==18)
  ·rw [l1.2 hb];decide
  ·exact UP (l1.1 hb) hr hn
 ·cases hb:(m.op==18)
  ·rw [l2.2 hb];decide
  ·exact UP (l2.1 hb) hr hn
theorem MOk.pi{r n:Int}{m:Mi}(h:MOk r n m)(hr:r≤1000000000)(hn:n≤1000000000)(ho:1≤m.op∧m.op≤18)(hi:InI m.imm):PI m:=by
 obtain ⟨h1,h2,h3,h4,h5⟩:=h.rng18 hr hn
 exact ⟨by omega,hi,fun _=>by omega,fun _=>by omega,fun _=>by omega,fun _=>by omega,fun _=>by omega⟩
theorem zgQ{t:Tm}{r n:Int}(h:eT t r n=0)(hr:r≤1000000000)(hn:n≤1000000000):(1≤t.kind∧t.kind≤3)∧PT t:=by
 obtain ⟨h0,h1,h2,h3,_,_,_⟩:=YT.1 h
 have g1:=JW.1 h1;have g2:=JW.1 h2;have g3:=JW.1 h3
 exact ⟨h0,by omega,fun hh=>by have:=g1 hh;omega,fun hh=>by have:=g2 hh;omega,fun hh=>by have:=g3 hh;omega⟩
def VB(x:Blk):Prop:=(∀y∈x.code,(1≤y.op∧y.op≤17)∧PI (inM y))∧(1≤x.term.kind∧x.term.kind≤3)∧PT x.term
def VMB(x:MBlk):Prop:=(∀y∈x.code,(1≤y.op∧y.op≤18)∧PI y)∧(1≤x.term.kind∧x.term.kind≤3)∧PT x.term
theorem VB.pb{x:Blk}(h:VB x):PB x:=⟨fun y hy=>(h.1 y hy).2,h.2.2⟩
theorem VMB.pb{x:MBlk}(h:VMB x):PMB x:=⟨fun y hy=>(h.1 y hy).2,h.2.2⟩
theorem ze1{regs n:Int}(hr:regs≤1000000000)(hn:n≤1000000000):∀(bs:List Blk),eBs regs n bs=0→(∀b∈bs,∀x∈b.code,InI x.imm)→∀b∈bs,VB b
 | [],_,_,b,hb=>by cases hb
 |b::r,he,hi,c,hc=>by
  have he':(if eB b regs n=0 then eBs regs n r else eB b regs n)=0:=he
  have hb:eB b regs n=0:=by
   by_cases h9:eB b regs n=0
   ·exact h9
   ·rw [if_neg h9] at he';exact he'
  rw [if_pos hb] at he'
  rcases List.mem_cons.1 hc with rfl|hc
  ·have hI:eIs regs c.code=0:=by
    by_cases h9:eIs regs c.code=0
    ·exact h9
    ·unfold eB at hb;rw [if_neg h9] at hb;exact hb
   have hT:eT c.term regs n=0:=by unfold eB at hb;rw [if_pos hI] at hb;exact hb
   have hall:=QS hI
   obtain ⟨t1,t2⟩:=zgQ hT hr hn
   refine ⟨fun y hy=> ?_,t1,t2⟩
   have h1:eI (inM y).ins regs=0:=hall y hy
   obtain ⟨h2,h3⟩:=(UL (n:=0) (m:=inM y) rfl rfl).1 h1
   exact ⟨h2,h3.pi hr (by omega) ⟨h2.1,by omega⟩ (hi c lC y hy)⟩
  ·exact ze1 hr hn r he' (fun b hb=>hi b (List.mem_cons_of_mem _ hb)) c hc
theorem zc3{regs slots n:Int}(hr:regs≤1000000000)(hsl:slots≤1000000000)(hn:n≤1000000000):∀(bs:List MBlk),jY regs slots n bs=0→(∀b∈bs,∀x∈b.code,InI x.imm)→∀b∈bs,VMB b
 | [],_,_,b,hb=>by cases hb
 |b::r,he,hi,c,hc=>by
  have he':(if eMB b regs slots n=0 then jY regs slots n r else eMB b regs slots n)=0:=he
  have hb:eMB b regs slots n=0:=by
   by_cases h9:eMB b regs slots n=0
   ·exact h9
   ·rw [if_neg h9] at he';exact he'
  rw [if_pos hb] at he'
  rcases List.mem_cons.1 hc with rfl|hc
  ·have hI:eCd regs slots 0 c.code=0:=by
    by_cases h9:eCd regs slots 0 c.code=0
    ·exact h9
    ·unfold eMB at hb;rw [if_neg h9] at hb;exact hb
   have hT:eT c.term regs n=0:=by unfold eMB at hb;rw [if_pos hI] at hb;exact hb
   have hall:=YA hI
   obtain ⟨t1,t2⟩:=zgQ hT hr hn
   refine ⟨fun y hy=> ?_,t1,t2⟩
   obtain ⟨⟨o1,o2,o3⟩,h3⟩:=YS.1 (hall y hy)
   exact ⟨⟨o1,o2⟩,h3.pi hr hsl ⟨o1,o2⟩ (hi c lC y hy)⟩
  ·exact zc3 hr hsl hn r he' (fun b hb=>hi b (List.mem_cons_of_mem _ hb)) c hc
theorem ji{b:Bool}{v:Int}:(zk b v).length≤10:=by
 have:=JR (l:= []) (n:=0) (by simp) (b:=b) (v:=v)
 simpa using this
theorem Zh(m:Mi):(zU m).length≤61:=by
 unfold zU
 have h1:=ji (b:=uD m.op) (v:=m.d)
 have h2:=ji (b:=uA m.op) (v:=m.a)
 have h3:=ji (b:=uB m.op) (v:=m.b)
 have h4:=ji (b:=m.op==1) (v:=zz m.imm)
 have h5:=ji (b:=m.op==18) (v:=m.dst)
 have h6:=ji (b:=m.op==18) (v:=m.src)
 simp only [lp,lc]
 omega
theorem UQ(t:Tm):(yf t).length≤31:=by
 unfold yf
 have h1:=ji (b:=t.kind !=1) (v:=t.a)
 have h2:=ji (b:=t.kind !=3) (v:=t.to)
 have h3:=ji (b:=t.kind==2) (v:=t.el)
 simp only [lp,lc]
 omega
theorem ZB{α:Type}(f:α→List Nat)(n:Nat)(h:∀x,(f x).length≤n):∀l:List α,(l.flatMap f).length≤n*l.length
 | []=>by simp
 |x::r=>by
  have h1:=h x
  have h2:=ZB f n h r
  rw [List.flatMap_cons,lc,lp,Nat.mul_succ]
  omega
theorem ZC:∀bs:List Blk,(zG bs).length≤61*zQ bs+41*bs.length
 | []=>by simp [zG]
 |b::r=>by
  have h1:=ZC r
  have h2:=ZB (fun x=>zU (inM x)) 61 (fun x=>Zh _) b.code
  have h3:=UQ b.term
  have h4:=zC b.code.length
  rw [show zG (b::r)=Jw b++zG r from rfl,lc,jX,lp]
  unfold Jw yK
  simp only [lc]
  omega
theorem Zi:∀bs:List MBlk,(zo bs).length≤61*zF bs+41*bs.length
 | []=>by simp [zo]
 |b::r=>by
  have h1:=Zi r
  have h2:=ZB zU 61 Zh b.code
  have h3:=UQ b.term
  have h4:=zC b.code.length
  rw [show zo (b::r)=js b++zo r from rfl,lc,jJ,lp]
  unfold js yF
  simp only [lc]
  omega
theorem zb1(f:Fd):(zO f).length≤30+61*zQ f.bs+41*f.bs.length:=by
 have h1:=ZC f.bs
 have h2:=zC f.args.toNat;have h3:=zC f.regs.toNat;have h4:=zC f.bs.length
 unfold zO
 simp only [lc]
 omega
theorem zb2(g:Gd):(yz g).length≤40+61*zF g.ms+41*g.ms.length:=by
 have h1:=Zi g.ms
 have h2:=zC g.args.toNat;have h3:=zC g.regs.toNat;have h4:=zC g.slots.toNat;have h5:=zC g.ms.length
 unfold yz
 simp only [lc]
 omega
theorem Uc:∀{bs:List Blk} {b:Blk},b∈bs→b.code.length≤zQ bs
 |x::r,b,h=>by
  rw [jX]
  rcases List.mem_cons.1 h with rfl|h
  ·omega
  ·have:=Uc h;omega
theorem YC:∀{bs:List MBlk} {b:MBlk},b∈bs→b.code.length≤zF bs
 |x::r,b,h=>by
  rw [jJ]
  rcases List.mem_cons.1 h with rfl|h
  ·omega
  ·have:=YC h;omega
structure VF(f:Fd):Prop where
 a:0≤f.args∧f.args≤1048576
 r:0≤f.regs∧f.regs≤1048576
 n:1≤f.bs.length∧f.bs.length≤1048576
 c:zQ f.bs≤1048576
 v:∀b∈f.bs,VB b
structure VG(g:Gd):Prop where
 a:0≤g.args∧g.args≤1048576
 r:0≤g.regs∧g.regs≤1048576
 s:0≤g.slots∧g.slots≤1048576
 n:1≤g.ms.length∧g.ms.length≤1048576
 c:zF g.ms≤1048576
 v:∀b∈g.ms,VMB b
theorem VF.of{f:Fd}(hf:eF f.args f.regs f.bs=0)(hi:∀b∈f.bs,∀x∈b.code,InI x.imm):VF f:=by
 have hz:eSz f.args f.regs f.bs=0:=by
  by_cases h9:eSz f.args f.regs f.bs=0
  ·exact h9
  ·unfold eF at hf;rw [if_neg h9] at hf;exact absurd hf h9
 have hB:eBs f.regs f.bs.length f.bs=0:=by unfold eF at hf;rw [if_pos hz] at hf;exact hf
 obtain ⟨z1,z2,z3,z4,z5,z6⟩:=zc2 hz
 exact ⟨by omega,by omega,⟨z4,z5⟩,z6,ze1 (by omega) (by omega) _ hB hi⟩
theorem VG.of{g:Gd}(hf:eMF g.args g.regs g.slots g.ms=0)(hi:∀b∈g.ms,∀x∈b.code,InI x.imm):VG g:=by
 have hz:JO g.args g.regs g.slots g.ms=0:=by
  by_cases h9:JO g.args g.regs g.slots g.ms=0
  ·exact h9
  ·unfold eMF at hf;rw [if_neg h9] at hf;exact absurd hf h9
 have hB:jY g.regs g.slots g.ms.length g.ms=0:=by unfold eMF at hf;rw [if_pos hz] at hf;exact hf
 obtain ⟨z1,z2,z3,z4,z5,z6,z7,z8⟩:=UO hz
 exact ⟨by omega,by omega,by omega,⟨z6,z7⟩,z8,zc3 (by omega) (by omega) (by omega) _ hB hi⟩
theorem QT{α:Type}(f:α→List Nat)(h:∀x,1≤(f x).length):∀l:List α,l.length≤(l.flatMap f).length
 | []=>by simp
 |x::r=>by
  have h1:=h x
  have h2:=QT f h r
  rw [List.flatMap_cons,lc,lp]
  omega
theorem YD:∀bs:List Blk,zQ bs≤(zG bs).length
 | []=>la _
 |b::r=>by
  have h1:=YD r
  have h2:=QT (fun x=>zU (inM x)) (fun x=>by simp [zU]) b.code
  rw [show zG (b::r)=Jw b++zG r from rfl,lc,jX]
  unfold Jw yK
  simp only [lc]
  omega
theorem Z4:∀bs:List MBlk,zF bs≤(zo bs).length
 | []=>la _
 |b::r=>by
  have h1:=Z4 r
  have h2:=QT zU (fun x=>by simp [zU]) b.code
  rw [show zo (b::r)=js b++zo r from rfl,lc,jJ]
  unfold js yF
  simp only [lc]
  omega
theorem Ud:∀bs:List Blk,2*bs.length≤(zG bs).length
 | []=>la _
 |b::r=>by
  have h1:=Ud r
  have h2:=yG b.code.length
  have h3:1≤(yf b.term).length:=by simp [yf]
  rw [show zG (b::r)=Jw b++zG r from rfl,lc,lp]
  unfold Jw
  simp only [lc]
  omega
theorem YE:∀bs:List MBlk,2*bs.length≤(zo bs).length
 | []=>la _
 |b::r=>by
  have h1:=YE r
  have h2:=yG b.code.length
  have h3:1≤(yf b.term).length:=by simp [yf]
  rw [show zo (b::r)=js b++zo r from rfl,lc,lp]
  unfold js
  simp only [lc]
  omega
theorem Yg{f:Fd}{n:Nat}(h:(zO f).length≤n):2*f.bs.length+1≤n∧zQ f.bs≤n:=by
 have h1:=YD f.bs;have h2:=Ud f.bs;have h3:=yG f.args.toNat
 unfold zO at h
 simp only [lc] at h
 omega
theorem zb3{g:Gd}{n:Nat}(h:(yz g).length≤n):2*g.ms.length+1≤n∧zF g.ms≤n:=by
 have h1:=Z4 g.ms;have h2:=YE g.ms;have h3:=yG g.args.toNat
 unfold yz at h
 simp only [lc] at h
 omega
theorem Qm{regs slots n:Int}(hr:regs≤1000000000)(hsl:slots≤1000000000):∀(bs:List MBlk),jY regs slots n bs=0→∀b∈bs,∀y∈b.code,y.Ok
 | [],_,b,hb=>by cases hb
 |b::r,he,c,hc=>by
  have he':(if eMB b regs slots n=0 then jY regs slots n r else eMB b regs slots n)=0:=he
  have hb:eMB b regs slots n=0:=by
   by_cases h9:eMB b regs slots n=0
   ·exact h9
   ·rw [if_neg h9] at he';exact he'
  rw [if_pos hb] at he'
  rcases List.mem_cons.1 hc with rfl|hc
  ·have hI:eCd regs slots 0 c.code=0:=by
    by_cases h9:eCd regs slots 0 c.code=0
    ·exact h9
    ·unfold eMB at hb;rw [if_neg h9] at hb;exact hb
   intro y hy
   obtain ⟨_,_,_,h4,h5⟩:=(YS.1 (YA hI y hy)).2.rng18 hr hsl
   unfold Mi.Ok Yr
   omega
  ·exact Qm hr hsl r he' c hc
theorem zaO{g:Gd}(hf:eMF g.args g.regs g.slots g.ms=0):∀b∈g.ms,∀y∈b.code,y.Ok:=by
 have hz:JO g.args g.regs g.slots g.ms=0:=by
  by_cases h9:JO g.args g.regs g.slots g.ms=0
  ·exact h9
  ·unfold eMF at hf;rw [if_neg h9] at hf;exact absurd hf h9
 have hB:jY g.regs g.slots g.ms.length g.ms=0:=by unfold eMF at hf;rw [if_pos hz] at hf;exact hf
 obtain ⟨z1,z2,z3,z4,z5,z6,z7,z8⟩:=UO hz
 exact Qm (by omega) (by omega) _ hB
end Go.Proofs.YtnifhpbgmjcndaaGreat
