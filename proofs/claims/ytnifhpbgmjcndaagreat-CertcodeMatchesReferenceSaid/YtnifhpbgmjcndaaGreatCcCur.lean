/- A cursor over a section: made, read to its end (for any code of layer 20). -/
import Derived.Test.YtnifhpbgmjcndaaGreatPk28
set_option linter.unusedVariables false
set_option linter.unusedSimpArgs false
namespace Go.Proofs.YtnifhpbgmjcndaaGreat
open Go.RowKit
theorem YK(A:Option Addr)(l:List Nat)(c:Nat)(w:World)(hs:Sees w w.heap.size A (bts l))(hb:Byt l)(hm:l.length≤1000000):
  Calls Tryz.prog 60 #[.slice A l.length c] w fun e w'=>∃p A' c',e= .returned (.pointer (some ⟨p,0,none⟩))∧w.heap.size≤p∧CE w.heap.size p l A' c' ⟨l,0⟩ w'∧Below w.heap.size w w':=
 (zdo A l w.heap.size c w hs (la _) hb (by omega)).mono fun e w' ⟨p,A',c',he,hp,hc,hbl⟩=>⟨p,A',c',he,hp,⟨0,hc,fun _=>rfl⟩,hbl⟩
theorem YL{w:World}{lo p:Nat}{l:List Nat}{A:Option Addr}{c:Nat}{t:Ip}(h:CE lo p l A c t w):
  Calls Tryz.prog 62 #[.pointer (some ⟨p,0,none⟩)] w fun e w'=>e= .returned (.tuple #[])∧Mods (Is p) w w'∧CE lo p l A c ⟨t.rest,yC t⟩ w':=by
 obtain ⟨i,hc,hr⟩:=h
 refine (zdh hc).mono ?_
 rintro e w' ⟨rfl,hm,hc2⟩
 have he:zcl l.length i t.err=yC t:=by
  unfold zcl yC
  by_cases h0:t.err=0
  ·have h1:=hr h0
   have h2:t.rest.length=l.length - i:=by rw [←h1,lr]
   by_cases h3:i<l.length
   ·rw [if_pos ⟨h0,h3⟩,if_pos ⟨h0,by omega⟩]
   ·rw [if_neg (fun h=>h3 h.2),if_neg (fun h=>h3 (by omega))]
  ·rw [if_neg (fun h=>h0 h.1),if_neg (fun h=>h0 h.1)]
 rw [he] at hc2
 refine ⟨rfl,hm,i,hc2,fun h9=>hr ?_⟩
 exact (jN h9).1
end Go.Proofs.YtnifhpbgmjcndaaGreat
