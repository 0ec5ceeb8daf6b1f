/- An own slice of bytes whose contents do not matter any more. -/
import Derived.Test.YtnifhpbgmjcndaaGreatPk1
set_option linter.unusedVariables false
set_option linter.unusedSimpArgs false
namespace Go.Proofs.YtnifhpbgmjcndaaGreat
open Go.RowKit
theorem zf8{w:World}{base n c:Nat}{e:TypeId}{A:Option Addr}{xs:List Value}(h:w.ownsRow base e 1 (.slice A n c) n xs){k:Nat}(hk:k<n):∃g,A=some ⟨g,0,none⟩∧base≤g:=by
 rcases h.2 with ⟨_,h0⟩|⟨g,cap,cur,hv,hg,_⟩
 ·omega
 ·injection hv with hA
  exact ⟨g,hA,hg⟩
def zg2(v:Value):Nat→Prop:=fun k=>v.ownBlock=some k
theorem zcT(g n c:Nat):zg2 (.slice (some ⟨g,0,none⟩) n c) g:=rfl
def OwnB(w:World)(B:Nat)(A:Option Addr)(n c:Nat):Prop:=∃zs:List Int,zs.length=n∧w.ownsRow B 5 1 (.slice A n c) n (zs.map (Value.int .u8))
theorem OwnB.of{w:World}{B n c:Nat}{A:Option Addr}{l:List Nat}(h:w.ownsRow B 5 1 (.slice A n c) n (bts l))(hl:l.length=n):OwnB w B A n c:=
 ⟨l.map fun x:Nat=>(x:Int),by simp [hl],by rw [List.map_map];exact h⟩
theorem OwnB.cell{w:World}{B n c k:Nat}{A:Option Addr}(h:OwnB w B A n c)(hk:k<n):∃(g:Nat) (y:Int),A=some ⟨g,0,none⟩∧B≤g∧w.cell? ⟨g,k,none⟩=some (.int .u8 y)∧w.frozen? ⟨g,k,none⟩=false∧(∀z:Int,OwnB (w.setCell ⟨g,k,none⟩ (.int .u8 z)) B A n c):=by
 obtain ⟨zs,hz,ho⟩:=h
 obtain ⟨g,rfl,hg⟩:=zf8 ho hk
 have hzk:k<zs.length:=by omega
 exact ⟨g,zs[k],rfl,hg,(ho.cellAt k (by omega)).trans (by simp [hzk]),ho.frozenAt k,fun z=>⟨zs.set k z,by simp [hz],by rw [List.map_set];exact (ho.stored k _).1⟩⟩
end Go.Proofs.YtnifhpbgmjcndaaGreat
