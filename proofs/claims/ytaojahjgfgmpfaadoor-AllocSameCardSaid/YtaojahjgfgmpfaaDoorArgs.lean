/-
  What an argument that is a slice of numbers reads as.
-/
import Derived.Test.YtaojahjgfgmpfaaDoorProg
import Derived.Test.YtaojahjgfgmpfaaDoorReads
import Derived.ProofKit
import Derived.OpenShut
namespace Go.Proofs.YtaojahjgfgmpfaaDoor
open Go.ChangeShapes Go.WideShapes Go.ChangeAt Go.RowKit

theorem reads_of_arg {H : Type} {enc : TypeId × Value → H} {W : World} {base : Nat} {sp : Nat → Bool} {held : Bool} {t e : TypeId} {k : IntKind} {a : Option Addr} {len cap : Nat} {d : DataW H} {p : List MemPlace}
    (ht : Tryd.prog.underlying t = some (.slice e)) (he : Tryd.prog.underlying e = some (.int k)) (hc : Tryd.prog.cellsOf e = 1)
    (h : DataW.Trod enc Tryd.prog W base sp held t (.slice a len cap) d p) : ∃ zs, Reads k W (.slice a len cap) zs ∧ ∀ n ∈ zs, (Lit.int k n).wf = true := by
  obtain ⟨fuel, hf⟩ := h
  rcases open_ints ht he hc hf with ⟨hcs, _⟩ | ⟨x, l, c, zs, hcs, _, hl, hm, hz, _, hcell, hwz⟩
  · simp [Value.cells] at hcs
    obtain ⟨rfl, rfl, rfl⟩ := hcs
    exact ⟨[], Reads.nil _ _, by simp⟩
  · simp [Value.cells] at hcs
    obtain ⟨rfl, rfl, rfl⟩ := hcs
    have hz' : len ≤ zs.length := by rw [hz]; split <;> omega
    refine ⟨zs.take len, ⟨_, len, cap, rfl, by simp; omega, hl, hm, (fun h => by cases h), fun ad had i hi => ?_⟩, fun n hn => hwz n (List.mem_of_mem_take hn)⟩
    obtain rfl := Option.some.inj had
    have h1 := hcell i (by omega)
    have hs := World.cell?_spot (hcell 0 (by omega))
    obtain ⟨b, o, s⟩ := x
    have hs' : s = none := by simpa [Addr.add] using hs
    subst hs'
    refine ⟨rfl, ?_⟩
    rw [Addr.add_lit] at h1
    rw [h1]
    simp [List.getD_eq_getElem?_getD, hi]

theorem wf_lo {n : Int} (h : (Lit.int .i64 n).wf = true) : -9223372036854775808 ≤ n := (bounds_i64 h).1
theorem wf_hi {n : Int} (h : (Lit.int .i64 n).wf = true) : n ≤ 9223372036854775807 := (bounds_i64 h).2
theorem wf_byte {n : Int} (h : (Lit.int .u8 n).wf = true) : 0 ≤ n ∧ n ≤ 255 := bounds_u8 h
end Go.Proofs.YtaojahjgfgmpfaaDoor
