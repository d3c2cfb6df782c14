/-
  What an argument that is a slice of numbers reads as, and that it is no longer than the form lets it be.
-/
import Derived.Test.YtcjjjoodnddoeaaDoorArgs
import Derived.SizedLaws
namespace Go.Proofs.YtcjjjoodnddoeaaDoor
open Go.ChangeShapes Go.WideShapes Go.ChangeAt Go.RowKit

theorem reads_of_arg_sized {H : Type} {enc : TypeId × Value → H} {W : World} {base : Nat} {sp : Nat → Bool} {held : Bool} {t e : TypeId} {k : IntKind} {a : Option Addr} {len cap : Nat} {d : DataW H} {p : List MemPlace}
    (ht : Tryd.prog.underlying t = some (.slice e)) (he : Tryd.prog.underlying e = some (.int k)) (hc : Tryd.prog.cellsOf e = 1)
    (h : DataW.Trod enc Tryd.prog W base sp held t (.slice a len cap) d p) : ∃ zs, Reads k W (.slice a len cap) zs ∧ (∀ n ∈ zs, (Lit.int k n).wf = true) ∧ (zs = [] ∨ ∃ elems spare, d = .slice elems spare ∧ elems.length = zs.length) := by
  obtain ⟨fuel, hf⟩ := h
  rcases open_ints ht he hc hf with ⟨hcs, _⟩ | ⟨x, l, c, zs, hcs, _, hl, hm, hz, hd, hcell, hwz⟩
  · simp [Value.cells] at hcs
    obtain ⟨rfl, rfl, rfl⟩ := hcs
    exact ⟨[], Reads.nil _ _, by simp, .inl rfl⟩
  · simp [Value.cells] at hcs
    obtain ⟨rfl, rfl, rfl⟩ := hcs
    have hz' : len ≤ zs.length := by rw [hz]; split <;> omega
    simp only [Prod.mk.injEq] at hd
    refine ⟨zs.take len, ⟨_, len, cap, rfl, by simp; omega, hl, hm, (fun h => by cases h), fun ad had i hi => ?_⟩, (fun n hn => hwz n (List.mem_of_mem_take hn)), .inr ⟨_, _, hd.1, by simp [lits]⟩⟩
    obtain rfl := Option.some.inj had
    have h1 := hcell i (by omega)
    have hs := World.cell?_spot (hcell 0 (by omega))
    obtain ⟨b, o, s⟩ := x
    have hs' : s = none := by simpa [Addr.add] using hs
    subst hs'
    refine ⟨rfl, ?_⟩
    rw [Addr.add_lit] at h1
    rw [h1]
    simp [List.getD_eq_getElem?_getD, hi]
theorem sized_len {H : Type} {ts : List TypeId} {ds : List (DataW H)} (h : (DataW.weightsEach Tryd.prog ts ds).all (· ≤ reachBytes) = true) {j : Nat} {t e : TypeId} {d : DataW H} {zs : List Int} (ht : ts[j]? = some t) (hd : ds[j]? = some d) (hu : Tryd.prog.underlying t = some (.slice e)) (h8 : Tryd.prog.bytesOf e = 8)
    (hz : zs = [] ∨ ∃ elems spare, d = .slice elems spare ∧ elems.length = zs.length) : zs.length ≤ 17592186043904 := by
  rcases hz with rfl | ⟨el, sp, rfl, hl⟩
  · simp
  · have := sized_slice h ht hd hu
    rw [h8] at this
    unfold reachBytes at this
    omega
end Go.Proofs.YtcjjjoodnddoeaaDoor
