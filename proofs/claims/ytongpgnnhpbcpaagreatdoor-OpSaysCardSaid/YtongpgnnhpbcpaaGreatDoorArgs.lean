/-
  What an argument that is a slice of structs reads as.
  What an argument that is a slice of numbers reads as.
-/
import Derived.Test.YtongpgnnhpbcpaaGreatDoorProg
import Derived.Test.YtongpgnnhpbcpaaGreatDoorBase
import Derived.Deep.Slices
import Derived.ProofKit
import Derived.OpenShut
namespace Go.Proofs.YtongpgnnhpbcpaaGreatDoor
open Go Go.ChangeShapes Go.WideShapes Go.ChangeAt Go.RowKit Go.Deep
set_option linter.unusedVariables false

theorem rows_of_arg {α : Type} {f : α → List Value} {s : Nat} (d : α) (good : α → Prop) {P : Program} {H : Type} {enc : TypeId × Value → H} {W : World} {base : Nat} {sp : Nat → Bool} {held : Bool} {t e : TypeId} {a : Option Addr} {len cap : Nat} {dd : DataW H} {p : List MemPlace}
    (ht : P.underlying t = some (.slice e)) (hC : P.cellsOf e = s) (hs : 0 < s) (hf : ∀ a, (f a).length = s)
    (hel : ∀ n cs x, DataW.trod enc P W base sp held n e cs = some x → ∃ y, cs = f y ∧ good y)
    (h : DataW.Trod enc P W base sp held t (.slice a len cap) dd p) : ∃ zs, Row f s W (.slice a len cap) zs ∧ ∀ z ∈ zs, good z := by
  obtain ⟨fuel, hfu⟩ := h
  rcases open_slice ht hfu with ⟨hcs, _⟩ | ⟨ad, l, c, m, n, D, Pl, hcs, hb, hl, hm, hmm, hx, hi⟩
  · simp [Value.cells] at hcs
    obtain ⟨rfl, rfl, rfl⟩ := hcs
    exact ⟨[], Row.nil _, by simp⟩
  · simp [Value.cells] at hcs
    obtain ⟨rfl, rfl, rfl⟩ := hcs
    have hle : len ≤ m := by rw [hmm]; split <;> omega
    have hy : ∀ i : Nat, ∃ y, i < len → (∀ j, j < s → W.cell? (ad.add (i * s + j)) = (f y)[j]?) ∧ good y := fun i => by
      by_cases hlt : i < len
      · obtain ⟨cs', hc', ht'⟩ := hi i (by omega)
        obtain ⟨y, rfl, hg⟩ := hel _ _ _ ht'
        rw [hC] at hc'
        obtain ⟨_, hcl, hat⟩ := World.cells?_some hc'
        refine ⟨y, fun _ => ⟨fun j hj => ?_, hg⟩⟩
        have h1 := hat j hj
        rw [Go.Deep.add_add] at h1
        rw [h1]
      · exact ⟨d, fun h => absurd h hlt⟩
    generalize hgg : (fun i => Classical.choose (hy i)) = g
    have hg : ∀ i, i < len → (∀ j, j < s → W.cell? (ad.add (i * s + j)) = (f (g i))[j]?) ∧ good (g i) := fun i => by rw [← hgg]; exact Classical.choose_spec (hy i)
    clear hgg hy
    have hzl : ((List.range len).map g).length = len := by simp
    refine ⟨(List.range len).map g, ⟨some ad, cap, by rw [hzl], by rw [hzl]; exact hl, hm, (fun h => by cases h), fun ad' had i hi2 => ?_⟩, fun z hz => ?_⟩
    · obtain rfl := Option.some.inj had
      rw [hzl] at hi2
      obtain ⟨q, r, rfl, hk, hj⟩ : ∃ q r, i = q * s + r ∧ q < len ∧ r < s := ⟨i / s, i % s, by rw [Nat.mul_comm]; exact (Nat.div_add_mod i s).symm, (Nat.div_lt_iff_lt_mul hs).2 hi2, Nat.mod_lt _ hs⟩
      have hcell := (hg q hk).1 r hj
      have h0 : 0 < len := by omega
      have hsome : W.cell? ad = some ((f (g 0))[0]'(by rw [hf]; exact hs)) := by
        have q := (hg 0 h0).1 0 hs
        rw [List.getElem?_eq_getElem (by rw [hf]; exact hs)] at q
        simpa [Addr.add] using q
      have hspot := World.cell?_spot hsome
      obtain ⟨b, o, x⟩ := ad
      simp only at hspot
      subst hspot
      refine ⟨rfl, ?_⟩
      rw [flatR_at hf d _ _ _ (by rw [hzl]; exact hk) hj]
      rw [Addr.add_lit] at hcell
      have hget : ((List.range len).map g).getD q d = g q := by
        rw [List.getD_eq_getElem?_getD, List.getElem?_map, List.getElem?_range hk]; rfl
      rw [hget]
      exact hcell
    · obtain ⟨i, hi3, rfl⟩ := List.mem_map.1 hz
      exact (hg i (List.mem_range.1 hi3)).2
end Go.Proofs.YtongpgnnhpbcpaaGreatDoor
namespace Go.Proofs.YtongpgnnhpbcpaaGreatDoor
open Go.ChangeShapes Go.WideShapes Go.ChangeAt Go.RowKit

theorem reads_of_arg {H : Type} {enc : TypeId × Value → H} {W : World} {base : Nat} {sp : Nat → Bool} {held : Bool} {t e : TypeId} {k : IntKind} {a : Option Addr} {len cap : Nat} {d : DataW H} {p : List MemPlace}
    (ht : Tryz.prog.underlying t = some (.slice e)) (he : Tryz.prog.underlying e = some (.int k)) (hc : Tryz.prog.cellsOf e = 1)
    (h : DataW.Trod enc Tryz.prog W base sp held t (.slice a len cap) d p) : ∃ zs, Reads k W (.slice a len cap) zs ∧ ∀ n ∈ zs, (Lit.int k n).wf = true := by
  obtain ⟨fuel, hf⟩ := h
  rcases open_ints ht he hc hf with ⟨hcs, _⟩ | ⟨x, l, c, zs, hcs, _, hl, hm, hz, _, hcell, hwz⟩
  · simp [Value.cells] at hcs
    obtain ⟨rfl, rfl, rfl⟩ := hcs
    exact ⟨[], Reads.nil _ _, by simp⟩
  · simp [Value.cells] at hcs
    obtain ⟨rfl, rfl, rfl⟩ := hcs
    have hz' : len ≤ zs.length := by rw [hz]; split <;> omega
    refine ⟨zs.take len, ⟨_, len, cap, rfl, by simp; omega, hl, hm, (fun h => by cases h), fun ad had i hi => ?_⟩, fun n hn => hwz n (List.mem_of_mem_take hn)⟩
    obtain rfl := Option.some.inj had
    have h1 := hcell i (by omega)
    have hs := World.cell?_spot (hcell 0 (by omega))
    obtain ⟨b, o, s⟩ := x
    have hs' : s = none := by simpa [Addr.add] using hs
    subst hs'
    refine ⟨rfl, ?_⟩
    rw [Addr.add_lit] at h1
    rw [h1]
    simp [List.getD_eq_getElem?_getD, hi]

theorem wf_lo {n : Int} (h : (Lit.int .i64 n).wf = true) : -9223372036854775808 ≤ n := (bounds_i64 h).1
theorem wf_hi {n : Int} (h : (Lit.int .i64 n).wf = true) : n ≤ 9223372036854775807 := (bounds_i64 h).2
theorem wf_byte {n : Int} (h : (Lit.int .u8 n).wf = true) : 0 ≤ n ∧ n ≤ 255 := bounds_u8 h
end Go.Proofs.YtongpgnnhpbcpaaGreatDoor
