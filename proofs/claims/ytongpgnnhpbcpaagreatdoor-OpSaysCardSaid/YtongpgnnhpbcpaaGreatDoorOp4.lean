/-
  Package op: Bytes, Text.
-/
import Derived.Test.YtongpgnnhpbcpaaGreatDoorOp3
namespace Go.Proofs.YtongpgnnhpbcpaaGreatDoor
open Go.RowKit
set_option linter.unusedVariables false

/-- six fields in block g. -/
structure FdAt (w : World) (g : Nat) (f : Nat → Int) : Prop where
  row : w.heap[g]? = some (fldO f)
theorem FdAt.below {w w' : World} {g : Nat} {f : Nat → Int} (h : FdAt w g f) (hb : Below w.heap.size w w') : FdAt w' g f := ⟨(hb.block g (Array.getElem?_eq_some_iff.1 h.row).1).trans h.row⟩
theorem FdAt.lt {w : World} {g : Nat} {f : Nat → Int} (h : FdAt w g f) : g < w.heap.size := (Array.getElem?_eq_some_iff.1 h.row).1
def fdL (f : Nat → Int) : List Int := [f 0, f 1, f 2, f 3, f 4, f 5]
theorem FdAt.reads {w : World} {g : Nat} {f : Nat → Int} (h : FdAt w g f) : Reads .i64 w (.slice (some ⟨g, 0, none⟩) 6 6) (fdL f) := reads_block (xs := fdL f) h.row rfl (by decide)
theorem FdAt.cell {w : World} {g : Nat} {f : Nat → Int} (h : FdAt w g f) (i : Nat) (hi : i < 6) : w.cell? ⟨g, i, none⟩ = some (.int .i64 (f i)) := by
  rw [cell_of_row _ _ _ _ _ _ h.row]
  match i, hi with
  | 0, _ => rfl
  | 1, _ => rfl
  | 2, _ => rfl
  | 3, _ => rfl
  | 4, _ => rfl
  | 5, _ => rfl
theorem nums_two (o : Opv) : encs [o.id, o.kd] ++ encs (fdL (fo o)) = encs (nums o) := by rw [← encs_append]; rfl
theorem nums_big {o : Opv} (h : OpBig o) : (∀ x ∈ [o.id, o.kd], -9223372036854775808 ≤ x ∧ x ≤ 9223372036854775807) ∧ (∀ x ∈ fdL (fo o), -9223372036854775808 ≤ x ∧ x ≤ 9223372036854775807) := by
  constructor
  · intro x hx
    apply h
    simp only [nums, List.mem_cons, List.not_mem_nil, or_false] at hx ⊢
    rcases hx with rfl | rfl <;> simp
  · intro x hx
    apply h
    simp only [nums, fdL, fo, List.mem_cons, List.not_mem_nil, or_false] at hx ⊢
    rcases hx with rfl | rfl | rfl | rfl | rfl | rfl <;> simp
theorem nums_len {o : Opv} (h : OpBig o) : (encs (nums o)).length ≤ 80 := encs_len (nums o) h

theorem opBytes_bad (A : Nat → Addr) (o : Opv) (w : World) (hE : OpEnv A w) (h : opE o ≠ 0) :
    Calls Tryz.prog 6 #[opV o] w fun e w' => e = .returned (.tuple #[.slice none 0 0, errOf A (opE o)]) ∧ Below w.heap.size w w' := by
  have hw1 : Below w.heap.size w (w.alloc (opO o)) := (Below.refl _ _).alloc (Nat.le_refl _) _
  have hV := hidden (fun W (hb : Below w.heap.size w W) => opValid_any A o W ((hE.sents.on [2, 10] (by decide)).below hb (Nat.le_refl _)) (hE.rows.below hb (Nat.le_refl _)))
  have hq := hidden (hV.out _ hw1)
  obtain ⟨ea, hea⟩ := errOf_bad25 A h
  rw [hea] at hq ⊢
  replace hw1 := hidden hw1
  clear hE h hea hV
  go_enter Tryz.func6, Tryz.ntmps6
  go_wp2_with fail
  refine hq.out.mono ?_
  rintro e w1 ⟨rfl, hb⟩
  have hb1 := hidden (hw1.out.trans (hb.mono hw1.out.size))
  clear hq hb
  go_wp2
  go_ret2
  exact ⟨rfl, hb1.out⟩
theorem two25 {w W : World} {g : Nat} {o : Opv} (h : OpAt w g o) (hb : Below w.heap.size w W) : (W.cell? ⟨g, 0, none⟩ = some (.int .i64 o.id) ∧ W.cell? ⟨g, 1, none⟩ = some (.int .i64 o.kd)) ∧ Below w.heap.size w W := by
  obtain ⟨c0, c1, _⟩ := (h.below hb).cells
  exact ⟨⟨c0, c1⟩, hb⟩
theorem two_low25 {P : Prop} {w W : World} (h : P ∧ Below w.heap.size w W) : Below w.heap.size w W := h.2
def BsAt (o : Opv) (w : World) (e : Ending) (w' : World) : Prop :=
  ∃ v, e = .returned (.tuple #[v, .nilIface]) ∧ w'.ownsRow w.heap.size 5 1 v (encs (nums o)).length (cb (encs (nums o))) ∧ Below w.heap.size w w'
set_option maxRecDepth 100000 in
set_option maxHeartbeats 3200000 in
theorem opBytes_good (A : Nat → Addr) (o : Opv) (w : World) (hE : OpEnv A w) (h : opE o = 0) :
    Calls Tryz.prog 6 #[opV o] w (BsAt o w) := by
  have hok := op_fine.1 h
  have hw1 : Below w.heap.size w (w.alloc (opO o)) := (Below.refl _ _).alloc (Nat.le_refl _) _
  have ho1 := OpAt.mk (heap_alloc_new w (opO o))
  have hV := hidden (fun W (hb : Below w.heap.size w W) => opValid_any A o W ((hE.sents.on [2, 10] (by decide)).below hb (Nat.le_refl _)) (hE.rows.below hb (Nat.le_refl _)))
  have hq := hidden (hV.out _ hw1)
  rw [h, show errOf A 0 = .nilIface from rfl] at hq
  have hF := hidden (fun W => fieldsOf_any o W)
  have hbig := hidden (nums_big hok.big)
  have hlen := hidden (nums_len hok.big)
  have htwo := hidden (nums_two o)
  replace hw1 := hidden hw1
  replace ho1 := hidden ho1
  have hsz := hidden (show (w.alloc (opO o)).heap.size = w.heap.size + 1 by simp)
  clear hE h hV hok
  generalize hN : nums o = N at *
  replace hN := hidden hN
  go_enter Tryz.func6, Tryz.ntmps6
  go_wp2_with fail
  refine hq.out.mono ?_
  rintro e w2 ⟨rfl, hb2⟩
  have hb2' := hidden (hw1.out.trans (hb2.mono hw1.out.size))
  replace ho1 := hidden (ho1.out.below hb2)
  obtain ⟨c0, c1, c2, c3, c4, c5, c6, c7⟩ := ho1.out.cells
  clear hq hb2 hw1
  go_wp2_with fail
  refine (hF.out _).mono ?_
  rintro e w3 ⟨rfl, hb3⟩
  replace hb2' := hidden (hb2'.out.trans (hb3.mono hb2'.out.size))
  replace ho1 := hidden (ho1.out.below hb3)
  generalize hfo : fo o = f at *
  replace hfo := hidden hfo
  clear hF hb3 c0 c1 c2 c3 c4 c5 c6 c7
  go_upto_region 5 with (fail)
  have hb4 := hidden (hb2'.out.alloc hb2'.out.size (fldO f))
  have hfd := hidden (FdAt.mk (heap_alloc_new w3 (fldO f)))
  have ho4 := hidden (ho1.out.below ((Below.refl w3.heap.size w3).alloc (Nat.le_refl _) (fldO f)))
  clear hb2' ho1
  generalize w3.alloc (fldO f) = w4 at *
  generalize w3.heap.size = g4 at *
  have hs0 := hidden (two25 ho4.out (Below.refl w4.heap.size w4).drew)
  have hs1 := hidden (two25 ho4.out (((Below.refl w4.heap.size w4).alloc (Nat.le_refl _) (.cells #[.int .i64 o.id, .int .i64 o.kd] 2)).drew))
  have hP1 := hidden (put_any (.slice none 0 0) (.slice (some ⟨w4.heap.size, 0, none⟩) 2 2) [] [o.id, o.kd] (w4.alloc (.cells #[.int .i64 o.id, .int .i64 o.kd] 2)).drew (Reads.nil _ _) ((reads_new (w := w4) #[.int .i64 o.id, .int .i64 o.kd] [o.id, o.kd] 2 rfl rfl (by decide)).same (fun _ _ => rfl)) (by decide) (by simp) hbig.out.1)
  have hl2 : (encs [o.id, o.kd]).length ≤ 1000000 := by have := encs_len _ hbig.out.1; simp only [List.length_cons, List.length_nil] at this; omega
  have hl6 : (fdL f).length ≤ 1000000 := by simp [fdL]
  (go_region_held3 (fun W => (W.cell? ⟨w.heap.size, 0, none⟩ = some (.int .i64 o.id) ∧ W.cell? ⟨w.heap.size, 1, none⟩ = some (.int .i64 o.kd)) ∧ Below w4.heap.size w4 W)
    ((first | exact hs0.out | exact hs1.out | assumption | exact two25 ho4.out hz5.out | exact two25 ho4.out hz6.out))
    ((first
      | (go_at_call 25; (with_reducible refine hP1.out.mono ?_); rintro e' w5 ⟨v5, rfl, hown5, hb5⟩; have hz5 := hidden (hs1.out.2.trans (hb5.mono hs1.out.2.size)); have hr5 := hidden (reads_of_own (k := .u8) (xs := encs [o.id, o.kd]) (by simpa [cb] using hown5)); clear hown5)
      | (go_at_call 25; (with_reducible refine (put_any _ _ (encs [o.id, o.kd]) (fdL f) _ hr5.out (hfd.out.below hz5.out).reads hl2 hl6 hbig.out.2).mono ?_); rintro e' w6 ⟨v6, rfl, hown6, hb6⟩; have hz6 := hidden (hz5.out.trans (hb6.mono hz5.out.size))))))
  have hown := hidden (own_from hown6 (show w.heap.size ≤ w5.heap.size from Nat.le_trans hb4.out.size hz5.out.size))
  have hlow := hidden (hb4.out.trans (hz6.out.mono hb4.out.size))
  clear hown6 hP1 hs0 hs1 hr5 hb5 hb6
  obtain ⟨a6, n6, hv6⟩ := own_slice18 hown.out
  rw [hv6] at hown ⊢
  clear hv6
  go_wp2
  go_ret2
  exact ⟨_, rfl, by rw [hN.out, ← htwo.out]; exact hown.out, hlow.out⟩
end Go.Proofs.YtongpgnnhpbcpaaGreatDoor
