/-
  All choices there are, counted up as an odometer does. (Pure.)
  The document's own: Choices.
  The document's own: Cheapest.
-/
import Derived.Test.YtaojahjgfgmpfaaDoorAllocMath
import Derived.Test.YtaojahjgfgmpfaaDoorLotsRef1
import Derived.Test.YtaojahjgfgmpfaaDoorAllocB
namespace Go.Proofs.YtaojahjgfgmpfaaDoor
open Go Go.RowKit
set_option linter.unusedVariables false

theorem tk20_cons {x : Lt} {L : List Lt} {t : Int} {T : List Int} : TkOk (x :: L) (t :: T) ↔ (0 ≤ t ∧ t ≤ x.u) ∧ TkOk L T := by
  constructor
  · rintro ⟨h1, h2⟩
    refine ⟨h2 0 (by simp), by simpa using h1, fun i hi => by simpa using h2 (i + 1) (by simpa using hi)⟩
  · rintro ⟨h1, h2, h3⟩
    refine ⟨by simpa using h2, fun i hi => ?_⟩
    match i with
    | 0 => simpa using h1
    | i + 1 => simpa using h3 i (by simpa using hi)
theorem tk20_nil {T : List Int} (h : TkOk [] T) : T = [] := List.eq_nil_of_length_eq_zero h.1
theorem tk20_shape {x : Lt} {L : List Lt} {T : List Int} (h : TkOk (x :: L) T) : ∃ t R, T = t :: R := by
  cases T with
  | nil => exact absurd h.1 (by simp)
  | cons t R => exact ⟨t, R, rfl⟩
/-- a take's number among all. -/
def vaC20 : List Lt → List Int → Int
  | x :: L, t :: T => t + (x.u + 1) * vaC20 L T
  | _, _ => 0
theorem vaC_bd : ∀ (L : List Lt) (T : List Int), TkOk L T → 0 ≤ vaC20 L T ∧ vaC20 L T < pdL L
  | [], T, h => by
    rw [tk20_nil h]
    simp [vaC20, pdL]
  | x :: L, T, h => by
    obtain ⟨t, R, rfl⟩ := tk20_shape h
    obtain ⟨⟨h1, h2⟩, h3⟩ := tk20_cons.1 h
    obtain ⟨i1, i2⟩ := vaC_bd L R h3
    have m1 := Int.mul_nonneg (show 0 ≤ x.u + 1 by omega) i1
    have m2 : (x.u + 1) * (vaC20 L R + 1) ≤ (x.u + 1) * pdL L := Int.mul_le_mul_of_nonneg_left (by omega) (by omega)
    rw [Int.mul_add, Int.mul_one] at m2
    simp only [vaC20, pdL]
    omega
theorem vaC_inj : ∀ (L : List Lt) (T R : List Int), TkOk L T → TkOk L R → vaC20 L T = vaC20 L R → T = R
  | [], T, R, h, g, _ => by rw [tk20_nil h, tk20_nil g]
  | x :: L, T, R, h, g, e => by
    obtain ⟨t, T, rfl⟩ := tk20_shape h
    obtain ⟨r, R, rfl⟩ := tk20_shape g
    obtain ⟨⟨h1, h2⟩, h3⟩ := tk20_cons.1 h
    obtain ⟨⟨g1, g2⟩, g3⟩ := tk20_cons.1 g
    simp only [vaC20] at e
    have hd : vaC20 L T = vaC20 L R := by
      have e1 : (t + (x.u + 1) * vaC20 L T) / (x.u + 1) = vaC20 L T := by
        rw [Int.add_mul_ediv_left _ _ (by omega), Int.ediv_eq_zero_of_lt h1 (by omega), Int.zero_add]
      have e2 : (r + (x.u + 1) * vaC20 L R) / (x.u + 1) = vaC20 L R := by
        rw [Int.add_mul_ediv_left _ _ (by omega), Int.ediv_eq_zero_of_lt g1 (by omega), Int.zero_add]
      rw [← e1, ← e2, e]
    rw [hd] at e
    rw [vaC_inj L T R h3 g3 hd, show t = r by omega]
/-- the next choice, where there is one. -/
def nxC : List Lt → List Int → Option (List Int)
  | x :: L, t :: T => if t = x.u then (nxC L T).map (0 :: ·) else some ((t + 1) :: T)
  | _, _ => none
theorem nxC_some : ∀ (L : List Lt) (T R : List Int), TkOk L T → nxC L T = some R → TkOk L R ∧ vaC20 L R = vaC20 L T + 1
  | [], T, R, h, e => by rw [tk20_nil h] at e; simp [nxC] at e
  | x :: L, T, R, h, e => by
    obtain ⟨t, T, rfl⟩ := tk20_shape h
    obtain ⟨⟨h1, h2⟩, h3⟩ := tk20_cons.1 h
    unfold nxC at e
    by_cases ht : t = x.u
    · rw [if_pos ht] at e
      obtain ⟨Q, q1, rfl⟩ := Option.map_eq_some_iff.1 e
      obtain ⟨a, b⟩ := nxC_some L T Q h3 q1
      refine ⟨tk20_cons.2 ⟨⟨Int.le_refl _, by omega⟩, a⟩, ?_⟩
      simp only [vaC20, b, Int.mul_add, Int.mul_one]
      omega
    · rw [if_neg ht] at e
      obtain rfl := Option.some.inj e
      refine ⟨tk20_cons.2 ⟨⟨by omega, by omega⟩, h3⟩, ?_⟩
      simp only [vaC20]
      omega
theorem nxC_none : ∀ (L : List Lt) (T : List Int), TkOk L T → nxC L T = none → vaC20 L T = pdL L - 1
  | [], T, h, e => by rw [tk20_nil h]; simp [vaC20, pdL]
  | x :: L, T, h, e => by
    obtain ⟨t, T, rfl⟩ := tk20_shape h
    obtain ⟨⟨h1, h2⟩, h3⟩ := tk20_cons.1 h
    unfold nxC at e
    by_cases ht : t = x.u
    · rw [if_pos ht, Option.map_eq_none_iff] at e
      have := nxC_none L T h3 e
      simp only [vaC20, pdL, this, Int.mul_sub, Int.mul_one]
      omega
    · rw [if_neg ht] at e
      cases e
theorem vaC_zero : ∀ L : List Lt, vaC20 L (List.replicate L.length 0) = 0
  | [] => rfl
  | x :: L => by simp [List.replicate_succ, vaC20, vaC_zero L]
/-- what the choices of lesser numbers have shown. -/
structure SeenL (L : List Lt) (C : List Int) (n : Int) (v : Int) (b : Int) (f : Bool) : Prop where
  some : f = true → ∃ T, TkOk L T ∧ n ≤ wo L C T ∧ co L T = b
  all : ∀ T, TkOk L T → vaC20 L T < v → n ≤ wo L C T → f = true ∧ b ≤ co L T
theorem seen_start (L : List Lt) (C : List Int) (n : Int) : SeenL L C n 0 0 false := ⟨fun h => (by cases h), fun T hT hv => by have := (vaC_bd L T hT).1; omega⟩
theorem seen_no {L : List Lt} {C : List Int} {n b : Int} {f : Bool} {T : List Int} (h : SeenL L C n (vaC20 L T) b f) (hT : TkOk L T) (hn : ¬ n ≤ wo L C T) : SeenL L C n (vaC20 L T + 1) b f := by
  refine ⟨h.some, fun R hR hv hf => ?_⟩
  by_cases e : vaC20 L R = vaC20 L T
  · rw [vaC_inj L R T hR hT e] at hf
    exact absurd hf hn
  · exact h.all R hR (by omega) hf
theorem seen_yes {L : List Lt} {C : List Int} {n b : Int} {f : Bool} {T : List Int} (h : SeenL L C n (vaC20 L T) b f) (hT : TkOk L T) (hn : n ≤ wo L C T) : SeenL L C n (vaC20 L T + 1) (if f = false ∨ co L T < b then co L T else b) true := by
  refine ⟨fun _ => ?_, fun R hR hv hf => ⟨rfl, ?_⟩⟩
  · by_cases q : f = false ∨ co L T < b
    · rw [if_pos q]; exact ⟨T, hT, hn, rfl⟩
    · rw [if_neg q]
      exact h.some (by cases f <;> simp_all)
  · by_cases e : vaC20 L R = vaC20 L T
    · rw [vaC_inj L R T hR hT e]
      split <;> omega
    · obtain ⟨a, b'⟩ := h.all R hR (by omega) hf
      split
      · rename_i q
        rcases q with q | q
        · rw [q] at a; cases a
        · omega
      · exact b'
/-- the first k digits are set back. -/
def zeC : List Int → Nat → List Int
  | T, 0 => T
  | [], _ + 1 => []
  | _ :: T, k + 1 => 0 :: zeC T k
theorem zeC_len : ∀ (T : List Int) (k : Nat), (zeC T k).length = T.length
  | T, 0 => by cases T <;> rfl
  | [], _ + 1 => rfl
  | t :: T, k + 1 => by simp [zeC, zeC_len T k]
theorem zeC_at : ∀ (T : List Int) (k i : Nat), k ≤ i → (zeC T k).getD i 0 = T.getD i 0
  | T, 0, i, _ => by cases T <;> rfl
  | [], k + 1, i, _ => by simp [zeC]
  | t :: T, k + 1, 0, h => by omega
  | t :: T, k + 1, i + 1, h => by
    have := zeC_at T k i (by omega)
    simpa [zeC] using this
theorem zeC_next : ∀ (T : List Int) (k : Nat), k < T.length → (zeC T k).set k 0 = zeC T (k + 1)
  | [], k, h => by simp at h
  | t :: T, 0, _ => by cases T <;> simp [zeC]
  | t :: T, k + 1, h => by
    have := zeC_next T k (by simpa using h)
    simp [zeC, this]
theorem nxC_at : ∀ (L : List Lt) (T : List Int) (k : Nat), T.length = L.length → k ≤ L.length → (∀ i, i < k → T.getD i 0 = (L.getD i ltZ).u) →
    (k = L.length → nxC L T = none) ∧ (k < L.length → T.getD k 0 ≠ (L.getD k ltZ).u → nxC L T = some ((zeC T k).set k (T.getD k 0 + 1)))
  | [], T, k, h, hk, ha => by
    refine ⟨fun _ => ?_, fun q => by simp at q⟩
    cases T <;> rfl
  | x :: L, [], k, h, hk, ha => by simp at h
  | x :: L, t :: T, 0, h, hk, ha => by
    refine ⟨fun q => by simp at q, fun _ q => ?_⟩
    have q' : t ≠ x.u := by simpa using q
    simp [nxC, if_neg q', zeC]
  | x :: L, t :: T, k + 1, h, hk, ha => by
    have h0 : t = x.u := by simpa using ha 0 (by omega)
    obtain ⟨i1, i2⟩ := nxC_at L T k (by simpa using h) (by simpa using hk) fun i hi => by simpa using ha (i + 1) (by omega)
    refine ⟨fun q => ?_, fun q1 q2 => ?_⟩
    · rw [nxC, if_pos h0, i1 (by simpa using q)]
      rfl
    · rw [nxC, if_pos h0, i2 (by simpa using q1) (by simpa using q2)]
      simp [zeC]
end Go.Proofs.YtaojahjgfgmpfaaDoor
namespace Go.Proofs.YtaojahjgfgmpfaaDoor
open Go Go.RowKit
set_option linter.unusedVariables false

theorem pdL_app : ∀ A B : List Lt, pdL (A ++ B) = pdL A * pdL B
  | [], B => by simp [pdL]
  | x :: A, B => by
    simp only [List.cons_append, pdL, pdL_app A B, Int.mul_assoc]
theorem pdL_snoc {L : List Lt} {k : Nat} (h : k < L.length) : pdL (L.take (k + 1)) = pdL (L.take k) * ((L.getD k ltZ).u + 1) := by
  have e : L.take (k + 1) = L.take k ++ [L.getD k ltZ] := by
    rw [List.take_add_one, List.getElem?_eq_getElem h, List.getD_eq_getElem?_getD, List.getElem?_eq_getElem h]
    rfl
  rw [e, pdL_app]
  simp [pdL]
theorem pdL_one : ∀ L : List Lt, (∀ x ∈ L, 0 ≤ x.u) → 1 ≤ pdL L
  | [], _ => by simp [pdL]
  | x :: L, h => by
    have h1 := pdL_one L fun y hy => h y (List.mem_cons_of_mem _ hy)
    have h2 := h x List.mem_cons_self
    have := Int.mul_le_mul (show 1 ≤ x.u + 1 by omega) h1 (by omega) (by omega)
    simp only [pdL]
    omega
theorem pdL_take {L : List Lt} (h : ∀ x ∈ L, 0 ≤ x.u) (k : Nat) : 1 ≤ pdL (L.take k) ∧ pdL (L.take k) ≤ pdL L := by
  have h1 := pdL_one (L.take k) fun y hy => h y (List.mem_of_mem_take hy)
  have h2 := pdL_one (L.drop k) fun y hy => h y (List.mem_of_mem_drop hy)
  have e : pdL L = pdL (L.take k) * pdL (L.drop k) := by rw [← pdL_app, List.take_append_drop]
  have := Int.mul_le_mul_of_nonneg_left h2 (show 0 ≤ pdL (L.take k) by omega)
  omega
def ChcRel (L : List Lt) (w0 : World) (p i : Value) (w : World) : Prop := ∃ k : Nat, k ≤ L.length ∧ i = .int .i64 (k : Int) ∧ p = .int .i64 (pdL (L.take k)) ∧ pdL (L.take k) ≤ 3003000 ∧ w0 = w
set_option maxRecDepth 100000 in
set_option maxHeartbeats 6400000 in
theorem r18Choices_any (lv cv : Value) (L : List Lt) (C : List Int) (n : Int) (w : World) (h : PbR w lv cv L C) (hok : OkP L C n) :
    Calls Tryd.prog 12 #[pbA lv cv n, .int .i64 3000] w fun e w' => e = .returned (.int .i64 (min (pdL L) 3001)) ∧ Below w.heap.size w w' := by
  have hb := below_pb w pbTyR lv cv n
  obtain ⟨p0, p1, p2⟩ := (pbAt_new w pbTyR lv cv n).cells
  obtain ⟨la, lc, rfl⟩ := row_slice h.lots
  have hx := hidden (fun k hk => rowLt_at (h.below hb (Nat.le_refl _)).lots k hk)
  have hb0 := hidden hb
  have hu := hidden (fun k hk => (hok.lot (k := k) hk).1)
  have hpt := hidden (fun k => pdL_take (L := L) (fun x hx => (hok.2.1 x hx).1.1) k)
  have hL8 := hok.1.1.2
  clear h hok hb
  obtain ⟨M, hM0⟩ : ∃ M, min (pdL L) 3001 = M := ⟨_, rfl⟩
  rw [hM0]
  replace hM0 := hidden hM0
  go_enter Tryd.func12, Tryd.ntmps12
  go_wp2_with fail
  generalize w.alloc (pbO pbTyR (.slice la L.length lc) cv n) = wa at *
  go_loopw [5, 6] (fun p i wr => ChcRel L wa p i wr) (fun _ i _ => L.length - (RowKit.intOf i).toNat)
  case atStart => exact ⟨0, by omega, rfl, by simp [pdL], by simp [pdL], rfl⟩
  case round =>
    obtain ⟨k, hk, rfl, rfl, hp, rfl⟩ := hrel
    obtain ⟨t1, t2⟩ := hpt.out k
    by_cases hlt : k < L.length
    · have hkI : (k : Int) < (L.length : Int) := by omega
      by_cases hle : pdL (L.take k) ≤ 3000
      · obtain ⟨b, o, rfl, q0, q1, q2, q3⟩ := hx.out k hlt
        obtain ⟨u0, u1⟩ := hu.out k hlt
        have hsn := hidden (pdL_snoc hlt)
        have hd : decide (pdL (L.take k) ≤ 3000) = true := decide_eq_true hle
        obtain ⟨q, hq⟩ : ∃ q, pdL (L.take k) * ((L.getD k ltZ).u + 1) = q := ⟨_, rfl⟩
        have hqb : 0 ≤ q ∧ q ≤ 3003000 := by
          have h1 := Int.mul_nonneg (show 0 ≤ pdL (L.take k) by omega) (show 0 ≤ (L.getD k ltZ).u + 1 by omega)
          have h2 := Int.mul_le_mul hle (show (L.getD k ltZ).u + 1 ≤ 1001 by omega) (by omega) (by decide)
          omega
        rw [hq] at hsn
        clear hx hu hpt
        generalize pdL (L.take k) = pk at *
        generalize L.getD k ltZ = y at *
        obtain ⟨yu, yv, yc, yg⟩ := y
        simp only at q0 q1 q2 q3 u0 u1 hq
        go_wp2
        go_roundw
        case rel => exact ⟨k + 1, hlt, by go_num, by rw [hsn.out], by rw [hsn.out]; exact hqb.2, rfl⟩
        case measure => simp [RowKit.intOf]; omega
      · have hd : decide (pdL (L.take k) ≤ 3000) = false := decide_eq_false hle
        have hm : min (pdL (L.take k)) 3001 = 3001 := by omega
        have hr := hidden (show M = 3001 by have := hM0.out; omega)
        clear hx hu hpt
        generalize pdL (L.take k) = pk at *
        go_wp2
        go_ret
        exact ⟨by rw [hr.out]; rfl, hb0.out⟩
    · obtain rfl : k = L.length := by omega
      have e : L.take L.length = L := List.take_length
      rw [e] at t1 t2 hp
      simp only [e]
      have hm := hM0.out
      clear hx hu hpt
      generalize pdL L = pk at *
      go_wp2
      go_ret
      exact ⟨rfl, hb0.out⟩
end Go.Proofs.YtaojahjgfgmpfaaDoor
namespace Go.Proofs.YtaojahjgfgmpfaaDoor
open Go Go.RowKit
set_option linter.unusedVariables false

structure OdAt (w0 : World) (p tg : Nat) (lv cv : Value) (n : Int) (t : List Int) (w : World) : Prop where
  pb : PbAt w p pbTyR lv cv n
  tk : NumAt inTy w tg t
  low : Below w0.heap.size w0 w
  ne1 : p ≠ tg
  hi : w0.heap.size ≤ tg
section
variable {w0 w w' : World} {p tg : Nat} {lv cv : Value} {n : Int} {t : List Int}
theorem OdAt.below (h : OdAt w0 p tg lv cv n t w) (hb : Below w.heap.size w w') : OdAt w0 p tg lv cv n t w' :=
  ⟨h.pb.below hb (Nat.le_refl _), h.tk.below hb (Nat.le_refl _), h.low.trans (hb.mono h.low.size), h.ne1, h.hi⟩
theorem OdAt.drewN (h : OdAt w0 p tg lv cv n t w) (k : Nat) : OdAt w0 p tg lv cv n t (w.drewN k) :=
  ⟨⟨h.pb.row⟩, h.tk, below_drewN h.low, h.ne1, h.hi⟩
theorem OdAt.put (h : OdAt w0 p tg lv cv n t w) (i : Nat) (x : Int) : OdAt w0 p tg lv cv n (t.set i x) (w.setCell ⟨tg, i, none⟩ (.int .i64 x)) :=
  ⟨⟨by rw [(Trd.setCell (S := (· = tg)) w ⟨tg, i, none⟩ (.int .i64 x) rfl).block p h.pb.lt h.ne1]; exact h.pb.row⟩, h.tk.set i x, h.low.setCell (p := ⟨tg, i, none⟩) h.hi _, h.ne1, h.hi⟩
end
theorem numAt_inj {T : TypeId} {w : World} {g : Nat} {l m : List Int} (h : NumAt T w g l) (h' : NumAt T w g m) : l = m := by
  unfold NumAt at h h'
  rw [h] at h'
  simp only [Option.some.injEq, Obj.cells.injEq, and_true] at h'
  have e : ∀ a b : List Int, a.map (Value.int .i64) = b.map (Value.int .i64) → a = b := fun a b q => by
    have := congrArg (List.map fun v : Value => match v with | .int _ x => x | _ => 0) q
    simpa [List.map_map, Function.comp_def] using this
  apply e
  simpa using h'
def OdM (L : List Lt) (tg : Nat) (w : World) (m : Nat) : Prop := ∃ T, NumAt inTy w tg T ∧ m = (pdL L - vaC20 L T).toNat
def OdRel1 (L : List Lt) (C : List Int) (w0 : World) (p tg : Nat) (lv cv : Value) (n : Int) (b f : Value) (w : World) : Prop :=
  ∃ (T : List Int) (bi : Int) (fl : Bool), b = .int .i64 bi ∧ f = .bool fl ∧ TkOk L T ∧ SeenL L C n (vaC20 L T) bi fl ∧ OdAt w0 p tg lv cv n T w
def OdRel2 (L : List Lt) (w0 : World) (p tg : Nat) (lv cv : Value) (n : Int) (T : List Int) (i : Value) (w : World) : Prop :=
  ∃ k : Nat, k ≤ L.length ∧ i = .int .i64 (k : Int) ∧ (∀ j, j < k → T.getD j 0 = (L.getD j ltZ).u) ∧ OdAt w0 p tg lv cv n (zeC T k) w
def CheapAt20 (L : List Lt) (C : List Int) (n : Int) (w : World) (e : Ending) (w' : World) : Prop := ∃ b f, e = .returned (.tuple #[.int .i64 b, .bool f]) ∧ SeenL L C n (pdL L) b f ∧ Below w.heap.size w w'
theorem odM_is {L : List Lt} {tg : Nat} {w : World} {T : List Int} (h : NumAt inTy w tg T) : mnN (OdM L tg w) = (pdL L - vaC20 L T).toNat := by
  have hP : OdM L tg w ((pdL L - vaC20 L T).toNat) := ⟨T, h, rfl⟩
  obtain ⟨⟨R, hR, e⟩, _⟩ := mnN_spec hP
  rw [e, numAt_inj hR h]
set_option maxRecDepth 100000 in
set_option maxHeartbeats 12800000 in
theorem r18Cheapest_any (lv cv : Value) (L : List Lt) (C : List Int) (n : Int) (w : World) (h : PbR w lv cv L C) (hok : OkP L C n) :
    Calls Tryd.prog 18 #[pbA lv cv n] w (CheapAt20 L C n w) := by
  have hb0 := below_pb w pbTyR lv cv n
  have hpb := pbAt_new w pbTyR lv cv n
  obtain ⟨p0, p1, p2⟩ := hpb.cells
  have hFi := hidden (fun W (h2 : Below w.heap.size w W) tv t hr => r18Fits_any lv cv L C n tv t W (h.below h2 (Nat.le_refl _)) hr)
  have hCo := hidden (fun W (h2 : Below w.heap.size w W) tv t hr => r18Cost_any lv cv L C n tv t W (h.below h2 (Nat.le_refl _)) hr)
  obtain ⟨la, lc, rfl⟩ := row_slice h.lots
  obtain ⟨ca, cc, rfl⟩ := reads_slice h.caps
  have hx := hidden (fun k hk W (h2 : Below w.heap.size w W) => rowLt_at (h.lots.below ltV_len h2 (Nat.le_refl _)) k hk)
  have hL8 := hok.1.1
  have hL8I : 1 ≤ (L.length : Int) ∧ (L.length : Int) ≤ 8 := by omega
  have hmk := mk_ints18 L.length (by omega)
  have hub := hidden (fun k hk => (hok.lot (k := k) hk).1)
  have hok' := hidden hok
  have hz0 : TkOk L (List.replicate L.length 0) := ⟨by simp, fun i hi => by rw [zeros_at]; exact ⟨Int.le_refl _, ((hok.lot hi).1).1⟩⟩
  have hst : OdAt w w.heap.size (w.heap.size + 1) (.slice la L.length lc) (.slice ca C.length cc) n (List.replicate L.length 0) ((w.alloc (pbO pbTyR (.slice la L.length lc) (.slice ca C.length cc) n)).alloc (.cells (Array.replicate L.length (.int .i64 0)) inTy)) := by
    have hN := numAt_new inTy (w.alloc (pbO pbTyR (.slice la L.length lc) (.slice ca C.length cc) n)) L.length
    have e : (w.alloc (pbO pbTyR (.slice la L.length lc) (.slice ca C.length cc) n)).heap.size = w.heap.size + 1 := by simp
    rw [e] at hN
    exact ⟨hpb.below ((Below.refl _ _).alloc (Nat.le_refl _) _) (Nat.le_refl _), hN, hb0.alloc hb0.size _, by omega, by omega⟩
  have hrel0 := hidden (show OdRel1 L C w w.heap.size (w.heap.size + 1) (.slice la L.length lc) (.slice ca C.length cc) n (.int .i64 0) (.bool false) _ from ⟨_, 0, false, rfl, rfl, hz0, by rw [vaC_zero]; exact seen_start L C n, hst⟩)
  clear h hb0 hpb hst hz0 hok
  unfold CheapAt20
  go_enter Tryd.func18, Tryd.ntmps18
  go_wp2_with fail
  go_loopw [5, 6] (fun b f wr => OdRel1 L C w w.heap.size (w.heap.size + 1) (.slice la L.length lc) (.slice ca C.length cc) n b f wr) (fun _ _ wr => mnN (OdM L (w.heap.size + 1) wr))
  case atStart => exact hrel0.out
  case round =>
    clear hrel0 p0 p1 p2
    obtain ⟨T, bi, fl, rfl, rfl, hT, hS, hO⟩ := hrel
    obtain ⟨c0, c1, c2⟩ := hO.pb.cells
    have hTl := hT.1
    have hgd := goodB_yes hok'.out hT
    have hF1 := hidden (hFi.out wr hO.low (.slice (some ⟨w.heap.size + 1, 0, none⟩) L.length L.length) T (hO.tk.reads hTl (by omega)))
    rw [show fiB L C n T = decide (n ≤ wo L C T) by unfold fiB woV; rw [hgd, if_pos rfl, Bool.true_and]] at hF1
    have hC1 := hidden (fun W (hW : OdAt w w.heap.size (w.heap.size + 1) (.slice la L.length lc) (.slice ca C.length cc) n T W) => hCo.out W hW.low (.slice (some ⟨w.heap.size + 1, 0, none⟩) L.length L.length) T (hW.tk.reads hTl (by omega)))
    rw [hgd, show coV L C n T = co L T by unfold coV; rw [hgd, if_pos rfl]] at hC1
    have hme := hidden (odM_is (L := L) hO.tk)
    have hna := hidden (fun k hk ha => nxC_at L T k hTl hk ha)
    have hns := hidden (fun R e => nxC_some L T R hT e)
    have hnn := hidden (fun e => nxC_none L T hT e)
    have hvb := vaC_bd L T hT
    have htb := hidden hT.2
    have hways : (decide (n ≤ wo L C T) = false ∧ SeenL L C n (vaC20 L T + 1) bi fl) ∨ (decide (n ≤ wo L C T) = true ∧ fl = false ∧ SeenL L C n (vaC20 L T + 1) (co L T) true) ∨ (decide (n ≤ wo L C T) = true ∧ fl = true ∧ decide (co L T < bi) = true ∧ SeenL L C n (vaC20 L T + 1) (co L T) true) ∨ (decide (n ≤ wo L C T) = true ∧ fl = true ∧ decide (co L T < bi) = false ∧ SeenL L C n (vaC20 L T + 1) bi true) := by
      by_cases hf : n ≤ wo L C T
      · have hy := seen_yes hS hT hf
        cases fl
        · exact .inr (.inl ⟨decide_eq_true hf, rfl, by simpa using hy⟩)
        · by_cases hc : co L T < bi
          · exact .inr (.inr (.inl ⟨decide_eq_true hf, rfl, decide_eq_true hc, by simpa [hc] using hy⟩))
          · exact .inr (.inr (.inr ⟨decide_eq_true hf, rfl, decide_eq_false hc, by simpa [hc] using hy⟩))
      · exact .inl ⟨decide_eq_false hf, seen_no hS hT hf⟩
    clear hS hT hgd hFi hCo
    replace hTl := hidden hTl
    replace hvb := hidden hvb
    generalize co L T = cT at *
    generalize decide (n ≤ wo L C T) = fT at *
    rcases hways with ⟨rfl, hS⟩ | ⟨rfl, rfl, hS⟩ | ⟨rfl, rfl, hd, hS⟩ | ⟨rfl, rfl, hd, hS⟩
    all_goals
      replace hS := hidden hS
      go_wp2_with fail
      (with_reducible refine hF1.out.mono ?_)
      rintro e w3 ⟨rfl, hb3⟩
      replace hO := hO.below hb3
      obtain ⟨c0, c1, c2⟩ := hO.pb.cells
      have hC3 := hidden (hC1.out _ hO)
      replace hO := hidden hO
      clear hF1 hb3 hC1
    · clear hC3
      go_wp2_with fail
      have hst := hidden (show OdRel2 L w w.heap.size (w.heap.size + 1) (.slice la L.length lc) (.slice ca C.length cc) n T (.int .i64 ((0 : Nat) : Int)) _ from ⟨0, Nat.zero_le _, rfl, (fun j hj => absurd hj (Nat.not_lt_zero _)), by rw [show zeC T 0 = T by cases T <;> rfl]; exact hO.out⟩)
      clear c0 c1 c2 hO
      go_loopw [9] (fun i wr' => OdRel2 L w w.heap.size (w.heap.size + 1) (.slice la L.length lc) (.slice ca C.length cc) n T i wr') (fun i _ => L.length - (RowKit.intOf i).toNat)
      case atStart => exact hst.out
      case round =>
        clear hst
        obtain ⟨k, hk, rfl, ha, hO⟩ := hrel
        obtain ⟨c0, c1, c2⟩ := hO.pb.cells
        have hlen : ((zeC T k).length : Int) = (L.length : Int) := by rw [zeC_len]; have := hTl.out; omega
        by_cases hlt : k < L.length
        · have hkI : (k : Int) < (L.length : Int) := by omega
          have hk0 : (0 : Int) ≤ (k : Int) := by omega
          obtain ⟨bl, ol, rfl, q0, q1, q2, q3⟩ := hx.out k hlt _ hO.low
          have hkz : k < (zeC T k).length := by omega
          have hkT : k < T.length := by have := hTl.out; omega
          have ct := hO.tk.cell hkz
          rw [zeC_at T k k (Nat.le_refl _)] at ct
          have hfr := hO.tk.frozen k
          have hub1 := hub.out k hlt
          have htb1 := htb.out k hlt
          by_cases heq : T.getD k 0 = (L.getD k ltZ).u
          · have hOn := hidden (fun m => show OdAt w w.heap.size (w.heap.size + 1) (.slice (some ⟨bl, ol, none⟩) L.length lc) (.slice ca C.length cc) n (zeC T (k + 1)) ((wr.drewN m).setCell ⟨w.heap.size + 1, k, none⟩ (.int .i64 0)) from by
              have := (hO.drewN m).put k 0
              rw [zeC_next T k hkT] at this
              exact this)
            have han : ∀ j, j < k + 1 → T.getD j 0 = (L.getD j ltZ).u := fun j hj => by
              by_cases e : j = k
              · rw [e]; exact heq
              · exact ha j (by omega)
            replace han := hidden han
            rw [heq] at ct
            have ctd : ∀ m, (wr.drewN m).cell? ⟨w.heap.size + 1, k, none⟩ = some (.int .i64 (L.getD k ltZ).u) := fun m => ct
            have frd : ∀ m, (wr.drewN m).frozen? ⟨w.heap.size + 1, k, none⟩ = false := fun m => hfr
            have hcd := hidden (fun m => (hO.drewN m).pb.cells)
            clear hx hub htb hna hns hnn hO ha heq hlen hS hkz
            generalize L.getD k ltZ = y at *
            obtain ⟨u, v, c, gg⟩ := y
            simp only at q0 q1 q2 q3 ct ctd
            go_wp2_with fail
            go_quiet (fail)
            go_wp2
            go_roundw
            case rel => exact ⟨k + 1, hlt, by go_num, han.out, hOn.out _⟩
            case measure => simp [RowKit.intOf]; omega
          · have hnx := (hna.out k (Nat.le_of_lt hlt) ha).2 hlt heq
            obtain ⟨hT', hv'⟩ := hns.out _ hnx
            have hbq : (T.getD k 0 == (L.getD k ltZ).u) = false := by rw [beq_eq_false_iff_ne]; exact heq
            have hdq : decide (T.getD k 0 = (L.getD k ltZ).u) = false := decide_eq_false heq
            have hne : ((k : Int) == (L.length : Int)) = false := by rw [beq_eq_false_iff_ne]; omega
            have hOn := hidden (fun m => (hO.drewN m).put k (T.getD k 0 + 1))
            have hSn := hS.out
            rw [← hv'] at hSn
            have hrel := hidden (fun W (hW : OdAt w w.heap.size (w.heap.size + 1) (.slice (some ⟨bl, ol, none⟩) L.length lc) (.slice ca C.length cc) n ((zeC T k).set k (T.getD k 0 + 1)) W) => show OdRel1 L C w w.heap.size (w.heap.size + 1) (.slice (some ⟨bl, ol, none⟩) L.length lc) (.slice ca C.length cc) n (.int .i64 bi) (.bool fl) W from ⟨_, bi, fl, rfl, rfl, hT', hSn, hW⟩)
            have hmes := hidden (fun W (hW : OdAt w w.heap.size (w.heap.size + 1) (.slice (some ⟨bl, ol, none⟩) L.length lc) (.slice ca C.length cc) n ((zeC T k).set k (T.getD k 0 + 1)) W) => show mnN (OdM L (w.heap.size + 1) W) < (pdL L - vaC20 L T).toNat from by
              rw [odM_is hW.tk, hv']
              have := hvb.out
              omega)
            have ctd : ∀ m, (wr.drewN m).cell? ⟨w.heap.size + 1, k, none⟩ = some (.int .i64 (T.getD k 0)) := fun m => ct
            have frd : ∀ m, (wr.drewN m).frozen? ⟨w.heap.size + 1, k, none⟩ = false := fun m => hfr
            clear hx hub htb hna hns hnn hO ha heq hlen hS hkz hnx hT' hv' hSn
            generalize (zeC T k).set k (T.getD k 0 + 1) = T' at *
            generalize T.getD k 0 = tk at *
            generalize L.getD k ltZ = y at *
            obtain ⟨u, v, c, gg⟩ := y
            simp only at q0 q1 q2 q3 hbq hdq htb1 hub1
            go_wp2_with fail
            go_quiet (fail)
            go_wp2_with fail
            exact ⟨hrel.out _ (hOn.out _), by rw [hme.out]; exact hmes.out _ (hOn.out _)⟩
        · obtain rfl : k = L.length := by omega
          have hnx := hnn.out ((hna.out _ (Nat.le_refl _) ha).1 rfl)
          have hSn := hS.out
          rw [show vaC20 L T + 1 = pdL L by omega] at hSn
          have hend := hidden (fun m => below_drewN (m := m) hO.low)
          have hSn' := hidden hSn
          clear hx hub htb hna hns hnn hO ha hlen hS hnx hSn
          go_wp2_with fail
          go_quiet (fail)
          go_wp2
          go_ret2
          exact ⟨bi, fl, rfl, hSn'.out, hend.out _⟩
    · go_wp2_with fail
      (with_reducible refine hC3.out.mono ?_)
      rintro e w4 ⟨rfl, hb4⟩
      replace hO := hidden (hO.out.below hb4)
      clear hC3 hb4
      go_wp2_with fail
      have hst := hidden (show OdRel2 L w w.heap.size (w.heap.size + 1) (.slice la L.length lc) (.slice ca C.length cc) n T (.int .i64 ((0 : Nat) : Int)) _ from ⟨0, Nat.zero_le _, rfl, (fun j hj => absurd hj (Nat.not_lt_zero _)), by rw [show zeC T 0 = T by cases T <;> rfl]; exact hO.out⟩)
      clear c0 c1 c2 hO
      go_loopw [9] (fun i wr' => OdRel2 L w w.heap.size (w.heap.size + 1) (.slice la L.length lc) (.slice ca C.length cc) n T i wr') (fun i _ => L.length - (RowKit.intOf i).toNat)
      case atStart => exact hst.out
      case round =>
        clear hst
        obtain ⟨k, hk, rfl, ha, hO⟩ := hrel
        obtain ⟨c0, c1, c2⟩ := hO.pb.cells
        have hlen : ((zeC T k).length : Int) = (L.length : Int) := by rw [zeC_len]; have := hTl.out; omega
        by_cases hlt : k < L.length
        · have hkI : (k : Int) < (L.length : Int) := by omega
          have hk0 : (0 : Int) ≤ (k : Int) := by omega
          obtain ⟨bl, ol, rfl, q0, q1, q2, q3⟩ := hx.out k hlt _ hO.low
          have hkz : k < (zeC T k).length := by omega
          have hkT : k < T.length := by have := hTl.out; omega
          have ct := hO.tk.cell hkz
          rw [zeC_at T k k (Nat.le_refl _)] at ct
          have hfr := hO.tk.frozen k
          have hub1 := hub.out k hlt
          have htb1 := htb.out k hlt
          by_cases heq : T.getD k 0 = (L.getD k ltZ).u
          · have hOn := hidden (fun m => show OdAt w w.heap.size (w.heap.size + 1) (.slice (some ⟨bl, ol, none⟩) L.length lc) (.slice ca C.length cc) n (zeC T (k + 1)) ((wr.drewN m).setCell ⟨w.heap.size + 1, k, none⟩ (.int .i64 0)) from by
              have := (hO.drewN m).put k 0
              rw [zeC_next T k hkT] at this
              exact this)
            have han : ∀ j, j < k + 1 → T.getD j 0 = (L.getD j ltZ).u := fun j hj => by
              by_cases e : j = k
              · rw [e]; exact heq
              · exact ha j (by omega)
            replace han := hidden han
            rw [heq] at ct
            have ctd : ∀ m, (wr.drewN m).cell? ⟨w.heap.size + 1, k, none⟩ = some (.int .i64 (L.getD k ltZ).u) := fun m => ct
            have frd : ∀ m, (wr.drewN m).frozen? ⟨w.heap.size + 1, k, none⟩ = false := fun m => hfr
            have hcd := hidden (fun m => (hO.drewN m).pb.cells)
            clear hx hub htb hna hns hnn hO ha heq hlen hS hkz
            generalize L.getD k ltZ = y at *
            obtain ⟨u, v, c, gg⟩ := y
            simp only at q0 q1 q2 q3 ct ctd
            go_wp2_with fail
            go_quiet (fail)
            go_wp2
            go_roundw
            case rel => exact ⟨k + 1, hlt, by go_num, han.out, hOn.out _⟩
            case measure => simp [RowKit.intOf]; omega
          · have hnx := (hna.out k (Nat.le_of_lt hlt) ha).2 hlt heq
            obtain ⟨hT', hv'⟩ := hns.out _ hnx
            have hbq : (T.getD k 0 == (L.getD k ltZ).u) = false := by rw [beq_eq_false_iff_ne]; exact heq
            have hdq : decide (T.getD k 0 = (L.getD k ltZ).u) = false := decide_eq_false heq
            have hne : ((k : Int) == (L.length : Int)) = false := by rw [beq_eq_false_iff_ne]; omega
            have hOn := hidden (fun m => (hO.drewN m).put k (T.getD k 0 + 1))
            have hSn := hS.out
            rw [← hv'] at hSn
            have hrel := hidden (fun W (hW : OdAt w w.heap.size (w.heap.size + 1) (.slice (some ⟨bl, ol, none⟩) L.length lc) (.slice ca C.length cc) n ((zeC T k).set k (T.getD k 0 + 1)) W) => show OdRel1 L C w w.heap.size (w.heap.size + 1) (.slice (some ⟨bl, ol, none⟩) L.length lc) (.slice ca C.length cc) n (.int .i64 cT) (.bool true) W from ⟨_, cT, true, rfl, rfl, hT', hSn, hW⟩)
            have hmes := hidden (fun W (hW : OdAt w w.heap.size (w.heap.size + 1) (.slice (some ⟨bl, ol, none⟩) L.length lc) (.slice ca C.length cc) n ((zeC T k).set k (T.getD k 0 + 1)) W) => show mnN (OdM L (w.heap.size + 1) W) < (pdL L - vaC20 L T).toNat from by
              rw [odM_is hW.tk, hv']
              have := hvb.out
              omega)
            have ctd : ∀ m, (wr.drewN m).cell? ⟨w.heap.size + 1, k, none⟩ = some (.int .i64 (T.getD k 0)) := fun m => ct
            have frd : ∀ m, (wr.drewN m).frozen? ⟨w.heap.size + 1, k, none⟩ = false := fun m => hfr
            clear hx hub htb hna hns hnn hO ha heq hlen hS hkz hnx hT' hv' hSn
            generalize (zeC T k).set k (T.getD k 0 + 1) = T' at *
            generalize T.getD k 0 = tk at *
            generalize L.getD k ltZ = y at *
            obtain ⟨u, v, c, gg⟩ := y
            simp only at q0 q1 q2 q3 hbq hdq htb1 hub1
            go_wp2_with fail
            go_quiet (fail)
            go_wp2_with fail
            exact ⟨hrel.out _ (hOn.out _), by rw [hme.out]; exact hmes.out _ (hOn.out _)⟩
        · obtain rfl : k = L.length := by omega
          have hnx := hnn.out ((hna.out _ (Nat.le_refl _) ha).1 rfl)
          have hSn := hS.out
          rw [show vaC20 L T + 1 = pdL L by omega] at hSn
          have hend := hidden (fun m => below_drewN (m := m) hO.low)
          have hSn' := hidden hSn
          clear hx hub htb hna hns hnn hO ha hlen hS hnx hSn
          go_wp2_with fail
          go_quiet (fail)
          go_wp2
          go_ret2
          exact ⟨cT, true, rfl, hSn'.out, hend.out _⟩
    · go_wp2_with fail
      (with_reducible refine hC3.out.mono ?_)
      rintro e w4 ⟨rfl, hb4⟩
      replace hO := hidden (hO.out.below hb4)
      clear hC3 hb4
      go_wp2_with fail
      have hst := hidden (show OdRel2 L w w.heap.size (w.heap.size + 1) (.slice la L.length lc) (.slice ca C.length cc) n T (.int .i64 ((0 : Nat) : Int)) _ from ⟨0, Nat.zero_le _, rfl, (fun j hj => absurd hj (Nat.not_lt_zero _)), by rw [show zeC T 0 = T by cases T <;> rfl]; exact hO.out⟩)
      clear c0 c1 c2 hO
      go_loopw [9] (fun i wr' => OdRel2 L w w.heap.size (w.heap.size + 1) (.slice la L.length lc) (.slice ca C.length cc) n T i wr') (fun i _ => L.length - (RowKit.intOf i).toNat)
      case atStart => exact hst.out
      case round =>
        clear hst
        obtain ⟨k, hk, rfl, ha, hO⟩ := hrel
        obtain ⟨c0, c1, c2⟩ := hO.pb.cells
        have hlen : ((zeC T k).length : Int) = (L.length : Int) := by rw [zeC_len]; have := hTl.out; omega
        by_cases hlt : k < L.length
        · have hkI : (k : Int) < (L.length : Int) := by omega
          have hk0 : (0 : Int) ≤ (k : Int) := by omega
          obtain ⟨bl, ol, rfl, q0, q1, q2, q3⟩ := hx.out k hlt _ hO.low
          have hkz : k < (zeC T k).length := by omega
          have hkT : k < T.length := by have := hTl.out; omega
          have ct := hO.tk.cell hkz
          rw [zeC_at T k k (Nat.le_refl _)] at ct
          have hfr := hO.tk.frozen k
          have hub1 := hub.out k hlt
          have htb1 := htb.out k hlt
          by_cases heq : T.getD k 0 = (L.getD k ltZ).u
          · have hOn := hidden (fun m => show OdAt w w.heap.size (w.heap.size + 1) (.slice (some ⟨bl, ol, none⟩) L.length lc) (.slice ca C.length cc) n (zeC T (k + 1)) ((wr.drewN m).setCell ⟨w.heap.size + 1, k, none⟩ (.int .i64 0)) from by
              have := (hO.drewN m).put k 0
              rw [zeC_next T k hkT] at this
              exact this)
            have han : ∀ j, j < k + 1 → T.getD j 0 = (L.getD j ltZ).u := fun j hj => by
              by_cases e : j = k
              · rw [e]; exact heq
              · exact ha j (by omega)
            replace han := hidden han
            rw [heq] at ct
            have ctd : ∀ m, (wr.drewN m).cell? ⟨w.heap.size + 1, k, none⟩ = some (.int .i64 (L.getD k ltZ).u) := fun m => ct
            have frd : ∀ m, (wr.drewN m).frozen? ⟨w.heap.size + 1, k, none⟩ = false := fun m => hfr
            have hcd := hidden (fun m => (hO.drewN m).pb.cells)
            clear hx hub htb hna hns hnn hO ha heq hlen hS hkz
            generalize L.getD k ltZ = y at *
            obtain ⟨u, v, c, gg⟩ := y
            simp only at q0 q1 q2 q3 ct ctd
            go_wp2_with fail
            go_quiet (fail)
            go_wp2
            go_roundw
            case rel => exact ⟨k + 1, hlt, by go_num, han.out, hOn.out _⟩
            case measure => simp [RowKit.intOf]; omega
          · have hnx := (hna.out k (Nat.le_of_lt hlt) ha).2 hlt heq
            obtain ⟨hT', hv'⟩ := hns.out _ hnx
            have hbq : (T.getD k 0 == (L.getD k ltZ).u) = false := by rw [beq_eq_false_iff_ne]; exact heq
            have hdq : decide (T.getD k 0 = (L.getD k ltZ).u) = false := decide_eq_false heq
            have hne : ((k : Int) == (L.length : Int)) = false := by rw [beq_eq_false_iff_ne]; omega
            have hOn := hidden (fun m => (hO.drewN m).put k (T.getD k 0 + 1))
            have hSn := hS.out
            rw [← hv'] at hSn
            have hrel := hidden (fun W (hW : OdAt w w.heap.size (w.heap.size + 1) (.slice (some ⟨bl, ol, none⟩) L.length lc) (.slice ca C.length cc) n ((zeC T k).set k (T.getD k 0 + 1)) W) => show OdRel1 L C w w.heap.size (w.heap.size + 1) (.slice (some ⟨bl, ol, none⟩) L.length lc) (.slice ca C.length cc) n (.int .i64 cT) (.bool true) W from ⟨_, cT, true, rfl, rfl, hT', hSn, hW⟩)
            have hmes := hidden (fun W (hW : OdAt w w.heap.size (w.heap.size + 1) (.slice (some ⟨bl, ol, none⟩) L.length lc) (.slice ca C.length cc) n ((zeC T k).set k (T.getD k 0 + 1)) W) => show mnN (OdM L (w.heap.size + 1) W) < (pdL L - vaC20 L T).toNat from by
              rw [odM_is hW.tk, hv']
              have := hvb.out
              omega)
            have ctd : ∀ m, (wr.drewN m).cell? ⟨w.heap.size + 1, k, none⟩ = some (.int .i64 (T.getD k 0)) := fun m => ct
            have frd : ∀ m, (wr.drewN m).frozen? ⟨w.heap.size + 1, k, none⟩ = false := fun m => hfr
            clear hx hub htb hna hns hnn hO ha heq hlen hS hkz hnx hT' hv' hSn
            generalize (zeC T k).set k (T.getD k 0 + 1) = T' at *
            generalize T.getD k 0 = tk at *
            generalize L.getD k ltZ = y at *
            obtain ⟨u, v, c, gg⟩ := y
            simp only at q0 q1 q2 q3 hbq hdq htb1 hub1
            go_wp2_with fail
            go_quiet (fail)
            go_wp2_with fail
            exact ⟨hrel.out _ (hOn.out _), by rw [hme.out]; exact hmes.out _ (hOn.out _)⟩
        · obtain rfl : k = L.length := by omega
          have hnx := hnn.out ((hna.out _ (Nat.le_refl _) ha).1 rfl)
          have hSn := hS.out
          rw [show vaC20 L T + 1 = pdL L by omega] at hSn
          have hend := hidden (fun m => below_drewN (m := m) hO.low)
          have hSn' := hidden hSn
          clear hx hub htb hna hns hnn hO ha hlen hS hnx hSn
          go_wp2_with fail
          go_quiet (fail)
          go_wp2
          go_ret2
          exact ⟨cT, true, rfl, hSn'.out, hend.out _⟩
    · go_wp2_with fail
      (with_reducible refine hC3.out.mono ?_)
      rintro e w4 ⟨rfl, hb4⟩
      replace hO := hidden (hO.out.below hb4)
      clear hC3 hb4
      go_wp2_with fail
      have hst := hidden (show OdRel2 L w w.heap.size (w.heap.size + 1) (.slice la L.length lc) (.slice ca C.length cc) n T (.int .i64 ((0 : Nat) : Int)) _ from ⟨0, Nat.zero_le _, rfl, (fun j hj => absurd hj (Nat.not_lt_zero _)), by rw [show zeC T 0 = T by cases T <;> rfl]; exact hO.out⟩)
      clear c0 c1 c2 hO
      go_loopw [9] (fun i wr' => OdRel2 L w w.heap.size (w.heap.size + 1) (.slice la L.length lc) (.slice ca C.length cc) n T i wr') (fun i _ => L.length - (RowKit.intOf i).toNat)
      case atStart => exact hst.out
      case round =>
        clear hst
        obtain ⟨k, hk, rfl, ha, hO⟩ := hrel
        obtain ⟨c0, c1, c2⟩ := hO.pb.cells
        have hlen : ((zeC T k).length : Int) = (L.length : Int) := by rw [zeC_len]; have := hTl.out; omega
        by_cases hlt : k < L.length
        · have hkI : (k : Int) < (L.length : Int) := by omega
          have hk0 : (0 : Int) ≤ (k : Int) := by omega
          obtain ⟨bl, ol, rfl, q0, q1, q2, q3⟩ := hx.out k hlt _ hO.low
          have hkz : k < (zeC T k).length := by omega
          have hkT : k < T.length := by have := hTl.out; omega
          have ct := hO.tk.cell hkz
          rw [zeC_at T k k (Nat.le_refl _)] at ct
          have hfr := hO.tk.frozen k
          have hub1 := hub.out k hlt
          have htb1 := htb.out k hlt
          by_cases heq : T.getD k 0 = (L.getD k ltZ).u
          · have hOn := hidden (fun m => show OdAt w w.heap.size (w.heap.size + 1) (.slice (some ⟨bl, ol, none⟩) L.length lc) (.slice ca C.length cc) n (zeC T (k + 1)) ((wr.drewN m).setCell ⟨w.heap.size + 1, k, none⟩ (.int .i64 0)) from by
              have := (hO.drewN m).put k 0
              rw [zeC_next T k hkT] at this
              exact this)
            have han : ∀ j, j < k + 1 → T.getD j 0 = (L.getD j ltZ).u := fun j hj => by
              by_cases e : j = k
              · rw [e]; exact heq
              · exact ha j (by omega)
            replace han := hidden han
            rw [heq] at ct
            have ctd : ∀ m, (wr.drewN m).cell? ⟨w.heap.size + 1, k, none⟩ = some (.int .i64 (L.getD k ltZ).u) := fun m => ct
            have frd : ∀ m, (wr.drewN m).frozen? ⟨w.heap.size + 1, k, none⟩ = false := fun m => hfr
            have hcd := hidden (fun m => (hO.drewN m).pb.cells)
            clear hx hub htb hna hns hnn hO ha heq hlen hS hkz
            generalize L.getD k ltZ = y at *
            obtain ⟨u, v, c, gg⟩ := y
            simp only at q0 q1 q2 q3 ct ctd
            go_wp2_with fail
            go_quiet (fail)
            go_wp2
            go_roundw
            case rel => exact ⟨k + 1, hlt, by go_num, han.out, hOn.out _⟩
            case measure => simp [RowKit.intOf]; omega
          · have hnx := (hna.out k (Nat.le_of_lt hlt) ha).2 hlt heq
            obtain ⟨hT', hv'⟩ := hns.out _ hnx
            have hbq : (T.getD k 0 == (L.getD k ltZ).u) = false := by rw [beq_eq_false_iff_ne]; exact heq
            have hdq : decide (T.getD k 0 = (L.getD k ltZ).u) = false := decide_eq_false heq
            have hne : ((k : Int) == (L.length : Int)) = false := by rw [beq_eq_false_iff_ne]; omega
            have hOn := hidden (fun m => (hO.drewN m).put k (T.getD k 0 + 1))
            have hSn := hS.out
            rw [← hv'] at hSn
            have hrel := hidden (fun W (hW : OdAt w w.heap.size (w.heap.size + 1) (.slice (some ⟨bl, ol, none⟩) L.length lc) (.slice ca C.length cc) n ((zeC T k).set k (T.getD k 0 + 1)) W) => show OdRel1 L C w w.heap.size (w.heap.size + 1) (.slice (some ⟨bl, ol, none⟩) L.length lc) (.slice ca C.length cc) n (.int .i64 bi) (.bool true) W from ⟨_, bi, true, rfl, rfl, hT', hSn, hW⟩)
            have hmes := hidden (fun W (hW : OdAt w w.heap.size (w.heap.size + 1) (.slice (some ⟨bl, ol, none⟩) L.length lc) (.slice ca C.length cc) n ((zeC T k).set k (T.getD k 0 + 1)) W) => show mnN (OdM L (w.heap.size + 1) W) < (pdL L - vaC20 L T).toNat from by
              rw [odM_is hW.tk, hv']
              have := hvb.out
              omega)
            have ctd : ∀ m, (wr.drewN m).cell? ⟨w.heap.size + 1, k, none⟩ = some (.int .i64 (T.getD k 0)) := fun m => ct
            have frd : ∀ m, (wr.drewN m).frozen? ⟨w.heap.size + 1, k, none⟩ = false := fun m => hfr
            clear hx hub htb hna hns hnn hO ha heq hlen hS hkz hnx hT' hv' hSn
            generalize (zeC T k).set k (T.getD k 0 + 1) = T' at *
            generalize T.getD k 0 = tk at *
            generalize L.getD k ltZ = y at *
            obtain ⟨u, v, c, gg⟩ := y
            simp only at q0 q1 q2 q3 hbq hdq htb1 hub1
            go_wp2_with fail
            go_quiet (fail)
            go_wp2_with fail
            exact ⟨hrel.out _ (hOn.out _), by rw [hme.out]; exact hmes.out _ (hOn.out _)⟩
        · obtain rfl : k = L.length := by omega
          have hnx := hnn.out ((hna.out _ (Nat.le_refl _) ha).1 rfl)
          have hSn := hS.out
          rw [show vaC20 L T + 1 = pdL L by omega] at hSn
          have hend := hidden (fun m => below_drewN (m := m) hO.low)
          have hSn' := hidden hSn
          clear hx hub htb hna hns hnn hO ha hlen hS hnx hSn
          go_wp2_with fail
          go_quiet (fail)
          go_wp2
          go_ret2
          exact ⟨bi, true, rfl, hSn'.out, hend.out _⟩
end Go.Proofs.YtaojahjgfgmpfaaDoor
