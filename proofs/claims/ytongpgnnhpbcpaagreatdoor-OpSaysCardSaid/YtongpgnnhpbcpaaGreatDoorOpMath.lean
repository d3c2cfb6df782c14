/-
  Operations as numbers: which fields a kind uses, its word, whether there may be such an operation, its text's words, and what some words are parsed to. Nothing of a program stands here.
-/
import Derived.Test.YtongpgnnhpbcpaaGreatDoorOpNum
import Derived.Lib.IndexBytes
import Derived.Lib.Index
namespace Go.Proofs.YtongpgnnhpbcpaaGreatDoor
open Go.Lib

structure Opv where
  id : Int
  kd : Int
  a : Int
  b : Int
  c : Int
  d : Int
  n : Int
  m : Int
def nums (o : Opv) : List Int := [o.id, o.kd, o.a, o.b, o.c, o.d, o.n, o.m]
def fo (o : Opv) : Nat → Int
  | 0 => o.a
  | 1 => o.b
  | 2 => o.c
  | 3 => o.d
  | 4 => o.n
  | _ => o.m
def mkO (id kd : Int) (f : Nat → Int) : Opv := ⟨id, kd, f 0, f 1, f 2, f 3, f 4, f 5⟩
def zeO : Opv := ⟨0, 0, 0, 0, 0, 0, 0, 0⟩
theorem mk_fo (o : Opv) : mkO o.id o.kd (fo o) = o := rfl
theorem fo_mk (id kd : Int) (f : Nat → Int) (i : Nat) (h : i < 6) : fo (mkO id kd f) i = f i := by
  match i, h with
  | 0, _ => rfl
  | 1, _ => rfl
  | 2, _ => rfl
  | 3, _ => rfl
  | 4, _ => rfl
  | 5, _ => rfl
theorem mk_same {id kd : Int} {f g : Nat → Int} (h : ∀ i, i < 6 → f i = g i) : mkO id kd f = mkO id kd g := by
  unfold mkO
  rw [h 0 (by decide), h 1 (by decide), h 2 (by decide), h 3 (by decide), h 4 (by decide), h 5 (by decide)]
def OpBig (o : Opv) : Prop := ∀ x ∈ nums o, -9223372036854775808 ≤ x ∧ x ≤ 9223372036854775807
theorem OpBig.fld {o : Opv} (h : OpBig o) (i : Nat) : -9223372036854775808 ≤ fo o i ∧ fo o i ≤ 9223372036854775807 := by
  apply h
  match i with
  | 0 => simp [nums, fo]
  | 1 => simp [nums, fo]
  | 2 => simp [nums, fo]
  | 3 => simp [nums, fo]
  | 4 => simp [nums, fo]
  | _ + 5 => simp [nums, fo]
theorem OpBig.ids {o : Opv} (h : OpBig o) : (-9223372036854775808 ≤ o.id ∧ o.id ≤ 9223372036854775807) ∧ (-9223372036854775808 ≤ o.kd ∧ o.kd ≤ 9223372036854775807) :=
  ⟨h _ (by simp [nums]), h _ (by simp [nums])⟩

/-! the kinds -/
/-- the letters of the fields. -/
def letL : List UInt8 := [65, 66, 67, 68, 78, 77]
/-- the places that a kind uses. -/
def useT : List (List Nat) := [[], [0, 1, 4], [0, 1, 2, 3, 4], [0, 4], [0, 4], [0, 1, 4], [4], [0, 1, 2], [0, 1, 4], [0, 4], [0, 1, 4], [0, 1, 4], [0, 1, 2, 4, 5], [4], [0, 4], [0, 1, 4], [4, 5]]
def useL (k : Nat) : List Nat := useT.getD k []
def usB (k i : Nat) : Bool := (useL k).contains i
/-- .. as letters. -/
def useS (k : Nat) : List UInt8 := (useL k).map fun i => letL.getD i 0
/-- the words. -/
def nmT : List (List UInt8) := [[], [106, 111, 105, 110], [97, 115, 115, 101, 116], [112, 114, 105, 99, 101], [114, 97, 116, 101], [99, 117, 116], [102, 120, 99, 117, 116], [101, 108, 105, 103], [99, 97, 112], [110, 101, 101, 100], [100, 101, 112, 111, 115, 105, 116], [119, 105, 116, 104, 100, 114, 97, 119], [101, 120, 99, 104, 97, 110, 103, 101], [116, 105, 99, 107], [114, 101, 98, 97, 116, 101], [115, 99, 101, 110, 101], [102, 117, 110, 100]]
def nmS (k : Nat) : List UInt8 := nmT.getD k []
theorem idx_fin : ∀ (k : Fin 17) (i : Fin 6), decide (0 ≤ indexByte (useS k.val) (letL.getD i.val 0)) = usB k.val i.val := by decide +kernel
theorem idx_use {k i : Nat} (hk : k ≤ 16) (hi : i < 6) : decide (0 ≤ indexByte (useS k) (letL.getD i 0)) = usB k i := idx_fin ⟨k, by omega⟩ ⟨i, hi⟩
theorem use_fin : ∀ (k : Fin 17), ∀ i ∈ useL k.val, i < 6 := by decide +kernel
theorem use_lt {k : Nat} : ∀ i ∈ useL k, i < 6 := by
  intro i hi
  rcases Nat.lt_or_ge k 17 with h | h
  · exact use_fin ⟨k, h⟩ i hi
  · have : useL k = [] := by unfold useL; rw [List.getD_eq_getElem?_getD, List.getElem?_eq_none (by simp [useT]; omega)]; rfl
    rw [this] at hi; cases hi
theorem use_len_fin : ∀ (k : Fin 17), (useL k.val).length ≤ 5 ∧ (0 < k.val → 0 < (useL k.val).length) := by decide +kernel
theorem use_len {k : Nat} (h : k ≤ 16) : (useL k).length ≤ 5 ∧ (0 < k → 0 < (useL k).length) := use_len_fin ⟨k, by omega⟩
/-- the places that a kind uses, as they are gone through. -/
theorem places_fin : ∀ (k : Fin 17), (List.range 6).filter (usB k.val) = useL k.val := by decide +kernel
theorem places_at {k : Nat} (h : k ≤ 16) : (List.range 6).filter (usB k) = useL k := places_fin ⟨k, by omega⟩
theorem nm_inj_fin : ∀ (i j : Fin 17), nmS i.val = nmS j.val → i = j := by decide +kernel
theorem nm_inj {i j : Nat} (hi : i ≤ 16) (hj : j ≤ 16) (h : nmS i = nmS j) : i = j := congrArg Fin.val (nm_inj_fin ⟨i, by omega⟩ ⟨j, by omega⟩ h)
theorem nm_word_fin : ∀ (k : Fin 17), (∀ c ∈ nmS k.val, c ≠ 32) ∧ (nmS k.val).length ≤ 8 ∧ (nmS k.val = [] ↔ k.val = 0) := by decide +kernel
theorem nm_word {k : Nat} (h : k ≤ 16) : (∀ c ∈ nmS k, c ≠ 32) ∧ (nmS k).length ≤ 8 ∧ (nmS k = [] ↔ k = 0) := nm_word_fin ⟨k, by omega⟩
/-- Name's answer. -/
def nmV (kd : Int) : List UInt8 := if 1 ≤ kd ∧ kd ≤ 16 then nmS kd.toNat else []
/-- the kind of a word; 0: none. -/
def kdW (l : List UInt8) : Nat := ([1, 2, 3, 4, 5, 6, 7, 8, 9, 10, 11, 12, 13, 14, 15, 16].find? fun k => nmS k == l).getD 0
theorem kd_none {l : List UInt8} (h : ∀ j, 1 ≤ j → j ≤ 16 → nmS j ≠ l) : kdW l = 0 := by
  have : ([1, 2, 3, 4, 5, 6, 7, 8, 9, 10, 11, 12, 13, 14, 15, 16].find? fun k => nmS k == l) = none := by
    rw [List.find?_eq_none]
    intro x hx
    have hb : 1 ≤ x ∧ x ≤ 16 := by
      simp only [List.mem_cons, List.not_mem_nil, or_false] at hx
      omega
    simpa using h x hb.1 hb.2
  unfold kdW
  rw [this]; rfl
theorem kd_some {l : List UInt8} {k : Nat} (h1 : 1 ≤ k) (h2 : k ≤ 16) (h : nmS k = l) : kdW l = k := by
  unfold kdW
  cases hf : ([1, 2, 3, 4, 5, 6, 7, 8, 9, 10, 11, 12, 13, 14, 15, 16].find? fun k => nmS k == l) with
  | none =>
    rw [List.find?_eq_none] at hf
    have hk : k ∈ [1, 2, 3, 4, 5, 6, 7, 8, 9, 10, 11, 12, 13, 14, 15, 16] := by
      simp only [List.mem_cons, List.not_mem_nil, or_false]
      omega
    have := hf k hk
    simp [h] at this
  | some j =>
    have hj := List.find?_some hf
    have hm := List.mem_of_find?_eq_some hf
    have hb : 1 ≤ j ∧ j ≤ 16 := by
      simp only [List.mem_cons, List.not_mem_nil, or_false] at hm
      omega
    have e : nmS j = nmS k := by rw [h]; simpa using hj
    exact nm_inj hb.2 h2 e
theorem kd_ways (l : List UInt8) : (kdW l = 0 ∧ ∀ j, 1 ≤ j → j ≤ 16 → nmS j ≠ l) ∨ (1 ≤ kdW l ∧ kdW l ≤ 16 ∧ nmS (kdW l) = l) := by
  by_cases h : ∃ j, 1 ≤ j ∧ j ≤ 16 ∧ nmS j = l
  · obtain ⟨j, h1, h2, h3⟩ := h
    have := kd_some h1 h2 h3
    exact .inr (by rw [this]; exact ⟨h1, h2, h3⟩)
  · have h' : ∀ j, 1 ≤ j → j ≤ 16 → nmS j ≠ l := fun j h1 h2 h3 => h ⟨j, h1, h2, h3⟩
    exact .inl ⟨kd_none h', h'⟩
theorem kd_le (l : List UInt8) : kdW l ≤ 16 := by
  rcases kd_ways l with h | h
  · omega
  · exact h.2.1

/-! Valid -/
/-- the greatest number that a kind may have in a field. -/
def mxF (k i : Nat) : Int := if usB k i = true then (if i < 4 then 1048576 else 1000000000000000) else 0
def fdOk (o : Opv) (i : Nat) : Bool := decide (0 ≤ fo o i ∧ fo o i ≤ mxF o.kd.toNat i)
def opE (o : Opv) : Int := if ¬ (1 ≤ o.id ∧ o.id ≤ 1099511627776) then 103 else if ¬ (1 ≤ o.kd ∧ o.kd ≤ 16) then 111 else if (List.range 6).all (fdOk o) = true then 0 else 103
/-- what is answered beside the error. -/
def opR (o : Opv) : Opv := if opE o = 0 then o else zeO
structure OpOk (o : Opv) : Prop where
  id : 1 ≤ o.id ∧ o.id ≤ 1099511627776
  kd : 1 ≤ o.kd ∧ o.kd ≤ 16
  fd : ∀ i, i < 6 → fdOk o i = true
theorem op_fine {o : Opv} : opE o = 0 ↔ OpOk o := by
  unfold opE
  constructor
  · intro h
    split at h
    · cases h
    · rename_i h1
      split at h
      · cases h
      · rename_i h2
        split at h
        · rename_i h3
          rw [List.all_eq_true] at h3
          exact ⟨Classical.not_not.1 h1, Classical.not_not.1 h2, fun i hi => h3 i (List.mem_range.2 hi)⟩
        · cases h
  · intro h
    rw [if_neg (Classical.not_not.2 h.id), if_neg (Classical.not_not.2 h.kd), if_pos]
    rw [List.all_eq_true]
    exact fun i hi => h.fd i (List.mem_range.1 hi)
theorem op_id {o : Opv} (h : ¬ (1 ≤ o.id ∧ o.id ≤ 1099511627776)) : opE o = 103 := if_pos h
theorem op_kd {o : Opv} (h1 : 1 ≤ o.id ∧ o.id ≤ 1099511627776) (h : ¬ (1 ≤ o.kd ∧ o.kd ≤ 16)) : opE o = 111 := by unfold opE; rw [if_neg (Classical.not_not.2 h1), if_pos h]
theorem op_fd {o : Opv} (h1 : 1 ≤ o.id ∧ o.id ≤ 1099511627776) (h2 : 1 ≤ o.kd ∧ o.kd ≤ 16) {i : Nat} (hi : i < 6) (h : fdOk o i = false) : opE o = 103 := by
  unfold opE
  rw [if_neg (Classical.not_not.2 h1), if_neg (Classical.not_not.2 h2), if_neg]
  intro h3
  rw [List.all_eq_true] at h3
  rw [h3 i (List.mem_range.2 hi)] at h
  cases h
theorem op_ways (o : Opv) : opE o = 0 ∨ opE o = 103 ∨ opE o = 111 := by
  unfold opE
  split
  · exact .inr (.inl rfl)
  · split
    · exact .inr (.inr rfl)
    · split
      · exact .inl rfl
      · exact .inr (.inl rfl)
theorem OpOk.fld {o : Opv} (h : OpOk o) (i : Nat) (hi : i < 6) : 0 ≤ fo o i ∧ fo o i ≤ mxF o.kd.toNat i := of_decide_eq_true (h.fd i hi)
theorem mxF_le (k i : Nat) : 0 ≤ mxF k i ∧ mxF k i ≤ 1000000000000000 := by
  unfold mxF
  split
  · split <;> omega
  · omega
theorem OpOk.small {o : Opv} (h : OpOk o) (i : Nat) (hi : i < 6) : 0 ≤ fo o i ∧ fo o i ≤ 1000000000000000 := by
  have h1 := h.fld i hi
  have h2 := mxF_le o.kd.toNat i
  omega
theorem OpOk.none {o : Opv} (h : OpOk o) (i : Nat) (hi : i < 6) (hu : i ∉ useL o.kd.toNat) : fo o i = 0 := by
  have h1 := h.fld i hi
  unfold mxF at h1
  rw [if_neg (by unfold usB; simpa using hu)] at h1
  omega
theorem OpOk.nums {o : Opv} (h : OpOk o) : ∀ x ∈ nums o, 0 ≤ x ∧ x ≤ 4611686018427387904 := by
  intro x hx
  simp only [Proofs.YtongpgnnhpbcpaaGreatDoor.nums, List.mem_cons, List.not_mem_nil, or_false] at hx
  have := h.id
  have := h.kd
  have s0 := h.small 0 (by decide)
  have s1 := h.small 1 (by decide)
  have s2 := h.small 2 (by decide)
  have s3 := h.small 3 (by decide)
  have s4 := h.small 4 (by decide)
  have s5 := h.small 5 (by decide)
  simp only [fo] at s0 s1 s2 s3 s4 s5
  omega
theorem OpOk.big {o : Opv} (h : OpOk o) : OpBig o := fun x hx => by have := h.nums x hx; omega

/-! Text -/
/-- a text's words. -/
def txW (o : Opv) : List (List UInt8) := itoa o.id :: nmS o.kd.toNat :: (useL o.kd.toNat).map fun i => itoa (fo o i)
def txS (o : Opv) : List UInt8 := join (txW o) [32]
/-- what Text answers. -/
def txV (o : Opv) : List UInt8 := if opE o = 0 then txS o else []
theorem tx_space {o : Opv} (h : OpOk o) : ∀ w ∈ txW o, ∀ c ∈ w, c ≠ 32 := by
  intro w hw
  simp only [txW, List.mem_cons, List.mem_map] at hw
  rcases hw with rfl | rfl | ⟨i, hi, rfl⟩
  · exact itoa_space (by have := h.id; omega)
  · have := h.kd
    exact (nm_word (k := o.kd.toNat) (by omega)).1
  · exact itoa_space (h.small i (use_lt i hi)).1
theorem tx_split {o : Opv} (h : OpOk o) : spl [] (txS o) = txW o := spl_join _ (by simp [txW]) (tx_space h)
theorem itoa_short {v : Int} (h0 : 0 ≤ v) (h1 : v < 1000000000000000000) : (itoa v).length ≤ 18 := by
  obtain ⟨u, rfl⟩ := Int.eq_ofNat_of_zero_le h0
  rw [itoa_nat]
  exact digits_short (by omega)
theorem tx_word {o : Opv} (h : OpOk o) : ∀ w ∈ txW o, w.length ≤ 18 := by
  intro w hw
  simp only [txW, List.mem_cons, List.mem_map] at hw
  rcases hw with rfl | rfl | ⟨i, hi, rfl⟩
  · exact itoa_short (by have := h.id; omega) (by have := h.id; omega)
  · have := h.kd
    have := (nm_word (k := o.kd.toNat) (by omega)).2.1
    omega
  · have := h.small i (use_lt i hi)
    exact itoa_short (by omega) (by omega)
theorem tx_len {o : Opv} (h : OpOk o) : 3 ≤ (txW o).length ∧ (txW o).length ≤ 7 := by
  have hk := h.kd
  have h5 := use_len (k := o.kd.toNat) (by omega)
  have h6 := h5.2 (by omega)
  simp only [txW, List.length_cons, List.length_map]
  omega
theorem lens_le {ws : List (List UInt8)} {n : Nat} (h : ∀ w ∈ ws, w.length ≤ n) : lens ws ≤ n * ws.length := by
  induction ws with
  | nil => simp [lens]
  | cons w ws ih =>
    have h1 := ih fun x hx => h x (List.mem_cons_of_mem _ hx)
    have h2 := h w (by simp)
    simp only [lens, List.map_cons, List.sum_cons, List.length_cons] at h1 ⊢
    rw [Nat.mul_succ]
    omega
theorem txS_len {o : Opv} (h : OpOk o) : (txS o).length ≤ 132 := by
  have hl := tx_len h
  have hw := lens_le (tx_word h)
  unfold txS
  cases hc : txW o with
  | nil => rw [hc] at hl; simp at hl
  | cons x r =>
    rw [hc] at hl hw
    rw [join_length]
    simp only [List.length_cons] at hl hw ⊢
    have e : lens (x :: r) ≤ 126 := by omega
    simp only [List.length_nil]
    omega

/-! Parse -/
/-- the kind of some words; 0: none. -/
def paK (W : List (List UInt8)) : Nat := kdW (W.getD 1 [])
/-- the j-th number behind the word. -/
def paN (W : List (List UInt8)) (j : Nat) : Option Int := nuO (W.getD (2 + j) [])
/-- the fields behind j numbers. -/
def paS (W : List (List UInt8)) (L : List Nat) : Nat → Nat → Int
  | 0 => fun _ => 0
  | j + 1 => fun p => if p = L.getD j 0 then (paN W j).getD 0 else paS W L j p
def paI (W : List (List UInt8)) : Int := (nuO (W.getD 0 [])).getD 0
def paO (W : List (List UInt8)) : Opv := mkO (paI W) (paK W : Int) (paS W (useL (paK W)) (useL (paK W)).length)
def paShape (W : List (List UInt8)) : Bool := decide (2 ≤ W.length ∧ paK W ≠ 0 ∧ W.length = 2 + (useL (paK W)).length)
def paAll (W : List (List UInt8)) : Bool := (nuO (W.getD 0 [])).isSome && (List.range (useL (paK W)).length).all fun j => (paN W j).isSome
/-- the error's number. -/
def paC (W : List (List UInt8)) : Int := if paShape W = false then 118 else if paAll W = false then 119 else opE (paO W)
def paR (W : List (List UInt8)) : Opv := if paC W = 0 then paO W else zeO
theorem pa_bad {W : List (List UInt8)} (h : paC W ≠ 0) : paR W = zeO := if_neg h
theorem pa_shape {W : List (List UInt8)} (h : paShape W = false) : paC W = 118 := if_pos h
theorem pa_nums {W : List (List UInt8)} (h1 : paShape W = true) (h2 : paAll W = false) : paC W = 119 := by unfold paC; rw [if_neg (by rw [h1]; decide), if_pos h2]
theorem pa_end {W : List (List UInt8)} (h1 : paShape W = true) (h2 : paAll W = true) : paC W = opE (paO W) ∧ paR W = opR (paO W) := by
  have : paC W = opE (paO W) := by unfold paC; rw [if_neg (by rw [h1]; decide), if_neg (by rw [h2]; decide)]
  refine ⟨this, ?_⟩
  unfold paR opR
  rw [this]
theorem pa_few {W : List (List UInt8)} (h : W.length < 2) : paShape W = false := decide_eq_false (by omega)
theorem pa_kind {W : List (List UInt8)} (h : paK W = 0) : paShape W = false := decide_eq_false (fun e => e.2.1 h)
theorem pa_len {W : List (List UInt8)} (h : W.length ≠ 2 + (useL (paK W)).length) : paShape W = false := decide_eq_false (fun e => h e.2.2)
theorem pa_ok {W : List (List UInt8)} (h1 : 2 ≤ W.length) (h2 : paK W ≠ 0) (h3 : W.length = 2 + (useL (paK W)).length) : paShape W = true := decide_eq_true ⟨h1, h2, h3⟩
theorem pa_first {W : List (List UInt8)} (h : nuO (W.getD 0 []) = none) : paAll W = false := by unfold paAll; rw [h]; rfl
theorem pa_at {W : List (List UInt8)} {j : Nat} (hj : j < (useL (paK W)).length) (h : paN W j = none) : paAll W = false := by
  unfold paAll
  have : ((List.range (useL (paK W)).length).all fun j => (paN W j).isSome) = false := by
    rw [List.all_eq_false]
    exact ⟨j, List.mem_range.2 hj, by rw [h]; decide⟩
  rw [this, Bool.and_false]
theorem pa_all {W : List (List UInt8)} (h0 : (nuO (W.getD 0 [])).isSome = true) (h : ∀ j, j < (useL (paK W)).length → (paN W j).isSome = true) : paAll W = true := by
  unfold paAll
  rw [h0, Bool.true_and, List.all_eq_true]
  exact fun j hj => h j (List.mem_range.1 hj)
theorem paS_at {W : List (List UInt8)} {L : List Nat} {g : Nat → Int} (h : ∀ j, j < L.length → (paN W j).getD 0 = g (L.getD j 0)) : ∀ j, j ≤ L.length → ∀ p, paS W L j p = if p ∈ L.take j then g p else 0 := by
  intro j
  induction j with
  | zero => intro _ p; simp [paS]
  | succ j ih =>
    intro hj p
    have e : L.take (j + 1) = L.take j ++ [L.getD j 0] := by
      rw [List.take_succ_eq_append_getElem (by omega), List.getD_eq_getElem?_getD, List.getElem?_eq_getElem (by omega)]; rfl
    show (if p = L.getD j 0 then (paN W j).getD 0 else paS W L j p) = _
    rw [ih (by omega) p, h j (by omega), e]
    by_cases hp : p = L.getD j 0
    · subst hp
      rw [if_pos rfl, if_pos (by simp)]
    · rw [if_neg hp]
      by_cases hm : p ∈ L.take j
      · rw [if_pos hm, if_pos (by simp [hm])]
      · rw [if_neg hm, if_neg (by rw [List.mem_append, List.mem_singleton]; rintro (h1 | h1); exact hm h1; exact hp h1)]
/-- The text's words are parsed to what they are of. -/
theorem pa_back {o : Opv} (h : OpOk o) : paC (txW o) = 0 ∧ paO (txW o) = o := by
  have hk := h.kd
  have hkN : (o.kd.toNat : Int) = o.kd := Int.toNat_of_nonneg (by omega)
  have eK : paK (txW o) = o.kd.toNat := by
    show kdW (nmS o.kd.toNat) = _
    exact kd_some (by omega) (by omega) rfl
  have eI : nuO ((txW o).getD 0 []) = some o.id := nuO_itoa (by have := h.id; omega) (by have := h.id; omega)
  have eN : ∀ j, j < (useL o.kd.toNat).length → paN (txW o) j = some (fo o ((useL o.kd.toNat).getD j 0)) := fun j hj => by
    unfold paN
    have e1 : (txW o).getD (2 + j) [] = itoa (fo o ((useL o.kd.toNat).getD j 0)) := by
      rw [show 2 + j = j + 1 + 1 by omega]
      simp only [txW, List.getD_cons_succ]
      rw [List.getD_eq_getElem?_getD, List.getElem?_map, List.getElem?_eq_getElem hj, List.getD_eq_getElem?_getD, List.getElem?_eq_getElem hj]
      rfl
    have hm : (useL o.kd.toNat).getD j 0 ∈ useL o.kd.toNat := by
      rw [List.getD_eq_getElem?_getD, List.getElem?_eq_getElem hj]
      exact List.getElem_mem hj
    have hs := h.small _ (use_lt _ hm)
    rw [e1]
    exact nuO_itoa (by omega) (by omega)
  have eO : paO (txW o) = o := by
    unfold paO
    rw [eK, hkN]
    unfold paI
    rw [eI]
    refine (mk_same (g := fo o) fun i hi => ?_).trans (mk_fo o)
    rw [paS_at (g := fo o) (fun j hj => by rw [eN j hj]; rfl) _ (Nat.le_refl _), List.take_length]
    by_cases hm : i ∈ useL o.kd.toNat
    · rw [if_pos hm]
    · rw [if_neg hm]
      exact (h.none i hi hm).symm
  refine ⟨?_, eO⟩
  unfold paC
  have h1 : paShape (txW o) = true := by
    unfold paShape
    rw [eK]
    refine decide_eq_true ⟨by simp [txW], by omega, by simp [txW]; omega⟩
  have h2 : paAll (txW o) = true := by
    unfold paAll
    rw [eI, eK]
    simp only [Option.isSome_some, Bool.true_and, List.all_eq_true, List.mem_range]
    intro j hj
    rw [eN j hj]; rfl
  rw [if_neg (by rw [h1]; decide), if_neg (by rw [h2]; decide), eO]
  exact op_fine.2 h
/-- Unlike operations have unlike texts. -/
theorem tx_inj {o p : Opv} (ho : OpOk o) (hp : OpOk p) (h : txS o = txS p) : o = p := by
  have h1 := tx_split ho
  rw [h, tx_split hp] at h1
  rw [← (pa_back ho).2, ← h1, (pa_back hp).2]
end Go.Proofs.YtongpgnnhpbcpaaGreatDoor
