/-
  All, Top, Two, Cover.
-/
import Derived.Test.YtlanggdmdpjfbaaDoorStress2
namespace Go.Proofs.YtlanggdmdpjfbaaDoor
open Go.RowKit Go.Maps
set_option linter.unusedVariables false

def celCs (x : CelT) : List Value := [.int .i64 x.1, .int .i64 x.2]
theorem celCs_len (x : CelT) : (celCs x).length = 2 := rfl
theorem celCs_one (x : CelT) : ∀ u ∈ celCs x, u.oneCell' = true := fun u hu => by
  simp only [celCs, List.mem_cons, List.not_mem_nil, or_false] at hu
  rcases hu with rfl | rfl <;> rfl
theorem infoCel : (Tryd.prog.info? 36).map (fun i => (i.zero, i.size, i.bytes)) = some (some (.agg #[.int .i64 0, .int .i64 0]), 2, 16) := by kernel_rfl
abbrev OwnCel (B : Nat) (w : World) (v : Value) (l : List CelT) : Prop := OwnR celCs 2 36 B w v l
theorem ret_iiv {k j : IntKind} {a b c d : Int} {u v : Value} (h : a = b) (h2 : c = d) (g : u = v) : Ending.returned (.tuple #[.int k a, .int j c, u]) = .returned (.tuple #[.int k b, .int j d, v]) := by rw [h, h2, g]
theorem errOf_bad (A : Nat → Addr) {c : Int} (h : c ≠ 0) : ∃ a, errOf A c = errAt a := ⟨_, if_neg h⟩

def LoAllRel (T : LTab) (w0 : World) (v i : Value) (w : World) : Prop := ∃ k : Nat, k ≤ 16 ∧ i = .int .i64 ((k : Int) + 1) ∧ OwnCel w0.heap.size w v (allLK T k) ∧ Below w0.heap.size w0 w
def LoAllIn (T : LTab) (k : Nat) (w0 : World) (v i : Value) (w : World) : Prop := ∃ j : Nat, j ≤ 32 ∧ i = .int .i64 ((j : Int) + 1) ∧ OwnCel w0.heap.size w v (preL T k j) ∧ Below w0.heap.size w0 w
def LoListAt (l : List CelT) (w : World) (e : Ending) (w' : World) : Prop := ∃ v, e = .returned v ∧ OwnCel w.heap.size w' v l ∧ Below w.heap.size w w'
def TopRel (l : List Int) (w0 : World) (a b i : Value) (w : World) : Prop :=
  ∃ k : Nat, k ≤ l.length ∧ i = .int .i64 (k : Int) ∧ a = .int .i64 (topA (l.take k)).1 ∧ b = .int .i64 (topA (l.take k)).2 ∧ (∀ j, j < k → amOk (l.getD j 0)) ∧ w0 = w
theorem take_all22 {l : List Int} (k : Nat) (h : ∀ j, j < k → amOk (l.getD j 0)) (hk : k ≤ l.length) : AllAm (l.take k) := by
  refine allAm_of fun j hj => ?_
  rw [List.length_take] at hj
  have := h j (by omega)
  rw [List.getD_eq_getElem?_getD, List.getElem?_take, if_pos (by omega), ← List.getD_eq_getElem?_getD]
  exact this
theorem topS_new {a b x : Int} (h : a < x) (hb : b ≤ a) : topS (a, b) x = (x, a) := by simp only [topS, Prod.mk.injEq]; omega
theorem topS_second {a b x : Int} (h : ¬ a < x) (h2 : b < x) : topS (a, b) x = (a, x) := by simp only [topS, Prod.mk.injEq]; omega
theorem topS_none {a b x : Int} (h : ¬ a < x) (h2 : ¬ b < x) : topS (a, b) x = (a, b) := by simp only [topS, Prod.mk.injEq]; omega
set_option maxRecDepth 100000 in
set_option maxHeartbeats 3200000 in
theorem loTop_any (A : Nat → Addr) (w : World) (v : Value) (l : List Int) (hr : Reads .i64 w v l) (hE : ErrsOn [2, 3] w A) :
    Calls Tryd.prog 43 #[v] w fun e w' => e = .returned (.tuple #[.int .i64 (topV l), errOf A (topC l)]) ∧ Below w.heap.size w w' := by
  obtain ⟨a1, c1, rfl⟩ := reads_slice hr
  have hx1 := hidden (fun i hi => hr.cell i hi)
  have c2 : w.cell? ⟨0, 0, none⟩ = some (errAt (A 2)) := hE 2 (by simp)
  have c3 : w.cell? ⟨2, 0, none⟩ = some (errAt (A 3)) := hE 3 (by simp)
  have hQ := hidden (fun x => isAmount_any x w)
  have hml : (l.length : Int) ≤ 9223372036854775807 := by
    have := reads_cap hr
    unfold maxLen at this
    omega
  clear hr hE
  go_enter Tryd.func43, Tryd.ntmps43
  go_wp2_with fail
  go_loopw [4, 5, 10] (fun a b i wr => TopRel l w a b i wr) (fun _ _ i _ => l.length - (RowKit.intOf i).toNat)
  case atStart => exact ⟨0, Nat.zero_le _, rfl, rfl, rfl, (fun j hj => by omega), rfl⟩
  case round =>
    obtain ⟨k, hk, rfl, rfl, rfl, hok, rfl⟩ := hrel
    have hbd := topA_bd (take_all22 k hok hk)
    by_cases hlt : k < l.length
    · obtain ⟨b, o, rfl, q0⟩ := hx1.out k hlt
      have hlI : (k : Int) < (l.length : Int) := by omega
      have htk := hidden (topA_take l k hlt)
      have hQ1 := hidden (hQ.out (l.getD k 0))
      by_cases hx : amOk (l.getD k 0)
      · rw [decide_eq_true hx] at hQ1
        have hok2 := hidden (show ∀ j, j < k + 1 → amOk (l.getD j 0) from fun j hj => by
          by_cases e : j = k
          · subst e; exact hx
          · exact hok j (by omega))
        generalize l.getD k 0 = x at *
        generalize topA (l.take k) = p at *
        obtain ⟨a, b2⟩ := p
        simp only at hbd
        clear hok hx1 hQ hx
        by_cases h1 : a < x
        · rw [topS_new h1 hbd.2.1] at htk
          go_wp2_with fail
          refine hQ1.out.mono ?_
          rintro e w' ⟨rfl, rfl⟩
          clear hQ1
          go_wp2
          go_roundw
          case rel => exact ⟨k + 1, hlt, by go_num, by rw [htk.out], by rw [htk.out], hok2.out, rfl⟩
          case measure => simp [RowKit.intOf]; omega
        · by_cases h2 : b2 < x
          · rw [topS_second h1 h2] at htk
            go_wp2_with fail
            refine hQ1.out.mono ?_
            rintro e w' ⟨rfl, rfl⟩
            clear hQ1
            go_wp2
            go_roundw
            case rel => exact ⟨k + 1, hlt, by go_num, by rw [htk.out], by rw [htk.out], hok2.out, rfl⟩
            case measure => simp [RowKit.intOf]; omega
          · rw [topS_none h1 h2] at htk
            go_wp2_with fail
            refine hQ1.out.mono ?_
            rintro e w' ⟨rfl, rfl⟩
            clear hQ1
            go_wp2
            go_roundw
            case rel => exact ⟨k + 1, hlt, by go_num, by rw [htk.out], by rw [htk.out], hok2.out, rfl⟩
            case measure => simp [RowKit.intOf]; omega
      · rw [decide_eq_false hx] at hQ1
        have hbad := topC_bad (l := l) fun h => hx (h _ (getI22_mem hlt))
        have hr1 := hidden (show 0 = topV l from hbad.2.symm)
        have hr2 := hidden (show errAt (A 2) = errOf A (topC l) by rw [hbad.1]; rfl)
        generalize l.getD k 0 = x at *
        generalize topA (l.take k) = p at *
        clear hok hx1 hQ hx hbad htk hbd
        go_wp2_with fail
        refine hQ1.out.mono ?_
        rintro e w' ⟨rfl, rfl⟩
        clear hQ1
        go_wp2_with fail
        go_quiet (fail)
        go_wp2
        go_ret2
        exact ⟨ret_iv hr1.out hr2.out, below_drewN (Below.refl _ _)⟩
    · obtain rfl : k = l.length := by omega
      have hall := take_all22 _ hok hk
      rw [List.take_length] at hall hbd
      rw [List.take_length]
      have hT := hidden (And.intro (@topC_over l hall) (@topC_fine l hall))
      generalize hp : topA l = p at *
      obtain ⟨a, b⟩ := p
      simp only at hbd hT
      clear hok hx1 hQ hall hp
      by_cases h1 : 1000000000000000 < a + b
      · obtain ⟨e1, e2⟩ := hT.out.1 h1
        have hr1 := hidden (show 0 = topV l from e2.symm)
        have hr2 := hidden (show errAt (A 3) = errOf A (topC l) by rw [e1]; rfl)
        clear hT e1 e2
        go_wp2_with fail
        go_quiet (fail)
        go_wp2
        go_ret2
        exact ⟨ret_iv hr1.out hr2.out, below_drewN (Below.refl _ _)⟩
      · obtain ⟨e1, e2⟩ := hT.out.2 h1
        have hr1 := hidden (show a + b = topV l from e2.symm)
        have hr2 := hidden (show Value.nilIface = errOf A (topC l) by rw [e1]; rfl)
        clear hT e1 e2
        go_wp2
        go_ret2
        exact ⟨ret_iv hr1.out hr2.out, Below.refl _ _⟩

/-! Two. -/
def TwoRel (T : LTab) (s : Int) (l : List Int) (w0 : World) (i : Value) (w : World) : Prop :=
  ∃ k : Nat, k ≤ l.length ∧ i = .int .i64 (k : Int) ∧ (∀ j, j < k → amOk (l.getD j 0)) ∧ LongAt w w0.heap.size (abvN T s l k) ∧ Below w0.heap.size w0 w
theorem abvAt_up {T : LTab} {s : Int} {l : List Int} {i : Nat} (h : 0 ≤ getL T (s, (i : Int) + 1) - l.getD i 0) : abvAt T s l i = getL T (s, (i : Int) + 1) - l.getD i 0 := by unfold abvAt; omega
theorem abvAt_no {T : LTab} {s : Int} {l : List Int} {i : Nat} (h : ¬ 0 ≤ getL T (s, (i : Int) + 1) - l.getD i 0) : abvAt T s l i = 0 := by unfold abvAt; omega
set_option maxRecDepth 100000 in
set_option maxHeartbeats 3200000 in
theorem loTwo_any (A : Nat → Addr) (w : World) (B g n : Nat) (T : LTab) (h : LoAt w B g n T) (s : Int) (v : Value) (l : List Int) (hr : Reads .i64 w v l) (hE : ErrsOn [2, 3, 4] w A) :
    Calls Tryd.prog 33 #[.pointer (some ⟨g, 0, none⟩), .int .i64 s, v] w fun e w' => e = .returned (.tuple #[.int .i64 (twoV T s l), errOf A (twoC T s l)]) ∧ Below w.heap.size w w' := by
  obtain ⟨a1, c1, rfl⟩ := reads_slice hr
  have hx1 := hidden (fun i hi W (hb : Below w.heap.size w W) => (hr.below hb (Nat.le_refl _)).cell i hi)
  have hE2 := hidden (fun W (hb : Below w.heap.size w W) => show W.cell? ⟨0, 0, none⟩ = some (errAt (A 2)) from (hE.below hb (Nat.le_refl _)) 2 (by simp))
  have c4 : w.cell? ⟨1, 0, none⟩ = some (errAt (A 4)) := hE 4 (by simp)
  have c2 := hE2.out w (Below.refl _ _)
  have hS := hidden (isScene_any s w)
  have hQ := hidden (fun x W => isAmount_any x W)
  have hG := hidden (fun W (hb : Below w.heap.size w W) s hs => loGet_any W B g n T (h.below hb (Nat.le_refl _)) s hs)
  have hP := hidden (fun W (hb : Below w.heap.size w W) v l hr => loTop_any A W v l hr ((hE.sub (ks := [2, 3]) (by simp)).below hb (Nat.le_refl _)))
  have hlo := hidden h.lo
  clear hr hE h
  by_cases hM : 32 < l.length
  · obtain ⟨e1, e2⟩ := two_many (T := T) (s := s) hM
    have hr1 := hidden (show 0 = twoV T s l from e2.symm)
    have hr2 := hidden (show errAt (A 4) = errOf A (twoC T s l) by rw [e1]; rfl)
    have hMI : (32 : Int) < (l.length : Int) := by omega
    clear e1 e2 hM hS hQ hG hP hx1 hE2 hlo
    go_enter Tryd.func33, Tryd.ntmps33
    go_wp2_with fail
    go_quiet (fail)
    go_wp2
    go_ret2
    exact ⟨ret_iv hr1.out hr2.out, below_drewN (Below.refl _ _)⟩
  · have hMI : (l.length : Int) ≤ 32 := by omega
    by_cases hs : scOk s
    · rw [decide_eq_true hs] at hS
      have hsI := hs
      unfold scOk at hsI
      have hmk := mk_longs l.length (by omega)
      have hn0 := hidden (longAt_new w l.length)
      rw [← abvN_zero T s l] at hn0
      have hbn := hidden ((Below.refl _ w).alloc (Nat.le_refl _) (.cells (Array.replicate l.length (.int .i64 0)) 2))
      replace hs := hidden hs
      clear c2 c4
      go_enter Tryd.func33, Tryd.ntmps33
      go_wp2_with fail
      refine hS.out.mono ?_
      rintro e w' ⟨rfl, rfl⟩
      clear hS
      go_wp2_with fail
      go_loopw [24] (fun i wr => TwoRel T s l w i wr) (fun i _ => l.length - (RowKit.intOf i).toNat)
      case atStart => exact ⟨0, Nat.zero_le _, rfl, (fun j hj => by omega), hn0.out, hbn.out⟩
      case round =>
        clear hn0 hbn
        obtain ⟨k, hk, rfl, hok, hL, hb⟩ := hrel
        by_cases hlt : k < l.length
        · obtain ⟨b, o, rfl, q0⟩ := hx1.out k hlt _ hb
          have hlI : (k : Int) < (l.length : Int) := by omega
          have hQ1 := hidden (hQ.out (l.getD k 0) wr)
          by_cases hx : amOk (l.getD k 0)
          · rw [decide_eq_true hx] at hQ1
            have hok2 := hidden (show ∀ j, j < k + 1 → amOk (l.getD j 0) from fun j hj => by
              by_cases e : j = k
              · subst e; exact hx
              · exact hok j (by omega))
            have hst := hidden (abvN_set T s l k hlt)
            have hlen := hidden (abvN_len T s l k hk)
            have hup := hidden (@abvAt_up T s l k)
            have hno := hidden (@abvAt_no T s l k)
            have hgb := hlo.out.get (s, (k : Int) + 1)
            have hG1 := hidden (hG.out wr hb (s, (k : Int) + 1) (by unfold celIn; simp only; omega))
            have hxI := hx
            unfold amOk at hxI
            generalize getL T (s, (k : Int) + 1) = y at *
            generalize abvAt T s l k = z at *
            generalize hL2e : abvN T s l (k + 1) = L2 at *
            replace hL2e := hidden hL2e
            generalize abvN T s l k = L1 at *
            generalize l.getD k 0 = x at *
            replace hL := hidden hL
            replace hb := hidden hb
            have hwr := hidden hL.out.lt
            clear hok hx1 hQ hx hG hP hE2 hlo hs hmk
            by_cases h0 : 0 ≤ y - x
            · obtain rfl := hup.out h0
              go_wp2_with fail
              refine hQ1.out.mono ?_
              rintro e w' ⟨rfl, rfl⟩
              clear hQ1
              go_wp2_with fail
              refine hG1.out.mono ?_
              rintro e w6 ⟨rfl, hb7⟩
              have hL6 := hL.out.below hb7 (Nat.le_refl _)
              have hb8 := hidden (hb.out.trans (hb7.mono hb.out.size))
              have c5 := hL6.cell (i := k) (by rw [hlen.out]; exact hlt)
              have f5 := hL6.frozen k
              have hL7 := hidden (hL6.set k (y - x))
              rw [hst.out] at hL7
              have hb9 := hidden (show Below w.heap.size w (w6.setCell ⟨w.heap.size, k, none⟩ (.int .i64 (y - x))) from hb8.out.setCell (Nat.le_refl _) _)
              clear hG1 hb7 hL hL6 hlen hst hup hno
              generalize L1.getD k 0 = zz at *
              go_wp2
              go_roundw
              case rel => exact ⟨k + 1, hlt, by go_num, hok2.out, by rw [hL2e.out]; exact hL7.out, hb9.out⟩
              case measure => simp [RowKit.intOf]; omega
            · obtain rfl := hno.out h0
              go_wp2_with fail
              refine hQ1.out.mono ?_
              rintro e w' ⟨rfl, rfl⟩
              clear hQ1
              go_wp2_with fail
              refine hG1.out.mono ?_
              rintro e w6 ⟨rfl, hb7⟩
              have hL6 := hL.out.below hb7 (Nat.le_refl _)
              have hb8 := hidden (hb.out.trans (hb7.mono hb.out.size))
              have c5 := hL6.cell (i := k) (by rw [hlen.out]; exact hlt)
              have f5 := hL6.frozen k
              have hL7 := hidden (hL6.set k 0)
              rw [hst.out] at hL7
              have hb9 := hidden (show Below w.heap.size w (w6.setCell ⟨w.heap.size, k, none⟩ (.int .i64 0)) from hb8.out.setCell (Nat.le_refl _) _)
              clear hG1 hb7 hL hL6 hlen hst hup hno
              generalize L1.getD k 0 = zz at *
              go_wp2
              go_roundw
              case rel => exact ⟨k + 1, hlt, by go_num, hok2.out, by rw [hL2e.out]; exact hL7.out, hb9.out⟩
              case measure => simp [RowKit.intOf]; omega
          · rw [decide_eq_false hx] at hQ1
            have hbad := two_bad (T := T) hM hs.out (l := l) fun h => hx (h _ (getI22_mem hlt))
            have hr1 := hidden (show 0 = twoV T s l from hbad.2.symm)
            have hr2 := hidden (show errAt (A 2) = errOf A (twoC T s l) by rw [hbad.1]; rfl)
            have cE := hE2.out wr hb
            generalize l.getD k 0 = x at *
            replace hb := hidden hb
            clear hok hx1 hQ hx hbad hL hG hP hE2 hlo hs hmk
            go_wp2_with fail
            refine hQ1.out.mono ?_
            rintro e w' ⟨rfl, rfl⟩
            clear hQ1
            go_wp2_with fail
            go_quiet (fail)
            go_wp2
            go_ret2
            exact ⟨ret_iv hr1.out hr2.out, below_drewN hb.out⟩
        · obtain rfl : k = l.length := by omega
          have hall := allAm_of hok
          rw [abvN_all] at hL
          have hP1 := hidden (hP.out wr hb _ _ (hL.reads (n := l.length) (abvK_len _ _ _ _) (by omega)))
          obtain ⟨e1, e2⟩ := two_top (T := T) hM hs.out hall
          rw [← e1, ← e2] at hP1
          replace hb := hidden hb
          clear hok hx1 hQ hL hG hP hE2 hlo hs hmk hall e1 e2
          generalize hr1 : twoV T s l = rv at *
          generalize hr2 : errOf A (twoC T s l) = re at *
          replace hr1 := hidden hr1
          replace hr2 := hidden hr2
          go_wp2_with fail
          refine hP1.out.mono ?_
          rintro e w' ⟨rfl, hb2⟩
          have hb3 := hidden (hb.out.trans (hb2.mono hb.out.size))
          clear hb2 hP1
          go_wp2
          go_ret2
          exact ⟨ret_iv hr1.out.symm hr2.out.symm, hb3.out⟩
    · rw [decide_eq_false hs] at hS
      obtain ⟨e1, e2⟩ := two_scene (T := T) hM hs
      have hr1 := hidden (show 0 = twoV T s l from e2.symm)
      have hr2 := hidden (show errAt (A 2) = errOf A (twoC T s l) by rw [e1]; rfl)
      clear e1 e2 hM hQ hG hP hx1 hE2 hlo hs
      go_enter Tryd.func33, Tryd.ntmps33
      go_wp2_with fail
      refine hS.out.mono ?_
      rintro e w' ⟨rfl, rfl⟩
      clear hS
      go_wp2_with fail
      go_quiet (fail)
      go_wp2
      go_ret2
      exact ⟨ret_iv hr1.out hr2.out, below_drewN (Below.refl _ _)⟩

/-! Cover. -/
def CovRel (T : LTab) (l : List Int) (w0 : World) (m s i : Value) (w : World) : Prop :=
  ∃ k : Nat, k ≤ 16 ∧ i = .int .i64 ((k : Int) + 1) ∧ m = .int .i64 (covS T l k).v ∧ s = .int .i64 (covS T l k).s ∧ (covS T l k).c = 0 ∧ Below w0.heap.size w0 w
set_option maxRecDepth 100000 in
set_option maxHeartbeats 3200000 in
theorem loCover_any (A : Nat → Addr) (w : World) (B g n : Nat) (T : LTab) (h : LoAt w B g n T) (v : Value) (l : List Int) (hr : Reads .i64 w v l) (hE : ErrsOn [2, 3, 4] w A) :
    Calls Tryd.prog 18 #[.pointer (some ⟨g, 0, none⟩), v] w fun e w' => e = .returned (.tuple #[.int .i64 (covR T l).v, .int .i64 (covR T l).s, errOf A (covR T l).c]) ∧ Below w.heap.size w w' := by
  have hT := hidden (fun W (hb : Below w.heap.size w W) s => loTwo_any A W B g n T (h.below hb (Nat.le_refl _)) s v l (hr.below hb (Nat.le_refl _)) (hE.below hb (Nat.le_refl _)))
  clear hr hE h
  go_enter Tryd.func18, Tryd.ntmps18
  go_wp2_with fail
  go_loopw [7, 8, 9] (fun m s i wr => CovRel T l w m s i wr) (fun _ _ i _ => 17 - (RowKit.intOf i).toNat)
  case atStart => exact ⟨0, by omega, rfl, rfl, rfl, rfl, Below.refl _ _⟩
  case round =>
    obtain ⟨k, hk, rfl, rfl, rfl, hc, hb⟩ := hrel
    by_cases hlt : k < 16
    · have hkI : (k : Int) + 1 ≤ 16 := by omega
      have hT1 := hidden (hT.out wr hb ((k : Int) + 1))
      have hbad := hidden (fun h2 => covS_bad (T := T) (l := l) hlt hc h2)
      have hnew := hidden (fun h2 h3 => covS_new (T := T) (l := l) (k := k) hc h2 h3)
      have hold := hidden (fun h2 h3 => covS_old (T := T) (l := l) (k := k) hc h2 h3)
      have hcc := hidden hc
      generalize hP : covS T l k = P at *
      obtain ⟨pc, pv, ps⟩ := P
      simp only at hc hcc hnew hold
      subst hc
      replace hP := hidden hP
      generalize twoC T ((k : Int) + 1) l = c at *
      generalize twoV T ((k : Int) + 1) l = y at *
      replace hb := hidden hb
      clear hT
      by_cases h0 : c = 0
      · subst h0
        rw [errOf_fine] at hT1
        by_cases h1 : pv < y
        · have hn := hidden (hnew.out rfl h1)
          clear hnew hold hbad
          go_wp2_with fail
          refine hT1.out.mono ?_
          rintro e w' ⟨rfl, hb2⟩
          have hb3 := hidden (hb.out.trans (hb2.mono hb.out.size))
          clear hb2 hT1
          go_wp2
          go_roundw
          case rel => exact ⟨k + 1, by omega, by go_num, by rw [hn.out], by rw [hn.out], by rw [hn.out], hb3.out⟩
          case measure => simp [RowKit.intOf]; omega
        · have hn := hidden (hold.out rfl h1)
          clear hnew hold hbad
          go_wp2_with fail
          refine hT1.out.mono ?_
          rintro e w' ⟨rfl, hb2⟩
          have hb3 := hidden (hb.out.trans (hb2.mono hb.out.size))
          clear hb2 hT1
          go_wp2
          go_roundw
          case rel => exact ⟨k + 1, by omega, by go_num, by rw [hn.out], by rw [hn.out], by rw [hn.out], hb3.out⟩
          case measure => simp [RowKit.intOf]; omega
      · have hn := hbad.out h0
        obtain ⟨ea, hea⟩ := errOf_bad A h0
        have hr1 := hidden (show 0 = (covR T l).v by rw [hn])
        have hr2 := hidden (show 0 = (covR T l).s by rw [hn])
        have hr3 := hidden (show errAt ea = errOf A (covR T l).c by rw [hn]; exact hea.symm)
        rw [hea] at hT1
        clear hnew hold hbad hn hea h0
        go_wp2_with fail
        refine hT1.out.mono ?_
        rintro e w' ⟨rfl, hb2⟩
        have hb3 := hidden (hb.out.trans (hb2.mono hb.out.size))
        clear hb2 hT1
        go_wp2
        go_ret3
        exact ⟨ret_iiv hr1.out hr2.out hr3.out, hb3.out⟩
    · obtain rfl : k = 16 := by omega
      have hr3 := hidden (show Value.nilIface = errOf A (covR T l).c by rw [show (covR T l).c = 0 from hc]; rfl)
      replace hb := hidden hb
      rw [show covS T l 16 = covR T l from rfl]
      clear hT hc
      generalize hr1 : (covR T l).v = rv at *
      generalize hr2 : (covR T l).s = rs at *
      replace hr1 := hidden hr1
      replace hr2 := hidden hr2
      go_wp2
      go_ret3
      exact ⟨ret_iiv hr1.out.symm hr2.out.symm hr3.out, hb.out⟩
end Go.Proofs.YtlanggdmdpjfbaaDoor
