/-
  Greedy.
-/
import Derived.Test.YtaojahjgfgmpfaaDoorLots8
namespace Go.Proofs.YtaojahjgfgmpfaaDoor
open Go.RowKit
set_option linter.unusedVariables false

def grB (L : List Lt) (C : List Int) (n : Int) : Bool := decide (OkP L C n) && !decide ((gR L C n).2 < n)
def grL (L : List Lt) (C : List Int) (n : Int) : List Int := if grB L C n = true then (gR L C n).1 else []
theorem grB_bad {L : List Lt} {C : List Int} {n : Int} (h : ¬ OkP L C n) : grB L C n = false := by unfold grB; rw [decide_eq_false h]; rfl
theorem grB_less {L : List Lt} {C : List Int} {n : Int} (h : (gR L C n).2 < n) : grB L C n = false := by unfold grB; rw [decide_eq_true h]; simp
theorem grB_fine {L : List Lt} {C : List Int} {n : Int} (h : OkP L C n) (g : ¬ (gR L C n).2 < n) : grB L C n = true := by unfold grB; rw [decide_eq_true h, decide_eq_false g]; rfl
theorem grL_no {L : List Lt} {C : List Int} {n : Int} (h : grB L C n = false) : grL L C n = [] := by unfold grL; rw [h]; rfl
theorem grL_yes {L : List Lt} {C : List Int} {n : Int} (h : grB L C n = true) : grL L C n = (gR L C n).1 := by unfold grL; rw [h]; rfl
theorem ret_vb {v : Value} {a b : Bool} (h : a = b) : Ending.returned (.tuple #[v, .bool a]) = .returned (.tuple #[v, .bool b]) := by rw [h]
structure GrAt (w0 : World) (T : TypeId) (p tg og : Nat) (lv cv : Value) (n : Int) (t : List Int) (o : List Nat) (N : Nat) (w : World) : Prop where
  pb : PbAt w p T lv cv n
  tk : NumAt inTy w tg t
  od : Reads .i64 w (.slice (some ⟨og, 0, none⟩) N N) (nats o)
  low : Below w0.heap.size w0 w
  ne1 : p ≠ tg
  ne2 : og ≠ tg
  hi : w0.heap.size ≤ tg
section
variable {w0 w w' : World} {T : TypeId} {p tg og : Nat} {lv cv : Value} {n : Int} {t : List Int} {o : List Nat} {N : Nat}
theorem GrAt.below (h : GrAt w0 T p tg og lv cv n t o N w) (hb : Below w.heap.size w w') : GrAt w0 T p tg og lv cv n t o N w' :=
  ⟨h.pb.below hb (Nat.le_refl _), h.tk.below hb (Nat.le_refl _), h.od.below hb (Nat.le_refl _), h.low.trans (hb.mono h.low.size), h.ne1, h.ne2, h.hi⟩
theorem GrAt.drewN (h : GrAt w0 T p tg og lv cv n t o N w) (k : Nat) : GrAt w0 T p tg og lv cv n t o N (w.drewN k) :=
  ⟨⟨h.pb.row⟩, h.tk, h.od.same fun _ _ => rfl, below_drewN h.low, h.ne1, h.ne2, h.hi⟩
theorem GrAt.put (h : GrAt w0 T p tg og lv cv n t o N w) (i : Nat) (x : Int) : GrAt w0 T p tg og lv cv n (t.set i x) o N (w.setCell ⟨tg, i, none⟩ (.int .i64 x)) :=
  ⟨⟨by rw [(Trd.setCell (S := (· = tg)) w ⟨tg, i, none⟩ (.int .i64 x) rfl).block p h.pb.lt h.ne1]; exact h.pb.row⟩, h.tk.set i x,
    h.od.trd (Trd.setCell (S := (· = tg)) w ⟨tg, i, none⟩ (.int .i64 x) rfl) (fun b hb => by
      have : og = b := by simpa [Value.ownBlock] using hb
      rw [← this]; exact h.ne2), h.low.setCell (p := ⟨tg, i, none⟩) h.hi _, h.ne1, h.ne2, h.hi⟩
end
def GrRel1 (L : List Lt) (C : List Int) (w0 : World) (p tg og : Nat) (lv cv : Value) (n : Int) (o : List Nat) (N : Nat) (i h : Value) (w : World) : Prop :=
  ∃ (k : Nat) (s : List Int × Int), k ≤ o.length ∧ i = .int .i64 (k : Int) ∧ h = .int .i64 s.2 ∧ gAll L C n (o.drop k) s = gR L C n ∧ GInv L C n s ∧ GrAt w0 pbTy p tg og lv cv n s.1 o N w
def GrRel2 (L : List Lt) (C : List Int) (w0 : World) (p tg og : Nat) (lv cv : Value) (n : Int) (o : List Nat) (N : Nat) (i : Nat) (s0 : List Int × Int) (h : Value) (w : World) : Prop :=
  ∃ (f : Nat) (s : List Int × Int), h = .int .i64 s.2 ∧ (L.getD i ltZ).u - s.1.getD i 0 ≤ (f : Int) ∧ gl L C n i f s = s0 ∧ GInv L C n s ∧ GrAt w0 pbTy p tg og lv cv n s.1 o N w
theorem gAll_step {L : List Lt} {C : List Int} {n : Int} {o : List Nat} {k : Nat} (hk : k < o.length) (s : List Int × Int) : gAll L C n (o.drop k) s = gAll L C n (o.drop (k + 1)) (gl L C n (o.getD k 0) 1000 s) := by
  rw [List.drop_eq_getElem_cons hk, List.getD_eq_getElem?_getD, List.getElem?_eq_getElem hk]
  rfl
def GreedyAt (L : List Lt) (C : List Int) (n : Int) (w : World) (e : Ending) (w' : World) : Prop := ∃ v, e = .returned (.tuple #[v, .bool (grB L C n)]) ∧ Reads .i64 w' v (grL L C n) ∧ Below w.heap.size w w'
/-- .. and that what is taken lies in a block of its own. -/
def GreedyOwn (L : List Lt) (C : List Int) (n : Int) (w : World) (e : Ending) (w' : World) : Prop := ∃ v, e = .returned (.tuple #[v, .bool (grB L C n)]) ∧ (grB L C n = true → ∃ g, v = .slice (some ⟨g, 0, none⟩) L.length L.length ∧ w.heap.size ≤ g ∧ NumAt inTy w' g (grL L C n)) ∧ (grB L C n = false → Reads .i64 w' v (grL L C n)) ∧ Below w.heap.size w w'
theorem gAll_end {L : List Lt} {C : List Int} {n : Int} {o : List Nat} (s : List Int × Int) : gAll L C n (o.drop o.length) s = s := by rw [List.drop_length]; rfl
theorem ok_vals {L : List Lt} {C : List Int} {n : Int} (h : OkP L C n) : ∀ x ∈ L, 0 ≤ x.v := fun x hx => (h.2.1 x hx).2.1.1
theorem fill_zero (n : Nat) : fillL (List.replicate n 0) 0 = List.replicate n 0 := by unfold fillL; simp
set_option maxRecDepth 100000 in
set_option maxHeartbeats 12800000 in
theorem ltGreedy_own (A : Nat → Addr) (lv cv : Value) (L : List Lt) (C : List Int) (n : Int) (w : World) (h : PbR w lv cv L C) (hE : ErrsOn [2, 4] w A) :
    Calls Tryd.prog 58 #[pbA lv cv n] w (GreedyOwn L C n w) := by
  have hb0 := below_pb w pbTy lv cv n
  have hV := hidden (ltValid_any A lv cv L C n _ (h.below hb0 (Nat.le_refl _)) (hE.below hb0 (Nat.le_refl _)))
  have hpb := pbAt_new w pbTy lv cv n
  have hp := hidden (fun W (hW : Below (w.alloc (pbO pbTy lv cv n)).heap.size (w.alloc (pbO pbTy lv cv n)) W) => hpb.below hW (Nat.le_refl _))
  have hb := hidden hb0
  unfold GreedyOwn
  by_cases hok : OkP L C n
  · rw [pbC_ok hok, errOf_fine] at hV
    have hWo := hidden (fun tv t W (h2 : Below w.heap.size w W) hr ht => ltWorth_any lv cv L C n tv t W (h.below h2 (Nat.le_refl _)) hr hok ht)
    have hCh := hidden (fun W (h2 : Below w.heap.size w W) => cheapest_any lv L W (h.lots.below ltV_len h2 (Nat.le_refl _)) h.big (ok_vals hok) hok.1.1.1 hok.1.1.2)
    obtain ⟨la, lc, rfl⟩ := row_slice h.lots
    obtain ⟨ca, cc, rfl⟩ := reads_slice h.caps
    have hx := hidden (fun k hk W (h2 : Below w.heap.size w W) => rowLt_at (h.lots.below ltV_len h2 (Nat.le_refl _)) k hk)
    have hL8 := hok.1.1.2
    have hL8I : (L.length : Int) ≤ 8 := by omega
    have hmk := mk_ints18 L.length (by omega)
    have hok' := hidden hok
    unfold ChAt at hCh
    clear h hE hb0 hpb hok
    go_enter Tryd.func58, Tryd.ntmps58
    go_wp2_with fail
    (with_reducible refine hV.out.mono ?_)
    rintro e w1 ⟨rfl, hb1⟩
    have hp1 := hp.out _ hb1
    obtain ⟨c0, c1, c2⟩ := hp1.cells
    have hb2 := hidden (hb.out.trans (hb1.mono hb.out.size))
    have hbA := (Below.refl w1.heap.size w1).alloc (Nat.le_refl _) (.cells (Array.replicate L.length (.int .i64 0)) inTy)
    have hp2 := hp1.below hbA (Nat.le_refl _)
    obtain ⟨d0, d1, d2⟩ := hp2.cells
    have hb3 := hidden (hb2.out.trans (hbA.mono hb2.out.size))
    have hC2 := hidden (hCh.out _ hb3.out)
    have hNw := hidden (numAt_new inTy w1 L.length)
    have hpw := hidden (show w.heap.size < w1.heap.size by have := hp1.lt; exact this)
    replace hp2 := hidden hp2
    clear hV hb1 hp hCh hp1 hbA
    go_wp2_with fail
    (with_reducible refine hC2.out.mono ?_)
    rintro e w2 ⟨og, rfl, hog, hO, hb4⟩
    have hol := hidden (show (ordL L).length = L.length from ordTo_len L _)
    have hst : GrAt w pbTy w.heap.size w1.heap.size og (.slice la L.length lc) (.slice ca C.length cc) n (gSt L).1 (ordL L) L.length w2 := by
      refine ⟨hp2.out.below hb4 (Nat.le_refl _), hNw.out.below hb4 (Nat.le_refl _), ?_, hb3.out.trans (hb4.mono hb3.out.size), by have := hpw.out; omega, ?_, Nat.le_of_lt hpw.out⟩
      · exact hO.reads (by rw [nats_len, hol.out]) (by omega)
      · have : (w1.alloc (.cells (Array.replicate L.length (.int .i64 0)) inTy)).heap.size = w1.heap.size + 1 := by simp
        omega
    have hlt := hidden (fun k (hk : k < (ordL L).length) => show (ordL L).getD k 0 < L.length from ordTo_lt (by rw [hol.out] at hk; exact hk))
    have hgo := hidden (show gAll L C n (ordL L) (gSt L) = gR L C n from rfl)
    have hgi := hidden (ginv_start hok'.out)
    replace hst := hidden hst
    clear hC2 hNw hb3 hb4 hO hog hp2 hb2 c0 c1 c2 d0 d1 d2 hb
    generalize ordL L = o at *
    generalize w1.heap.size = tg at *
    go_wp2_with fail
    go_loopw [20, 5] (fun i h wr => GrRel1 L C w w.heap.size tg og (.slice la L.length lc) (.slice ca C.length cc) n o L.length i h wr) (fun i _ _ => o.length - (RowKit.intOf i).toNat)
    case atStart => exact ⟨0, gSt L, Nat.zero_le _, rfl, rfl, hgo.out, hgi.out, hst.out⟩
    case round =>
      clear hst hgo hgi
      obtain ⟨k, s, hk, rfl, rfl, hgo, hgi, hG⟩ := hrel
      by_cases hkl : k < o.length
      · have hkI : (k : Int) < (L.length : Int) := by rw [hol.out] at hkl; omega
        have hil := hlt.out k hkl
        rw [gAll_step hkl] at hgo
        obtain ⟨bo, oo, eo, co⟩ := hG.od.cell k (by rw [← hol.out]; exact hkl)
        simp only [Option.some.injEq, Addr.mk.injEq, and_true] at eo
        obtain ⟨rfl, rfl⟩ := eo
        rw [nats_at, Nat.zero_add] at co
        generalize o.getD k 0 = i at *
        have hlot := hidden (hok'.out.lot hil)
        have hgs := hidden (ginv_gl hok'.out hil 1000 s hgi)
        have hst : GrRel2 L C w w.heap.size tg og (.slice la L.length lc) (.slice ca C.length cc) n o L.length i (gl L C n i 1000 s) (.int .i64 s.2) wr := ⟨1000, s, rfl, by have := hlot.out.1; have := (hgi.1.2 i hil).1; omega, rfl, hgi, hG⟩
        replace hst := hidden hst
        generalize gl L C n i 1000 s = s0 at *
        replace hgo := hidden hgo
        clear hgi hG
        have hiI : (i : Int) < (L.length : Int) := by omega
        have hi0 : (0 : Int) ≤ (i : Int) := by omega
        go_wp2_with fail
        go_loopw [5] (fun h wr => GrRel2 L C w w.heap.size tg og (.slice la L.length lc) (.slice ca C.length cc) n o L.length i s0 h wr) (fun h _ => (n - RowKit.intOf h).toNat)
        case atStart => exact hst.out
        case round =>
          clear hst
          obtain ⟨f, ⟨t, hh⟩, rfl, hf, hgl, hgi, hG⟩ := hrel
          simp only at hf
          replace hG : GrAt w pbTy w.heap.size tg og (.slice la L.length lc) (.slice ca C.length cc) n t o L.length wr := hG
          have hout := hidden (fun (q : gl L C n i f (t, hh) = (t, hh)) wx (hGx : GrAt w pbTy w.heap.size tg og (.slice la L.length lc) (.slice ca C.length cc) n t o L.length wx) => show GrRel1 L C w w.heap.size tg og (.slice la L.length lc) (.slice ca C.length cc) n o L.length (.int .i64 ((k + 1 : Nat) : Int)) (.int .i64 hh) wx from by
            rw [q] at hgl
            exact ⟨k + 1, (t, hh), hkl, rfl, rfl, by rw [← hgl] at hgo; exact hgo.out, hgi, hGx⟩)
          obtain ⟨c0, c1, c2⟩ := hG.pb.cells
          have hGd := hidden (fun m => hG.drewN m)
          by_cases hc1 : hh < n
          · have hd1 : decide (hh < n) = true := decide_eq_true hc1
            have hti := hgi.1.2 i hil
            simp only at hti
            have hti1 : i < t.length := by have := hgi.1.1; simp only at this; omega
            obtain ⟨bl, ol, rfl, q0, q1, q2, q3⟩ := hx.out i hil _ hG.low
            have ct := hG.tk.cell hti1
            have hfr := hG.tk.frozen i
            by_cases hc2 : t.getD i 0 < (L.getD i ltZ).u
            · have hcc : ((t, hh) : List Int × Int).2 < n ∧ ((t, hh) : List Int × Int).1.getD i 0 < (L.getD i ltZ).u := ⟨hc1, hc2⟩
              have hgp := hidden (ginv_plus hok'.out hgi hil hcc)
              have htp := hgp.out.1
              have hup := wo_up hok'.out hgi.1.1 hil
              have heq := hgi.2.1
              simp only at htp hup heq
              have hW2 := hidden (fun W (hGW : GrAt w pbTy w.heap.size tg og (.slice (some ⟨bl, ol, none⟩) L.length lc) (.slice ca C.length cc) n (plus t i) o L.length W) => hWo.out (.slice (some ⟨tg, 0, none⟩) L.length L.length) (plus t i) W hGW.low (hGW.tk.reads (by rw [plus_len]; exact hgi.1.1) (by omega)) htp)
              have hGp := hidden (fun m => (hG.drewN m).put i (t.getD i 0 + 1))
              have hwt : IntKind.i64.wrap (t.getD i 0 + 1) = t.getD i 0 + 1 := by have := hlot.out.1; rw [IntKind.wrap_i64]; omega
              have hpa := hidden (show (plus t i).getD i 0 = t.getD i 0 + 1 by rw [plus_at hti1, if_pos rfl])
              have hpl := hidden (show i < (plus t i).length by rw [plus_len]; exact hti1)
              have hwm : IntKind.i64.wrap (t.getD i 0 + 1 - 1) = t.getD i 0 := by have := hlot.out.1; rw [IntKind.wrap_i64]; omega
              have hd2 : decide (t.getD i 0 < (L.getD i ltZ).u) = true := decide_eq_true hc2
              have hpe := hidden (show t.set i (t.getD i 0 + 1) = plus t i from rfl)
              rw [hpe.out] at hGp
              have hb1 := hidden (show (plus t i).set i (t.getD i 0) = t from set_back t i _ hti1)
              have htlen := hidden (hgi.1.1)
              simp only at htlen
              have hgl2 := hidden (fun (q : ¬ wo L C (plus t i) ≤ hh) => gl_go (L := L) (C := C) (n := n) (i := i) (f := f - 1) (s := (t, hh)) hcc q)
              have hf1 : 1 ≤ f := by have := hlot.out.1; omega
              have hfe : f - 1 + 1 = f := by omega
              rw [hfe] at hgl2
              have e0 := fun m => ((hGp.out m).pb.cells).1
              have e1 := fun m => ((hGp.out m).pb.cells).2.1
              have e2 := fun m => ((hGp.out m).pb.cells).2.2
              have hw64 : wrap64 (t.getD i 0) = t.getD i 0 := by have := hlot.out.1; unfold wrap64; omega
              clear hG hWo hx hti
              by_cases hw : wo L C (plus t i) ≤ hh
              · have hq := hidden (hout.out (gl_full hcc hw))
                have hwe : (wo L C (plus t i) == hh) = true := by rw [beq_iff_eq]; omega
                clear hout hgl hgi hgl2 htp hup heq
                generalize wo L C (plus t i) = wo1 at *
                generalize plus t i = t1 at *
                generalize t.getD i 0 = x at *
                generalize L.getD i ltZ = y at *
                obtain ⟨u, v, c, gg⟩ := y
                simp only at q0 q1 q2 q3 hd2
                go_wp2_with fail
                go_quiet (fail)
                go_wp2_with fail
                (with_reducible refine (hW2.out _ (hGp.out _)).mono ?_)
                rintro e w5 ⟨rfl, hb5⟩
                have hG5 := (hGp.out _).below hb5
                have ct5 := hG5.tk.cell hpl.out
                rw [hpa.out] at ct5
                have fr5 := hG5.tk.frozen i
                have hG6 := hidden (hG5.put i x)
                rw [hb1.out] at hG6
                clear hW2 hGp hb5 hG5 e0 e1 e2 ct hfr c0 c1 c2 q0 q1 q2 q3
                go_wp2_with fail
                go_roundw
                case rel => exact hq.out _ hG6.out
                case measure => simp [RowKit.intOf]; omega
              · have hwe : (wo L C (plus t i) == hh) = false := by rw [beq_eq_false_iff_ne]; omega
                rw [hgl2.out hw] at hgl
                have hnx := hidden (fun wx (hGx : GrAt w pbTy w.heap.size tg og (.slice (some ⟨bl, ol, none⟩) L.length lc) (.slice ca C.length cc) n (plus t i) o L.length wx) => show GrRel2 L C w w.heap.size tg og (.slice (some ⟨bl, ol, none⟩) L.length lc) (.slice ca C.length cc) n o L.length i s0 (.int .i64 (wo L C (plus t i))) wx from ⟨f - 1, (plus t i, wo L C (plus t i)), rfl, by show _ - (plus t i).getD i 0 ≤ _; rw [hpa.out]; omega, hgl, hgp.out, hGx⟩)
                clear hout hgl hgi hgl2 htp hup heq hgp
                generalize wo L C (plus t i) = wo1 at *
                generalize plus t i = t1 at *
                generalize t.getD i 0 = x at *
                generalize L.getD i ltZ = y at *
                obtain ⟨u, v, c, gg⟩ := y
                simp only at q0 q1 q2 q3 hd2
                go_wp2_with fail
                go_quiet (fail)
                go_wp2_with fail
                (with_reducible refine (hW2.out _ (hGp.out _)).mono ?_)
                rintro e w5 ⟨rfl, hb5⟩
                have hG5 := hidden ((hGp.out _).below hb5)
                clear hW2 hGp hb5 e0 e1 e2 ct hfr c0 c1 c2 q0 q1 q2 q3
                go_wp2_with fail
                go_roundw
                case rel => exact hnx.out _ hG5.out
                case measure => simp [RowKit.intOf]; omega
            · have hq := hidden (hout.out (gl_stop (by simp only; omega)))
              have hd2 : decide (t.getD i 0 < (L.getD i ltZ).u) = false := decide_eq_false hc2
              clear hout hgi hgl hG
              generalize t.getD i 0 = x at *
              generalize L.getD i ltZ = y at *
              obtain ⟨u, v, c, gg⟩ := y
              simp only at q0 q1 q2 q3 hc2 hd2
              go_wp2_with fail
              go_quiet (fail)
              go_wp2
              go_roundw
              case rel => exact hq.out _ (hGd.out _)
              case measure => simp [RowKit.intOf]; omega
          · have hq := hidden (hout.out (gl_stop (by simp only; omega)))
            have hd1 : decide (hh < n) = false := decide_eq_false hc1
            clear hout hgi hgl hG
            go_wp2_with fail
            go_quiet (fail)
            go_wp2
            go_roundw
            case rel => exact hq.out _ (hGd.out _)
            case measure => simp [RowKit.intOf]; omega
      · obtain rfl : k = o.length := by omega
        rw [gAll_end] at hgo
        subst hgo
        have hkI : ¬ ((o.length : Nat) : Int) < (L.length : Int) := by rw [hol.out]; omega
        obtain ⟨c0, c1, c2⟩ := hG.pb.cells
        by_cases hn : (gR L C n).2 < n
        · have hno := hidden (grB_less hn)
          have hend := hidden hG.low
          clear hG hgi
          generalize (gR L C n).2 = r2 at hn ⊢
          go_wp2
          go_ret2
          exact ⟨_, ret_vb hno.out.symm, (fun z => by rw [hno.out] at z; cases z), (fun _ => by rw [grL_no hno.out]; exact Reads.nil _ _), hend.out⟩
        · have hno := hidden (grB_fine hok'.out hn)
          have hend := hidden hG.low
          have hR := hidden hG.tk
          have hhi := hidden hG.hi
          clear hG hgi
          generalize (gR L C n).2 = r2 at hn ⊢
          go_wp2
          go_ret2
          exact ⟨_, ret_vb hno.out.symm, (fun _ => ⟨_, rfl, hhi.out, by rw [grL_yes hno.out]; exact hR.out⟩), (fun z => by rw [hno.out] at z; cases z), hend.out⟩
  · rw [grL_no (grB_bad hok), grB_bad hok]
    have hw := pbC_ways L C n
    have hne : pbC L C n ≠ 0 := fun q => hok (pbC_iff.1 q)
    generalize pbC L C n = c at *
    clear hok h hE hp hpb hb0
    rcases hw with q | rfl | rfl
    · exact absurd q hne
    · rw [errOf_103] at hV
      go_enter Tryd.func58, Tryd.ntmps58
      go_wp2_with fail
      (with_reducible refine hV.out.mono ?_)
      rintro e w1 ⟨rfl, hb1⟩
      have hb2 := hidden (hb.out.trans (hb1.mono hb.out.size))
      clear hV hb1
      go_wp2
      go_ret2
      exact ⟨_, rfl, (fun z => by cases z), (fun _ => Reads.nil _ _), hb2.out⟩
    · rw [errOf_105] at hV
      go_enter Tryd.func58, Tryd.ntmps58
      go_wp2_with fail
      (with_reducible refine hV.out.mono ?_)
      rintro e w1 ⟨rfl, hb1⟩
      have hb2 := hidden (hb.out.trans (hb1.mono hb.out.size))
      clear hV hb1
      go_wp2
      go_ret2
      exact ⟨_, rfl, (fun z => by cases z), (fun _ => Reads.nil _ _), hb2.out⟩
theorem ltGreedy_any (A : Nat → Addr) (lv cv : Value) (L : List Lt) (C : List Int) (n : Int) (w : World) (h : PbR w lv cv L C) (hE : ErrsOn [2, 4] w A) :
    Calls Tryd.prog 58 #[pbA lv cv n] w (GreedyAt L C n w) := by
  refine (ltGreedy_own A lv cv L C n w h hE).mono ?_
  rintro e w' ⟨v, rfl, h1, h2, hb⟩
  refine ⟨v, rfl, ?_, hb⟩
  cases hB : grB L C n
  · exact h2 hB
  · obtain ⟨g, rfl, hg, hN⟩ := h1 hB
    have hok : OkP L C n := by
      apply Decidable.byContradiction
      intro hh
      rw [grB_bad hh] at hB
      cases hB
    have hl : (grL L C n).length = L.length := by rw [grL_yes hB]; exact (ginv_R hok).1.1
    exact hN.reads hl (by have := hok.1.1.2; omega)
end Go.Proofs.YtaojahjgfgmpfaaDoor
