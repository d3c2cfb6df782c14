/-
  A schedule that is new; the chapter's example.
-/
import Derived.Test.YtfoiclgipnlfnaaDoorSched5
import Derived.Deep.WholeRow
namespace Go.Proofs.YtfoiclgipnlfnaaDoor
open Go.RowKit
set_option linter.unusedVariables false

def schF : Array Value := ((List.replicate 64 enZ).flatMap enV ++ [Value.int .i64 0]).toArray
theorem sched_zero (w : World) : (zeroValue 28).run Tryd.prog w = .ok (.agg schF) w :=
  (zero_of_info (n := 193) (show (Tryd.prog.info? 28).map (fun i => (i.zero, i.size)) = some (some (.agg schF), 193) by kernel_rfl)).1 w
theorem schAt_new (w : World) : SchAt (w.alloc (.cells schF 28)) w.heap.size [] :=
  ⟨⟨List.replicate 64 enZ, by simp, rfl, heap_alloc_new w _⟩, Nat.zero_le _, fun j k h1 h2 => absurd h2 (Nat.not_lt_zero _)⟩
theorem bcellE {W w1 : World} (hb : Below W.heap.size W w1) : (∀ b o, b < W.heap.size → w1.cell? ⟨b, o, none⟩ = W.cell? ⟨b, o, none⟩) ∧ (∀ b o, b < W.heap.size → w1.frozen? ⟨b, o, none⟩ = W.frozen? ⟨b, o, none⟩) :=
  ⟨fun b o h => hb.cell (p := ⟨b, o, none⟩) h, fun b o h => hb.frozen (p := ⟨b, o, none⟩) h⟩
/-- a call of Add, above what lies below. -/
theorem ladd {A : Nat → Addr} {w0 W : World} {g : Nat} {l : List En} (hb : Below w0.heap.size w0 W) (hg : w0.heap.size ≤ g) (hS : SchAt W g l) (hE : ErrsOn [2, 4] w0 A) (e : En) :
    Calls Tryd.prog 11 #[.pointer (some ⟨g, 0, none⟩), enA e] W fun r w' => r = .returned (errOf A (adC l e)) ∧ SchAt w' g (nextE l e) ∧ Below w0.heap.size w0 w' :=
  (add_anyE A l g e W hS (hE.below hb (Nat.le_refl _))).mono fun r w' h => ⟨h.1, h.2.1, hb.trans (h.2.2.below (fun k hk => by rw [hk]; exact hg) hb.size)⟩
set_option maxHeartbeats 1600000 in
theorem law11_first (A : Nat → Addr) (w : World) (hE : ErrsOn [2, 4] w A) : Calls Tryd.prog 6 #[] w fun e w' => e = .returned (.bool true) ∧ Below w.heap.size w w' := by
  have hz := hidden sched_zero
  have hS := hidden (schAt_new w)
  have hb0 := hidden ((Below.refl w.heap.size w).alloc (Nat.le_refl _) (.cells schF 28))
  replace hE := hidden hE
  generalize schF = F at *
  have hzz := hz.out
  go_enter Tryd.func6, Tryd.ntmps6
  go_wp2_with fail
  generalize w.alloc (.cells F 28) = w1 at *
  refine (on_anyE [] w.heap.size 2 5 _ hS.out).mono ?_
  rintro r w2 ⟨rfl, hb⟩
  replace hS := hidden (hS.out.below hb)
  replace hb0 := hidden (hb0.out.trans (hb.mono hb0.out.size))
  clear hb
  have e1 : onE [] 2 5 = false := rfl
  go_wp2_with fail
  refine (ladd hb0.out (Nat.le_refl _) hS.out hE.out ⟨3, 2, true⟩).mono ?_
  rintro r w3 ⟨rfl, hS3, hb3⟩
  have e2 : errOf A (adC [] ⟨3, 2, true⟩) = .nilIface := rfl
  have e3 : nextE [] ⟨3, 2, true⟩ = [⟨3, 2, true⟩] := rfl
  rw [e3] at hS3
  replace hS := hidden hS3
  replace hb0 := hidden hb3
  clear hS3 hb3 e1 e3
  rw [e2]
  clear e2
  go_wp2_with fail
  refine (on_anyE _ w.heap.size 2 3 _ hS.out).mono ?_
  rintro r w4 ⟨rfl, hb⟩
  replace hS := hidden (hS.out.below hb)
  replace hb0 := hidden (hb0.out.trans (hb.mono hb0.out.size))
  clear hb
  have e1 : onE [⟨3, 2, true⟩] 2 3 = true := rfl
  go_wp2_with fail
  refine (on_anyE _ w.heap.size 2 2 _ hS.out).mono ?_
  rintro r w5 ⟨rfl, hb⟩
  replace hb0 := hidden (hb0.out.trans (hb.mono hb0.out.size))
  clear hb
  have e2 : onE [⟨3, 2, true⟩] 2 2 = false := rfl
  go_wp2
  go_ret
  exact ⟨rfl, hb0.out⟩
end Go.Proofs.YtfoiclgipnlfnaaDoor
