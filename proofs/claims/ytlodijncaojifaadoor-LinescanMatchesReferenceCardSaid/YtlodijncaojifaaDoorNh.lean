/- Package linescan: Number. -/
import Derived.Test.YtlodijncaojifaaDoorNg
namespace Go.Proofs.YtlodijncaojifaaDoor
open Go.RowKit

theorem ext_run (S : ByteArray) (k m : Nat) (h1 : k ≤ m) (h2 : m ≤ S.size) (w : World) : (Instr.slice 9 (.string S) (some (.int .i64 k)) (some (.int .i64 m)) none).run Tryd.prog w = .ok (.string (S.extract k m)) w := by
  rw [run_slice_string w 9 S .i64 .i64 (k : Int) (m : Int) Tryd.underlying9 (by omega) (by omega) (by omega)]
  rfl
/-- What a walk reads of a scanner and of the box with its pointer. -/
def ScB (W : World) (p b : Nat) (S : ByteArray) (k : Nat) (u : World) : Prop :=
  u.cell? ⟨p, 0, none⟩ = some (xp b) ∧ u.cell? ⟨b, 0, none⟩ = some (.string S) ∧ u.cell? ⟨b, 1, none⟩ = some (.int .i64 k) ∧ Below W.heap.size W u
theorem ScB.on {W : World} {p b : Nat} {S : ByteArray} {k : Nat} {u u' : World} (h : ScB W p b S k u) (hb : Below u.heap.size u u') : ScB W p b S k u' :=
  ⟨cell_below h.1 hb, cell_below h.2.1 hb, cell_below h.2.2.1 hb, below_on h.2.2.2 hb⟩
theorem nu_bad {S : ByteArray} {b k : Nat} {w : World} (h : w.heap[b]? = some (scO S k true)) :
    Calls Tryd.prog 12 #[xp b] w fun e w' => e = .returned (.int .i64 0) ∧ Below w.heap.size w w' := by
  have hmf : ∀ (fn : Fn) (first cap : Array Value) (w : World), (Instr.makeFunc fn first cap).run Tryd.prog w = .ok (.func fn first cap) w := fun _ _ _ _ => rfl
  go_enter_defers Tryd.func12, Tryd.ntmps12
  go_wp2_with fail
  have hr := row_kept h (al1 w (bx1 b))
  refine (mbg_bad hr).mono ?_
  rintro e w1 ⟨rfl, rfl⟩
  refine leaves_cons (f := 29) (args := #[xp w.heap.size]) (by simp) (by simp [go_sem]) ?_
  refine (nuc25_cat (cell_new w _ _ _ rfl) hr []).mono ?_
  rintro e u' w'' ⟨rfl, rfl, rfl⟩
  exact ⟨_, results_tmp rfl _ _ _, rfl, ((al1 w (bx1 b)).trans (same_bad hr)).drew⟩
theorem dig_yes {S : ByteArray} {b k : Nat} {w : World} (h : w.heap[b]? = some (scO S k false)) (hk : k ≤ S.size) (hs : S.size < big) (hg : nuB S k = false) :
    Calls Tryd.prog 30 #[xp b] w fun e w' => e = .returned (.tuple #[]) ∧ w'.heap[b]? = some (scO S (nuK S k) false) ∧ Bt b w w' := by
  cases hz : nuZ S k
  · cases hd : nuD S k
    · unfold nuB at hg; rw [hz, hd] at hg; cases hg
    · exact dig_ok h hk hs hz hd
  · exact dig_zero h hs hz
theorem nuB_yes {S : ByteArray} {k : Nat} (h : nuB S k = true) : nuZ S k = false ∧ nuD S k = false := by
  unfold nuB at h
  cases a : nuZ S k <;> cases b : nuD S k <;> simp_all
theorem nu_no {S : ByteArray} {b k : Nat} {w : World} (h : w.heap[b]? = some (scO S k false)) (hk : k ≤ S.size) (hs : S.size < big) (hg : nuB S k = true) :
    Calls Tryd.prog 12 #[xp b] w fun e w' => e = .returned (.int .i64 0) ∧ w'.heap[b]? = some (scO S (nuK S k) true) ∧ Bt b w w' := by
  have hmf : ∀ (fn : Fn) (first cap : Array Value) (w : World), (Instr.makeFunc fn first cap).run Tryd.prog w = .ok (.func fn first cap) w := fun _ _ _ _ => rfl
  obtain ⟨hz, hd⟩ := nuB_yes hg
  have HD := fun (u : World) (h : u.heap[b]? = some (scO S k false)) => dig_no h hk hs hz hd
  generalize nuK S k = K at *
  clear hz hd hg hk hs
  have hl := row_lt h
  go_enter_defers Tryd.func12, Tryd.ntmps12
  go_wp2_with fail
  have hr := row_kept h (al1 w (bx1 b))
  have hb := Bt.al b w (bx1 b)
  have hp := cell_new w #[xp b] 24 _ rfl
  generalize w.alloc (bx1 b) = u at *
  refine (mbg_ok hr).mono ?_
  rintro e w1 ⟨rfl, rfl⟩
  obtain ⟨c0, c1, c2, f0, f1, f2, hl2⟩ := sc_facts hr
  go_wp2_with fail
  refine (HD _ hr).mono ?_
  rintro e w1 ⟨rfl, hr1, hb1⟩
  refine leaves_cons (f := 29) (args := #[xp w.heap.size]) (by simp) (by simp [go_sem]) ?_
  refine (nuc25_cat (b := b) (hb1.cell (by omega) hp) hr1 []).mono ?_
  rintro e u' w'' ⟨rfl, rfl, rfl⟩
  exact ⟨_, results_tmp rfl _ _ _, rfl, sc_bad hr1, (hb.trans hb1).trans (Bt.set b w1 2 _).drew⟩
theorem nu_ok {S : ByteArray} {b k : Nat} {w : World} (h : w.heap[b]? = some (scO S k false)) (hk : k ≤ S.size) (hs : S.size < big) (hg : nuB S k = false) :
    Calls Tryd.prog 12 #[xp b] w fun e w' => e = .returned (.int .i64 (nuV S k)) ∧ w'.heap[b]? = some (scO S (nuK S k) false) ∧ Bt b w w' := by
  have hmf : ∀ (fn : Fn) (first cap : Array Value) (w : World), (Instr.makeFunc fn first cap).run Tryd.prog w = .ok (.func fn first cap) w := fun _ _ _ _ => rfl
  have HD := fun (u : World) (h : u.heap[b]? = some (scO S k false)) => dig_yes h hk hs hg
  have HA := at25_any hk hg
  have hle := nuK_le S k hk
  have HS := ext_run S k (nuK S k) hle.1 hle.2
  generalize nuK S k = K at *
  generalize nuV S k = V at *
  generalize S.extract k K = T at *
  clear hg hk hs hle
  have hl := row_lt h
  go_enter_defers Tryd.func12, Tryd.ntmps12
  go_wp2_with fail
  have hr := row_kept h (al1 w (bx1 b))
  have hb := Bt.al b w (bx1 b)
  have hp := cell_new w #[xp b] 24 _ rfl
  generalize w.alloc (bx1 b) = u at *
  refine (mbg_ok hr).mono ?_
  rintro e w1 ⟨rfl, rfl⟩
  obtain ⟨c0, c1, c2, f0, f1, f2, hl2⟩ := sc_facts hr
  go_wp2_with fail
  refine (HD _ hr).mono ?_
  rintro e w1 ⟨rfl, hr1, hb1⟩
  have hp1 := hb1.cell (show w.heap.size ≠ b by omega) hp
  obtain ⟨d0, d1, -, -, -, -, -⟩ := sc_facts hr1
  have hb2 := hb.trans hb1
  clear c0 c1 c2 f0 f1 f2 hl2 hr hb hp hb1
  have HC := Lib.hid (fun u (hu : ScB w1 w.heap.size b S K u) => (HA u).mono fun e w' ⟨h1, h2⟩ => (⟨h1, hu.on h2⟩ : e = Ending.returned (.tuple #[.int .i64 V, .nilIface]) ∧ ScB w1 w.heap.size b S K w'))
  have H1 := Lib.hid (⟨hp1, d0, d1, (Below.refl _ _).drew⟩ : ScB w1 w.heap.size b S K w1.drew)
  clear HA
  go_wp2_with fail
  go_region_held3 (fun u => u.cell? ⟨w.heap.size, 0, none⟩ = some (xp b) ∧ u.cell? ⟨b, 0, none⟩ = some (.string S) ∧ u.cell? ⟨b, 1, none⟩ = some (.int .i64 K) ∧ Below w1.heap.size w1 u)
    (first | exact H1.out | assumption)
    (first | (go_at_call 31; refine (HC.out _ (by assumption)).mono ?_; rintro e1 w2 ⟨rfl, hs1⟩))
  go_wp2_with fail
  have hb3 := hb2.trans (.of_below hs1.2.2.2)
  have hr3 := row_kept hr1 hs1.2.2.2
  refine leaves_cons (f := 29) (args := #[xp w.heap.size]) (by simp) (by simp [go_sem]) ?_
  refine (nuc25_idl (x := xp b) hs1.1).mono ?_
  rintro e u' w'' ⟨rfl, rfl, rfl⟩
  exact ⟨_, results_tmp rfl _ _ _, rfl, hr3, hb3.drew⟩
end Go.Proofs.YtlodijncaojifaaDoor
