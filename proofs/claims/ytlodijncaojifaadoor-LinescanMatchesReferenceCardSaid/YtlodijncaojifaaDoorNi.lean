/- Package linescan: beginsIdentifier, Identifier. -/
import Derived.Test.YtlodijncaojifaaDoorNh
namespace Go.Proofs.YtlodijncaojifaaDoor
open Go.RowKit

theorem beg_any (s : ByteArray) (w : World) (hs : s.size < big) : Calls Tryd.prog 34 #[.string s] w fun e w' => e = .returned (.bool (idn s || idn (s ++ ⟨#[97]⟩))) ∧ Below w.heap.size w w' := by
  have h9 : s.size < 4611686018427387904 := hs
  have hadd : ∀ u, (Op.stringOp .add s ⟨#[97]⟩).run Tryd.prog u = .ok (.string (s ++ ⟨#[97]⟩)) u := fun u => by
    rw [run_string_add_if, if_neg (by show ¬ s.size + 1 > 9223372036854775807; omega)]
  have H1 := fun u => p17id_any s u
  have H2 := fun u => p17id_any (s ++ ⟨#[97]⟩) u
  cases h : idn s
  · rw [h] at H1
    go_enter Tryd.func34, Tryd.ntmps34
    go_wp2_with fail
    refine (H1 _).mono ?_
    rintro e w1 ⟨rfl, hb1⟩
    go_wp2_with fail
    refine (H2 _).mono ?_
    rintro e w2 ⟨rfl, hb2⟩
    go_wp2_with fail
    go_ret
    exact ⟨rfl, below_on hb1 hb2⟩
  · rw [h] at H1
    go_enter Tryd.func34, Tryd.ntmps34
    go_wp2_with fail
    refine (H1 _).mono ?_
    rintro e w1 ⟨rfl, hb1⟩
    go_wp2_with fail
    go_ret
    exact ⟨rfl, hb1⟩
theorem id_bad {S : ByteArray} {b k : Nat} {w : World} (h : w.heap[b]? = some (scO S k true)) :
    Calls Tryd.prog 14 #[xp b] w fun e w' => e = .returned (.string ⟨#[]⟩) ∧ Below w.heap.size w w' := by
  have hmf : ∀ (fn : Fn) (first cap : Array Value) (w : World), (Instr.makeFunc fn first cap).run Tryd.prog w = .ok (.func fn first cap) w := fun _ _ _ _ => rfl
  go_enter_defers Tryd.func14, Tryd.ntmps14
  go_wp2_with fail
  have hr := row_kept h (al1 w (bx1 b))
  refine (mbg_bad hr).mono ?_
  rintro e w1 ⟨rfl, rfl⟩
  refine leaves_cons (f := 33) (args := #[xp w.heap.size]) (by simp) (by simp [go_sem]) ?_
  refine (idc25_cat (cell_new w _ _ _ rfl) hr []).mono ?_
  rintro e u' w'' ⟨rfl, rfl, rfl⟩
  exact ⟨_, results_tmp rfl _ _ _, rfl, ((al1 w (bx1 b)).trans (same_bad hr)).drew⟩
theorem idB_no {S : ByteArray} {k : Nat} (h : idB S k = false) : idV S k = S.extract k (k + idL S k) := by unfold idV; rw [h]; rfl
theorem idB_yes {S : ByteArray} {k : Nat} (h : idB S k = true) : idV S k = ⟨#[]⟩ := by unfold idV; rw [h]; rfl
set_option maxHeartbeats 1000000 in
set_option maxRecDepth 100000 in
theorem id_ok {S : ByteArray} {b k : Nat} {w : World} (h : w.heap[b]? = some (scO S k false)) (hk : k ≤ S.size) (hs : S.size < big) (hg : idB S k = false) :
    Calls Tryd.prog 14 #[xp b] w fun e w' => e = .returned (.string (S.extract k (k + idL S k))) ∧ w'.heap[b]? = some (scO S (k + idL S k) false) ∧ Bt b w w' := by
  have hmf : ∀ (fn : Fn) (first cap : Array Value) (w : World), (Instr.makeFunc fn first cap).run Tryd.prog w = .ok (.func fn first cap) w := fun _ _ _ _ => rfl
  have hl := row_lt h
  have HE := Lib.hid (fun (j : Nat) (hj : k + j ≤ S.size) => ext_run S k (k + j) (by omega) hj)
  have HL := Lib.hid (fun (j : Nat) (h : (∀ i, i < j → idP S k i) ∧ ¬ idP S k j) => idL_eq h.1 h.2)
  have HI := Lib.hid (fun (j : Nat) (h : (∀ i, i < j → idP S k i) ∧ ¬ idP S k j) (u : World) => show Calls Tryd.prog 35 #[.string (S.extract k (k + j))] u fun e w' => e = .returned (.bool true) ∧ Below u.heap.size u w' by
    have := p17id_any (S.extract k (k + j)) u
    rw [← idL_eq h.1 h.2] at this ⊢
    rwa [idn_fin hk, hg] at this)
  have HG := Lib.hid (fun (j : Nat) (h : k + j < S.size) (h2 : ∀ i, i < j → idP S k i) (u : World) => show Calls Tryd.prog 34 #[.string (S.extract k (k + (j + 1)))] u fun e w' => e = .returned (.bool (decide (idP S k j))) ∧ Below u.heap.size u w' by
    have := beg_any (S.extract k (k + (j + 1))) u (by rw [ext_size (by omega) (by omega)]; have : S.size < 4611686018427387904 := hs; show k + (j + 1) - k < 4611686018427387904; omega)
    rwa [begins_ext h h2] at this)
  clear hg
  go_enter_defers Tryd.func14, Tryd.ntmps14
  go_wp2_with fail
  have hr := row_kept h (al1 w (bx1 b))
  have hb := Bt.al b w (bx1 b)
  have hp := cell_new w #[xp b] 24 _ rfl
  generalize w.alloc (bx1 b) = u at *
  refine (mbg_ok hr).mono ?_
  rintro e w1 ⟨rfl, rfl⟩
  obtain ⟨c0, c1, c2, f0, f1, f2, hl2⟩ := sc_facts hr
  go_wp2_with fail
  clear c0 c1 c2 f0 f1 f2 hl2
  go_loopw [] (fun wr => ∃ j K : Nat, Hid (K = k + j) ∧ K ≤ S.size ∧ (∀ i, i < j → idP S k i) ∧ wr.heap[b]? = some (scO S K false) ∧ Bt b w wr ∧ wr.cell? ⟨w.heap.size, 0, none⟩ = some (xp b)) (fun wr => S.size - (intOf ((wr.cell? ⟨b, 1, none⟩).getD undef)).toNat)
  case atStart => exact ⟨0, k, Lib.hid rfl, hk, fun i hi => absurd hi (by omega), hr, hb, hp⟩
  case round =>
    clear hr hb hp
    obtain ⟨j, K, HK, hj, hall, hr, hb, hp⟩ := hrel
    have HA := Lib.hid hall
    clear hall
    by_cases hlt : K < S.size
    · have hcall := HG.out j (by have := HK.out; omega) HA.out
      have HX := ext_run S k (k + (j + 1)) (by omega) (by have := HK.out; omega)
      rw [show ((k + (j + 1) : Nat) : Int) = (K : Int) + 1 by have := HK.out; omega] at HX
      generalize S.extract k (k + (j + 1)) = T at hcall HX
      obtain ⟨c0, c1, c2, f0, f1, f2, hl2⟩ := sc_facts hr
      have d1 : (K : Int) < (S.size : Int) := by omega
      have d2 : decide (K < S.size) = true := dtrue hlt
      have d3 : decide ((K : Int) < (S.size : Int)) = true := dtrue d1
      have sb : (K : Int) + 1 ≤ 9223372036854775807 := by have : K < 4611686018427387904 := Nat.lt_trans hlt hs; omega
      have sw : IntKind.i64.wrap ((K : Int) + 1) = (K : Int) + 1 := by rw [IntKind.wrap_i64]; omega
      by_cases hq : idP S k j
      · rw [dtrue hq] at hcall
        have HC := Lib.hid (fun u (hu : ScB wr w.heap.size b S K u) => (hcall u).mono fun e w' ⟨h1, h2⟩ => (⟨h1, hu.on h2⟩ : e = Ending.returned (.bool true) ∧ ScB wr w.heap.size b S K w'))
        have H1 := Lib.hid (⟨hp, c0, c1, (Below.refl _ _).drew⟩ : ScB wr w.heap.size b S K wr.drew)
        have HQ := Lib.hid hq
        clear hcall hq
        go_wp2_with fail
        go_region_held3 (fun u => u.cell? ⟨w.heap.size, 0, none⟩ = some (xp b) ∧ u.cell? ⟨b, 0, none⟩ = some (.string S) ∧ u.cell? ⟨b, 1, none⟩ = some (.int .i64 K) ∧ Below wr.heap.size wr u)
          (first | exact H1.out | assumption)
          (first | (go_at_call 34; refine (HC.out _ (by assumption)).mono ?_; rintro e1 w2 ⟨rfl, hs1⟩))
        have hr2 := row_kept hr hs1.2.2.2
        have hb2 := hb.trans (.of_below hs1.2.2.2)
        have hp2 := hs1.1
        obtain ⟨g0, g1, g2, z0, z1, z2, gl⟩ := sc_facts hr2
        clear hs1
        go_wp2_with fail
        go_roundw
        case rel =>
          refine ⟨j + 1, K + 1, Lib.hid (by have := HK.out; omega), by omega, fun i hi => ?_, sc_next hr2, hb2.trans (Bt.set b w2 1 _), (Bt.set b w2 1 _).cell (show w.heap.size ≠ b by omega) hp2⟩
          by_cases q : i < j
          · exact HA.out i q
          · rw [show i = j by omega]; exact HQ.out
        case measure =>
          rw [cell_of_row _ b 1 _ _ _ (sc_next hr2), c1]
          simp [intOf]; omega
      · rw [dfalse hq] at hcall
        have HC := Lib.hid (fun u (hu : ScB wr w.heap.size b S K u) => (hcall u).mono fun e w' ⟨h1, h2⟩ => (⟨h1, hu.on h2⟩ : e = Ending.returned (.bool false) ∧ ScB wr w.heap.size b S K w'))
        have H1 := Lib.hid (⟨hp, c0, c1, (Below.refl _ _).drew⟩ : ScB wr w.heap.size b S K wr.drew)
        have HJ : (∀ i, i < j → idP S k i) ∧ ¬ idP S k j := ⟨HA.out, hq⟩
        replace HJ := Lib.hid HJ
        clear hcall hq
        obtain ⟨w0, hw0⟩ : ∃ w0, w0 = wr := ⟨_, rfl⟩
        rw [← hw0] at H1 HC hr hb hp c0 c1 c2 f0 f1 f2 hl2 ⊢
        clear hw0 wr
        go_wp2_with fail
        go_region_held3 (fun u => u.cell? ⟨w.heap.size, 0, none⟩ = some (xp b) ∧ u.cell? ⟨b, 0, none⟩ = some (.string S) ∧ u.cell? ⟨b, 1, none⟩ = some (.int .i64 K) ∧ Below w0.heap.size w0 u)
          (first | exact H1.out | assumption)
          (first | (go_at_call 34; refine (HC.out _ (by assumption)).mono ?_; rintro e1 wr ⟨rfl, hs1⟩))
        replace hr := row_kept hr hs1.2.2.2
        replace hb := hb.trans (.of_below hs1.2.2.2)
        replace hp := hs1.1
        clear hs1 c0 c1 c2 f0 f1 f2 hl2 H1 HC d1 d2 d3 sb
        replace HJ := HJ.out
        obtain ⟨c0, c1, -, -, -, -, -⟩ := sc_facts hr
        have HS := HE.out j (by rw [← HK.out]; exact hj)
        have HF := HI.out j HJ
        rw [← HK.out] at HS HF
        have HT := HL.out j HJ
        clear HL HI HE
        go_wp2_with fail
        go_quiet (fail)
        go_wp2_with fail
        refine (HF _).mono ?_
        rintro e w3 ⟨rfl, hb3⟩
        go_wp2_with fail
        have hr3 := row_kept (row_dn hr _) hb3
        refine leaves_cons (f := 33) (args := #[xp w.heap.size]) (by simp) (by simp [go_sem]) ?_
        refine (idc25_idl (x := xp b) (cell_below (w := World.drewN wr _) hp hb3)).mono ?_
        rintro e u' w'' ⟨rfl, rfl, rfl⟩
        rw [HT, ← HK.out]
        exact ⟨_, results_tmp rfl _ _ _, rfl, hr3, ((hb.trans (Bt.dn b wr _)).trans (.of_below hb3)).drew⟩
    · have HJ : (∀ i, i < j → idP S k i) ∧ ¬ idP S k j := ⟨HA.out, fun h => hlt (by rw [HK.out]; exact h.1)⟩
      have d1 : ¬ (K : Int) < (S.size : Int) := by omega
      have d2 : decide (K < S.size) = false := dfalse hlt
      have d3 : decide ((K : Int) < (S.size : Int)) = false := dfalse d1
      obtain ⟨c0, c1, c2, f0, f1, f2, hl2⟩ := sc_facts hr
      go_wp2_with fail
      go_quiet (fail)
      replace hr := row_dn hr nq
      replace hb := hb.trans (Bt.dn b wr nq)
      replace hp : (wr.drewN nq).cell? ⟨w.heap.size, 0, none⟩ = some (xp b) := hp
      clear c0 c1 c2 f0 f1 f2 hl2
      generalize wr.drewN nq = wr at *
      clear d1 d2 d3
      obtain ⟨c0, c1, -, -, -, -, -⟩ := sc_facts hr
      have HS := HE.out j (by rw [← HK.out]; exact hj)
      have HF := HI.out j HJ
      rw [← HK.out] at HS HF
      have HT := HL.out j HJ
      clear HL HI HE
      go_wp2_with fail
      go_quiet (fail)
      go_wp2_with fail
      refine (HF _).mono ?_
      rintro e w3 ⟨rfl, hb3⟩
      go_wp2_with fail
      have hr3 := row_kept (row_dn hr _) hb3
      refine leaves_cons (f := 33) (args := #[xp w.heap.size]) (by simp) (by simp [go_sem]) ?_
      refine (idc25_idl (x := xp b) (cell_below (w := World.drewN wr _) hp hb3)).mono ?_
      rintro e u' w'' ⟨rfl, rfl, rfl⟩
      rw [HT, ← HK.out]
      exact ⟨_, results_tmp rfl _ _ _, rfl, hr3, ((hb.trans (Bt.dn b wr _)).trans (.of_below hb3)).drew⟩
set_option maxHeartbeats 1000000 in
set_option maxRecDepth 100000 in
theorem id_no {S : ByteArray} {b k : Nat} {w : World} (h : w.heap[b]? = some (scO S k false)) (hk : k ≤ S.size) (hs : S.size < big) (hg : idB S k = true) :
    Calls Tryd.prog 14 #[xp b] w fun e w' => e = .returned (.string ⟨#[]⟩) ∧ w'.heap[b]? = some (scO S (k + idL S k) true) ∧ Bt b w w' := by
  have hmf : ∀ (fn : Fn) (first cap : Array Value) (w : World), (Instr.makeFunc fn first cap).run Tryd.prog w = .ok (.func fn first cap) w := fun _ _ _ _ => rfl
  have hl := row_lt h
  have HE := Lib.hid (fun (j : Nat) (hj : k + j ≤ S.size) => ext_run S k (k + j) (by omega) hj)
  have HL := Lib.hid (fun (j : Nat) (h : (∀ i, i < j → idP S k i) ∧ ¬ idP S k j) => idL_eq h.1 h.2)
  have HI := Lib.hid (fun (j : Nat) (h : (∀ i, i < j → idP S k i) ∧ ¬ idP S k j) (u : World) => show Calls Tryd.prog 35 #[.string (S.extract k (k + j))] u fun e w' => e = .returned (.bool false) ∧ Below u.heap.size u w' by
    have := p17id_any (S.extract k (k + j)) u
    rw [← idL_eq h.1 h.2] at this ⊢
    rwa [idn_fin hk, hg] at this)
  have HG := Lib.hid (fun (j : Nat) (h : k + j < S.size) (h2 : ∀ i, i < j → idP S k i) (u : World) => show Calls Tryd.prog 34 #[.string (S.extract k (k + (j + 1)))] u fun e w' => e = .returned (.bool (decide (idP S k j))) ∧ Below u.heap.size u w' by
    have := beg_any (S.extract k (k + (j + 1))) u (by rw [ext_size (by omega) (by omega)]; have : S.size < 4611686018427387904 := hs; show k + (j + 1) - k < 4611686018427387904; omega)
    rwa [begins_ext h h2] at this)
  clear hg
  go_enter_defers Tryd.func14, Tryd.ntmps14
  go_wp2_with fail
  have hr := row_kept h (al1 w (bx1 b))
  have hb := Bt.al b w (bx1 b)
  have hp := cell_new w #[xp b] 24 _ rfl
  generalize w.alloc (bx1 b) = u at *
  refine (mbg_ok hr).mono ?_
  rintro e w1 ⟨rfl, rfl⟩
  obtain ⟨c0, c1, c2, f0, f1, f2, hl2⟩ := sc_facts hr
  go_wp2_with fail
  clear c0 c1 c2 f0 f1 f2 hl2
  go_loopw [] (fun wr => ∃ j K : Nat, Hid (K = k + j) ∧ K ≤ S.size ∧ (∀ i, i < j → idP S k i) ∧ wr.heap[b]? = some (scO S K false) ∧ Bt b w wr ∧ wr.cell? ⟨w.heap.size, 0, none⟩ = some (xp b)) (fun wr => S.size - (intOf ((wr.cell? ⟨b, 1, none⟩).getD undef)).toNat)
  case atStart => exact ⟨0, k, Lib.hid rfl, hk, fun i hi => absurd hi (by omega), hr, hb, hp⟩
  case round =>
    clear hr hb hp
    obtain ⟨j, K, HK, hj, hall, hr, hb, hp⟩ := hrel
    have HA := Lib.hid hall
    clear hall
    by_cases hlt : K < S.size
    · have hcall := HG.out j (by have := HK.out; omega) HA.out
      have HX := ext_run S k (k + (j + 1)) (by omega) (by have := HK.out; omega)
      rw [show ((k + (j + 1) : Nat) : Int) = (K : Int) + 1 by have := HK.out; omega] at HX
      generalize S.extract k (k + (j + 1)) = T at hcall HX
      obtain ⟨c0, c1, c2, f0, f1, f2, hl2⟩ := sc_facts hr
      have d1 : (K : Int) < (S.size : Int) := by omega
      have d2 : decide (K < S.size) = true := dtrue hlt
      have d3 : decide ((K : Int) < (S.size : Int)) = true := dtrue d1
      have sb : (K : Int) + 1 ≤ 9223372036854775807 := by have : K < 4611686018427387904 := Nat.lt_trans hlt hs; omega
      have sw : IntKind.i64.wrap ((K : Int) + 1) = (K : Int) + 1 := by rw [IntKind.wrap_i64]; omega
      by_cases hq : idP S k j
      · rw [dtrue hq] at hcall
        have HC := Lib.hid (fun u (hu : ScB wr w.heap.size b S K u) => (hcall u).mono fun e w' ⟨h1, h2⟩ => (⟨h1, hu.on h2⟩ : e = Ending.returned (.bool true) ∧ ScB wr w.heap.size b S K w'))
        have H1 := Lib.hid (⟨hp, c0, c1, (Below.refl _ _).drew⟩ : ScB wr w.heap.size b S K wr.drew)
        have HQ := Lib.hid hq
        clear hcall hq
        go_wp2_with fail
        go_region_held3 (fun u => u.cell? ⟨w.heap.size, 0, none⟩ = some (xp b) ∧ u.cell? ⟨b, 0, none⟩ = some (.string S) ∧ u.cell? ⟨b, 1, none⟩ = some (.int .i64 K) ∧ Below wr.heap.size wr u)
          (first | exact H1.out | assumption)
          (first | (go_at_call 34; refine (HC.out _ (by assumption)).mono ?_; rintro e1 w2 ⟨rfl, hs1⟩))
        have hr2 := row_kept hr hs1.2.2.2
        have hb2 := hb.trans (.of_below hs1.2.2.2)
        have hp2 := hs1.1
        obtain ⟨g0, g1, g2, z0, z1, z2, gl⟩ := sc_facts hr2
        clear hs1
        go_wp2_with fail
        go_roundw
        case rel =>
          refine ⟨j + 1, K + 1, Lib.hid (by have := HK.out; omega), by omega, fun i hi => ?_, sc_next hr2, hb2.trans (Bt.set b w2 1 _), (Bt.set b w2 1 _).cell (show w.heap.size ≠ b by omega) hp2⟩
          by_cases q : i < j
          · exact HA.out i q
          · rw [show i = j by omega]; exact HQ.out
        case measure =>
          rw [cell_of_row _ b 1 _ _ _ (sc_next hr2), c1]
          simp [intOf]; omega
      · rw [dfalse hq] at hcall
        have HC := Lib.hid (fun u (hu : ScB wr w.heap.size b S K u) => (hcall u).mono fun e w' ⟨h1, h2⟩ => (⟨h1, hu.on h2⟩ : e = Ending.returned (.bool false) ∧ ScB wr w.heap.size b S K w'))
        have H1 := Lib.hid (⟨hp, c0, c1, (Below.refl _ _).drew⟩ : ScB wr w.heap.size b S K wr.drew)
        have HJ : (∀ i, i < j → idP S k i) ∧ ¬ idP S k j := ⟨HA.out, hq⟩
        replace HJ := Lib.hid HJ
        clear hcall hq
        obtain ⟨w0, hw0⟩ : ∃ w0, w0 = wr := ⟨_, rfl⟩
        rw [← hw0] at H1 HC hr hb hp c0 c1 c2 f0 f1 f2 hl2 ⊢
        clear hw0 wr
        go_wp2_with fail
        go_region_held3 (fun u => u.cell? ⟨w.heap.size, 0, none⟩ = some (xp b) ∧ u.cell? ⟨b, 0, none⟩ = some (.string S) ∧ u.cell? ⟨b, 1, none⟩ = some (.int .i64 K) ∧ Below w0.heap.size w0 u)
          (first | exact H1.out | assumption)
          (first | (go_at_call 34; refine (HC.out _ (by assumption)).mono ?_; rintro e1 wr ⟨rfl, hs1⟩))
        replace hr := row_kept hr hs1.2.2.2
        replace hb := hb.trans (.of_below hs1.2.2.2)
        replace hp := hs1.1
        clear hs1 c0 c1 c2 f0 f1 f2 hl2 H1 HC d1 d2 d3 sb
        replace HJ := HJ.out
        obtain ⟨c0, c1, -, -, -, -, -⟩ := sc_facts hr
        have HS := HE.out j (by rw [← HK.out]; exact hj)
        have HF := HI.out j HJ
        rw [← HK.out] at HS HF
        have HT := HL.out j HJ
        clear HL HI HE
        go_wp2_with fail
        go_quiet (fail)
        go_wp2_with fail
        refine (HF _).mono ?_
        rintro e w3 ⟨rfl, hb3⟩
        go_wp2_with fail
        have hr3 := row_kept (row_dn hr _) hb3
        refine leaves_cons (f := 33) (args := #[xp w.heap.size]) (by simp) (by simp [go_sem]) ?_
        refine (idc25_cat (b := b) (cell_below (w := World.drewN wr _) hp hb3) hr3 []).mono ?_
        rintro e u' w'' ⟨rfl, rfl, rfl⟩
        rw [HT, ← HK.out]
        exact ⟨_, results_tmp rfl _ _ _, rfl, sc_bad hr3, (((hb.trans (Bt.dn b wr _)).trans (.of_below hb3)).trans (Bt.set b w3 2 _)).drew⟩
    · have HJ : (∀ i, i < j → idP S k i) ∧ ¬ idP S k j := ⟨HA.out, fun h => hlt (by rw [HK.out]; exact h.1)⟩
      have d1 : ¬ (K : Int) < (S.size : Int) := by omega
      have d2 : decide (K < S.size) = false := dfalse hlt
      have d3 : decide ((K : Int) < (S.size : Int)) = false := dfalse d1
      obtain ⟨c0, c1, c2, f0, f1, f2, hl2⟩ := sc_facts hr
      go_wp2_with fail
      go_quiet (fail)
      replace hr := row_dn hr nq
      replace hb := hb.trans (Bt.dn b wr nq)
      replace hp : (wr.drewN nq).cell? ⟨w.heap.size, 0, none⟩ = some (xp b) := hp
      clear c0 c1 c2 f0 f1 f2 hl2
      generalize wr.drewN nq = wr at *
      clear d1 d2 d3
      obtain ⟨c0, c1, -, -, -, -, -⟩ := sc_facts hr
      have HS := HE.out j (by rw [← HK.out]; exact hj)
      have HF := HI.out j HJ
      rw [← HK.out] at HS HF
      have HT := HL.out j HJ
      clear HL HI HE
      go_wp2_with fail
      go_quiet (fail)
      go_wp2_with fail
      refine (HF _).mono ?_
      rintro e w3 ⟨rfl, hb3⟩
      go_wp2_with fail
      have hr3 := row_kept (row_dn hr _) hb3
      refine leaves_cons (f := 33) (args := #[xp w.heap.size]) (by simp) (by simp [go_sem]) ?_
      refine (idc25_cat (b := b) (cell_below (w := World.drewN wr _) hp hb3) hr3 []).mono ?_
      rintro e u' w'' ⟨rfl, rfl, rfl⟩
      rw [HT, ← HK.out]
      exact ⟨_, results_tmp rfl _ _ _, rfl, sc_bad hr3, (((hb.trans (Bt.dn b wr _)).trans (.of_below hb3)).trans (Bt.set b w3 2 _)).drew⟩
end Go.Proofs.YtlodijncaojifaaDoor
