/- The law Identifiers of package linescan. -/
import Derived.Test.YtlodijncaojifaaDoorNw
import Derived.Test.YtlodijncaojifaaDoorKz
namespace Go.Proofs.YtlodijncaojifaaDoor
open Go.RowKit

theorem ext_all (s : ByteArray) : s.extract 0 s.size = s := by
  have : (s.extract 0 s.size).data = s.data := by
    rw [← Array.toList_inj, Lib.extract_data, List.drop_zero, List.take_of_length_le (by simp)]
  exact congrArg ByteArray.mk this
theorem ext_app (s t : ByteArray) : (s ++ t).extract 0 s.size = s := by
  have : ((s ++ t).extract 0 s.size).data = s.data := by
    rw [← Array.toList_inj, Lib.extract_data, List.drop_zero, ByteArray.data_append, Array.toList_append, List.take_append_of_le_length (by simp), List.take_of_length_le (by simp)]
  exact congrArg ByteArray.mk this
theorem tl_eq {a b : ByteArray} : (a.toList == b.toList) = decide (a = b) := by
  by_cases h : a = b
  · subst h; simp
  · rw [decide_eq_false h, beq_eq_false_iff_ne]
    intro e
    rw [ByteArray.toList_eq, ByteArray.toList_eq] at e
    obtain ⟨da⟩ := a
    obtain ⟨db⟩ := b
    exact h (congrArg ByteArray.mk (Array.toList_inj.1 e))
/-- An identifier and a space: it is accepted as a whole exactly if it is one. -/
theorem id_space (t : ByteArray) : idn t = (!idB (t ++ ⟨#[32]⟩) 0 && decide (idV (t ++ ⟨#[32]⟩) 0 = t)) := by
  have ts : (t ++ (⟨#[32]⟩ : ByteArray)).size = t.size + 1 := by rw [ByteArray.size_append]; rfl
  have old : ∀ j, j < t.size → bt (t ++ ⟨#[32]⟩) (0 + j) = bt t j := fun j hj => by rw [Nat.zero_add, bt_app, if_pos hj]
  have last : bt (t ++ ⟨#[32]⟩) (0 + t.size) = 32 := by rw [Nat.zero_add, bt_app, if_neg (by omega), Nat.sub_self]; rfl
  have bf : ∀ j, j ≤ t.size → bfo (t ++ ⟨#[32]⟩) 0 j = bfr t j := fun j hj => by
    unfold bfo bfr
    by_cases q : j = 0
    · rw [if_pos q, if_pos q]
    · rw [if_neg q, if_neg q, show 0 + j - 1 = 0 + (j - 1) by omega, old (j - 1) (by omega)]
  cases h : idn t
  · cases hb : idB (t ++ ⟨#[32]⟩) 0
    · have hf := idn_fin (S := t ++ ⟨#[32]⟩) (k := 0) (Nat.zero_le _)
      rw [hb] at hf
      have hv := idB_no hb
      by_cases e : idV (t ++ ⟨#[32]⟩) 0 = t
      · rw [← hv, e, h] at hf; cases hf
      · rw [decide_eq_false e]; rfl
    · rfl
  · obtain ⟨h1, h2, h3⟩ := idn_pc.1 h
    have hp : ∀ j, j < t.size → idP (t ++ ⟨#[32]⟩) 0 j := fun j hj => by
      refine ⟨by omega, by omega, ?_⟩
      rw [old j hj, bf j (by omega)]
      rcases h2 j hj with g | g | ⟨g, g2⟩
      · exact .inl g
      · exact .inr (.inl g)
      · refine .inr (.inr ⟨g, g2, fun e => ?_⟩)
        have e2 : t.size = j + 1 := by omega
        rw [e2, bfr_succ] at h3
        exact h3 g
    have hn : ¬ idP (t ++ ⟨#[32]⟩) 0 t.size := fun c => by
      obtain ⟨_, _, c3⟩ := c
      rw [last] at c3
      omega
    obtain ⟨e1, e2, e3⟩ := id_end hp hn (by rw [bf _ (Nat.le_refl _)]; exact h3)
    rw [e2, e3, Nat.zero_add, ext_app]
    simp
theorem id_out (S : ByteArray) (hb : idB S 0 = false) : idn (idV S 0) = true ∧ (idV S 0).size = idL S 0 ∧ idL S 0 ≤ S.size ∧ S.extract 0 (idL S 0) = idV S 0 := by
  have hf := idn_fin (S := S) (k := 0) (Nat.zero_le _)
  rw [hb] at hf
  have hv := idB_no hb
  have hl := (idL_le S 0 (Nat.zero_le _)).2
  rw [← hv] at hf
  refine ⟨hf, by rw [hv, ext_size (by omega) hl]; omega, by omega, by rw [hv, Nat.zero_add]⟩
/-- Identifier, whether it fails or not. -/
theorem id_new {S : ByteArray} {b : Nat} {w : World} (h : w.heap[b]? = some (scO S 0 false)) (hs : S.size < big) :
    Calls Tryd.prog 14 #[xp b] w fun e w' => e = .returned (.string (idV S 0)) ∧ w'.heap[b]? = some (scO S (idL S 0) (idB S 0)) ∧ Bt b w w' := by
  have e0 : 0 + idL S 0 = idL S 0 := Nat.zero_add _
  cases hb : idB S 0
  · have := id_ok h (Nat.zero_le _) hs hb
    rw [← idB_no hb, e0] at this
    exact this
  · have := id_no h (Nat.zero_le _) hs hb
    rw [← idB_yes hb, e0] at this
    exact this
/-! the law -/
theorem strV (a b : ByteArray) (h : a.size + b.size ≤ 1000) (u : World) : (Op.stringOp .add a b).run Tryd.prog u = .ok (.string (a ++ b)) u := by
  rw [run_string_add_if, if_neg (by omega)]
theorem err_new {S : ByteArray} {b k : Nat} {bad : Bool} {w : World} (h : w.heap[b]? = some (scO S k bad)) :
    Calls Tryd.prog 20 #[xp b] w fun e w' => e = .returned (.int .i64 (if bad then 6 else 0)) ∧ Below w.heap.size w w' := by
  cases bad
  · exact err_ok h
  · exact err_bad h
theorem l25i_l1 (id s : ByteArray) (h : 100 < id.size) (W : World) : Calls Tryd.prog 5 #[.string id, .string s] W fun e w' => e = .returned (.bool true) ∧ Below W.heap.size W w' := by
  have d1 : decide (100 < id.size) = true := dtrue h
  go_enter Tryd.func5, Tryd.ntmps5
  go_wp2_with fail
  refine (c25awake_any _).mono ?_
  rintro e w1 ⟨rfl, b1⟩
  go_wp2_with fail
  refine (c25awake_any _).mono ?_
  rintro e w2 ⟨rfl, b2⟩
  go_wp2_with fail
  go_ret
  exact ⟨rfl, below_on b1 b2⟩
theorem l25i_l2 (id s : ByteArray) (h1 : ¬ 100 < id.size) (h : 1000 < s.size) (W : World) : Calls Tryd.prog 5 #[.string id, .string s] W fun e w' => e = .returned (.bool true) ∧ Below W.heap.size W w' := by
  have d1 : decide (100 < id.size) = false := dfalse h1
  have d2 : decide (1000 < s.size) = true := dtrue h
  go_enter Tryd.func5, Tryd.ntmps5
  go_wp2_with fail
  refine (c25awake_any _).mono ?_
  rintro e w1 ⟨rfl, b1⟩
  go_wp2_with fail
  refine (c25awake_any _).mono ?_
  rintro e w2 ⟨rfl, b2⟩
  go_wp2_with fail
  go_ret
  exact ⟨rfl, below_on b1 b2⟩
set_option maxHeartbeats 2000000 in
set_option maxRecDepth 100000 in
theorem l25i_gg (id s : ByteArray) (h1 : ¬ 100 < id.size) (h2 : ¬ 1000 < s.size) (p1 : idB (id ++ ⟨#[32]⟩) 0 = false) (p2 : idB s 0 = false) (W : World) : Calls Tryd.prog 5 #[.string id, .string s] W fun e w' => e = .returned (.bool true) ∧ Below W.heap.size W w' := by
  have d1 : decide (100 < id.size) = false := dfalse h1
  have d2 : decide (1000 < s.size) = false := dfalse h2
  have hadd := strV id ⟨#[32]⟩ (by show id.size + 1 ≤ 1000; omega)
  have SP := id_space id
  rw [p1] at SP
  have ts : (id ++ (⟨#[32]⟩ : ByteArray)).size < big := by rw [ByteArray.size_append]; show id.size + 1 < 4611686018427387904; omega
  have ss : s.size < big := by show s.size < 4611686018427387904; omega
  have TL := tl_eq (a := idV (id ++ ⟨#[32]⟩) 0) (b := id)
  have N1 := Lib.hid (fun (u : World) (b : Nat) (h : u.heap[b]? = some (scO (id ++ ⟨#[32]⟩) 0 false)) => id_new h ts)
  have N2 := Lib.hid (fun (u : World) (b : Nat) (h : u.heap[b]? = some (scO s 0 false)) => id_new h ss)
  have PP1 := Lib.hid p1
  have PP2 := Lib.hid p2
  have R1 := Lib.hid (fun u => r17id_any id u)
  generalize id ++ ⟨#[32]⟩ = T at *
  generalize hq1 : decide (idV T 0 = id) = q1 at SP TL
  have SP2 : idn id = q1 := by rw [SP]; rfl
  obtain ⟨o1, o2, o3, o4⟩ := id_out s p2
  have R2 := Lib.hid (fun u => r17id_any (idV s 0) u)
  rw [o1] at R2
  rw [SP2] at R1
  clear SP SP2 ts ss p1 p2 hq1
  generalize idV T 0 = A1 at *
  generalize idL T 0 = K1 at *
  have hsl : ∀ u, (Instr.slice 9 (.string s) none (some (.int .i64 ((idV s 0).size : Int))) none).run Tryd.prog u = .ok (.string (s.extract 0 (idV s 0).size)) u := fun u => by rw [run_slice_string_h u 9 s Tryd.underlying9 .i64 _ (by omega) (by omega)]; rfl
  rw [o2, o4] at hsl
  have o5 := Lib.hid o2
  rw [← o2] at hsl
  have le1 : (idV s 0).size ≤ s.size := by omega
  rw [← o2] at N2
  clear o1 o2 o3 o4
  generalize idV s 0 = A2 at *
  go_enter Tryd.func5, Tryd.ntmps5
  go_wp2_with fail
  refine (c25awake_any _).mono ?_
  rintro e w1 ⟨rfl, b1⟩
  go_wp2_with fail
  refine (new25_any _ _).mono ?_
  rintro e w2 ⟨rfl, r2, b2⟩
  go_wp2_with fail
  refine (new25_any _ _).mono ?_
  rintro e w3 ⟨rfl, r3, b3⟩
  have xl : W.heap.size ≤ w1.heap.size := b1.size
  have xy : w1.heap.size < w2.heap.size := row_lt r2
  have r2' := row_kept r2 b3
  have bl := below_on (below_on b1 b2) b3
  generalize w1.heap.size = x1 at *
  generalize w2.heap.size = x2 at *
  clear b1 b2 b3 r2
  go_wp2_with fail
  refine (N1.out _ _ r2').mono ?_
  rintro e w4 ⟨rfl, r4, b4⟩
  rw [PP1.out] at r4
  have r3' := b4.row (show x2 ≠ x1 by omega) r3
  have bl4 := b4.bel bl xl
  clear r2' r3 b4 bl
  go_wp2_with fail
  refine (R1.out _).mono ?_
  rintro e w5 ⟨rfl, rfl⟩
  go_wp2_with fail
  refine (err_ok r4).mono ?_
  rintro e w6 ⟨rfl, b6⟩
  have r6 := row_kept r3' b6
  have bl6 := below_on bl4 b6
  clear r4 r3' b6 bl4
  cases q1
  · go_wp2_with fail
    refine (N2.out _ _ r6).mono ?_
    rintro e w7 ⟨rfl, r7, b7⟩
    rw [PP2.out] at r7
    have bl7 := b7.bel bl6 (by omega)
    clear r6 b7 bl6
    go_wp2_with fail
    refine (err_ok r7).mono ?_
    rintro e w8 ⟨rfl, b8⟩
    have r8 := row_kept r7 b8
    have bl8 := below_on bl7 b8
    clear r7 b8 bl7
    go_wp2_with fail
    refine (R2.out _).mono ?_
    rintro e w9 ⟨rfl, rfl⟩
    go_wp2_with fail
    refine (off_any r8).mono ?_
    rintro e w10 ⟨rfl, b10⟩
    go_wp2_with fail
    go_ret
    exact ⟨rfl, below_on bl8 b10⟩
  · go_wp2_with fail
    refine (N2.out _ _ r6).mono ?_
    rintro e w7 ⟨rfl, r7, b7⟩
    rw [PP2.out] at r7
    have bl7 := b7.bel bl6 (by omega)
    clear r6 b7 bl6
    go_wp2_with fail
    refine (err_ok r7).mono ?_
    rintro e w8 ⟨rfl, b8⟩
    have r8 := row_kept r7 b8
    have bl8 := below_on bl7 b8
    clear r7 b8 bl7
    go_wp2_with fail
    refine (R2.out _).mono ?_
    rintro e w9 ⟨rfl, rfl⟩
    go_wp2_with fail
    refine (off_any r8).mono ?_
    rintro e w10 ⟨rfl, b10⟩
    go_wp2_with fail
    go_ret
    exact ⟨rfl, below_on bl8 b10⟩
set_option maxHeartbeats 2000000 in
set_option maxRecDepth 100000 in
theorem l25i_gb (id s : ByteArray) (h1 : ¬ 100 < id.size) (h2 : ¬ 1000 < s.size) (p1 : idB (id ++ ⟨#[32]⟩) 0 = false) (p2 : idB s 0 = true) (W : World) : Calls Tryd.prog 5 #[.string id, .string s] W fun e w' => e = .returned (.bool true) ∧ Below W.heap.size W w' := by
  have d1 : decide (100 < id.size) = false := dfalse h1
  have d2 : decide (1000 < s.size) = false := dfalse h2
  have hadd := strV id ⟨#[32]⟩ (by show id.size + 1 ≤ 1000; omega)
  have SP := id_space id
  rw [p1] at SP
  have ts : (id ++ (⟨#[32]⟩ : ByteArray)).size < big := by rw [ByteArray.size_append]; show id.size + 1 < 4611686018427387904; omega
  have ss : s.size < big := by show s.size < 4611686018427387904; omega
  have TL := tl_eq (a := idV (id ++ ⟨#[32]⟩) 0) (b := id)
  have N1 := Lib.hid (fun (u : World) (b : Nat) (h : u.heap[b]? = some (scO (id ++ ⟨#[32]⟩) 0 false)) => id_new h ts)
  have N2 := Lib.hid (fun (u : World) (b : Nat) (h : u.heap[b]? = some (scO s 0 false)) => id_new h ss)
  have PP1 := Lib.hid p1
  have PP2 := Lib.hid p2
  have R1 := Lib.hid (fun u => r17id_any id u)
  generalize id ++ ⟨#[32]⟩ = T at *
  generalize hq1 : decide (idV T 0 = id) = q1 at SP TL
  have SP2 : idn id = q1 := by rw [SP]; rfl
  have E2 := Lib.hid (idB_yes p2)
  rw [SP2] at R1
  clear SP SP2 ts ss p1 p2 hq1
  generalize idV T 0 = A1 at *
  generalize idL T 0 = K1 at *
  rw [E2.out] at N2
  clear E2
  go_enter Tryd.func5, Tryd.ntmps5
  go_wp2_with fail
  refine (c25awake_any _).mono ?_
  rintro e w1 ⟨rfl, b1⟩
  go_wp2_with fail
  refine (new25_any _ _).mono ?_
  rintro e w2 ⟨rfl, r2, b2⟩
  go_wp2_with fail
  refine (new25_any _ _).mono ?_
  rintro e w3 ⟨rfl, r3, b3⟩
  have xl : W.heap.size ≤ w1.heap.size := b1.size
  have xy : w1.heap.size < w2.heap.size := row_lt r2
  have r2' := row_kept r2 b3
  have bl := below_on (below_on b1 b2) b3
  generalize w1.heap.size = x1 at *
  generalize w2.heap.size = x2 at *
  clear b1 b2 b3 r2
  go_wp2_with fail
  refine (N1.out _ _ r2').mono ?_
  rintro e w4 ⟨rfl, r4, b4⟩
  rw [PP1.out] at r4
  have r3' := b4.row (show x2 ≠ x1 by omega) r3
  have bl4 := b4.bel bl xl
  clear r2' r3 b4 bl
  go_wp2_with fail
  refine (R1.out _).mono ?_
  rintro e w5 ⟨rfl, rfl⟩
  go_wp2_with fail
  refine (err_ok r4).mono ?_
  rintro e w6 ⟨rfl, b6⟩
  have r6 := row_kept r3' b6
  have bl6 := below_on bl4 b6
  clear r4 r3' b6 bl4
  cases q1
  · go_wp2_with fail
    refine (N2.out _ _ r6).mono ?_
    rintro e w7 ⟨rfl, r7, b7⟩
    rw [PP2.out] at r7
    have bl7 := b7.bel bl6 (by omega)
    clear r6 b7 bl6
    go_wp2_with fail
    refine (err_bad r7).mono ?_
    rintro e w8 ⟨rfl, b8⟩
    have r8 := row_kept r7 b8
    have bl8 := below_on bl7 b8
    clear r7 b8 bl7
    go_wp2_with fail
    go_ret
    exact ⟨rfl, bl8⟩
  · go_wp2_with fail
    refine (N2.out _ _ r6).mono ?_
    rintro e w7 ⟨rfl, r7, b7⟩
    rw [PP2.out] at r7
    have bl7 := b7.bel bl6 (by omega)
    clear r6 b7 bl6
    go_wp2_with fail
    refine (err_bad r7).mono ?_
    rintro e w8 ⟨rfl, b8⟩
    have r8 := row_kept r7 b8
    have bl8 := below_on bl7 b8
    clear r7 b8 bl7
    go_wp2_with fail
    go_ret
    exact ⟨rfl, bl8⟩
set_option maxHeartbeats 2000000 in
set_option maxRecDepth 100000 in
theorem l25i_bg (id s : ByteArray) (h1 : ¬ 100 < id.size) (h2 : ¬ 1000 < s.size) (p1 : idB (id ++ ⟨#[32]⟩) 0 = true) (p2 : idB s 0 = false) (W : World) : Calls Tryd.prog 5 #[.string id, .string s] W fun e w' => e = .returned (.bool true) ∧ Below W.heap.size W w' := by
  have d1 : decide (100 < id.size) = false := dfalse h1
  have d2 : decide (1000 < s.size) = false := dfalse h2
  have hadd := strV id ⟨#[32]⟩ (by show id.size + 1 ≤ 1000; omega)
  have SP := id_space id
  rw [p1] at SP
  have ts : (id ++ (⟨#[32]⟩ : ByteArray)).size < big := by rw [ByteArray.size_append]; show id.size + 1 < 4611686018427387904; omega
  have ss : s.size < big := by show s.size < 4611686018427387904; omega
  have TL := tl_eq (a := idV (id ++ ⟨#[32]⟩) 0) (b := id)
  have N1 := Lib.hid (fun (u : World) (b : Nat) (h : u.heap[b]? = some (scO (id ++ ⟨#[32]⟩) 0 false)) => id_new h ts)
  have N2 := Lib.hid (fun (u : World) (b : Nat) (h : u.heap[b]? = some (scO s 0 false)) => id_new h ss)
  have PP1 := Lib.hid p1
  have PP2 := Lib.hid p2
  have R1 := Lib.hid (fun u => r17id_any id u)
  generalize id ++ ⟨#[32]⟩ = T at *
  generalize hq1 : decide (idV T 0 = id) = q1 at SP TL
  have SP2 : idn id = false := by rw [SP]; rfl
  obtain ⟨o1, o2, o3, o4⟩ := id_out s p2
  have R2 := Lib.hid (fun u => r17id_any (idV s 0) u)
  rw [o1] at R2
  rw [SP2] at R1
  clear SP SP2 ts ss p1 p2 hq1
  generalize idV T 0 = A1 at *
  generalize idL T 0 = K1 at *
  have hsl : ∀ u, (Instr.slice 9 (.string s) none (some (.int .i64 ((idV s 0).size : Int))) none).run Tryd.prog u = .ok (.string (s.extract 0 (idV s 0).size)) u := fun u => by rw [run_slice_string_h u 9 s Tryd.underlying9 .i64 _ (by omega) (by omega)]; rfl
  rw [o2, o4] at hsl
  have o5 := Lib.hid o2
  rw [← o2] at hsl
  have le1 : (idV s 0).size ≤ s.size := by omega
  rw [← o2] at N2
  clear o1 o2 o3 o4
  generalize idV s 0 = A2 at *
  go_enter Tryd.func5, Tryd.ntmps5
  go_wp2_with fail
  refine (c25awake_any _).mono ?_
  rintro e w1 ⟨rfl, b1⟩
  go_wp2_with fail
  refine (new25_any _ _).mono ?_
  rintro e w2 ⟨rfl, r2, b2⟩
  go_wp2_with fail
  refine (new25_any _ _).mono ?_
  rintro e w3 ⟨rfl, r3, b3⟩
  have xl : W.heap.size ≤ w1.heap.size := b1.size
  have xy : w1.heap.size < w2.heap.size := row_lt r2
  have r2' := row_kept r2 b3
  have bl := below_on (below_on b1 b2) b3
  generalize w1.heap.size = x1 at *
  generalize w2.heap.size = x2 at *
  clear b1 b2 b3 r2
  go_wp2_with fail
  refine (N1.out _ _ r2').mono ?_
  rintro e w4 ⟨rfl, r4, b4⟩
  rw [PP1.out] at r4
  have r3' := b4.row (show x2 ≠ x1 by omega) r3
  have bl4 := b4.bel bl xl
  clear r2' r3 b4 bl
  go_wp2_with fail
  refine (R1.out _).mono ?_
  rintro e w5 ⟨rfl, rfl⟩
  go_wp2_with fail
  refine (err_bad r4).mono ?_
  rintro e w6 ⟨rfl, b6⟩
  have r6 := row_kept r3' b6
  have bl6 := below_on bl4 b6
  clear r4 r3' b6 bl4
  go_wp2_with fail
  refine (N2.out _ _ r6).mono ?_
  rintro e w7 ⟨rfl, r7, b7⟩
  rw [PP2.out] at r7
  have bl7 := b7.bel bl6 (by omega)
  clear r6 b7 bl6
  go_wp2_with fail
  refine (err_ok r7).mono ?_
  rintro e w8 ⟨rfl, b8⟩
  have r8 := row_kept r7 b8
  have bl8 := below_on bl7 b8
  clear r7 b8 bl7
  go_wp2_with fail
  refine (R2.out _).mono ?_
  rintro e w9 ⟨rfl, rfl⟩
  go_wp2_with fail
  refine (off_any r8).mono ?_
  rintro e w10 ⟨rfl, b10⟩
  go_wp2_with fail
  go_ret
  exact ⟨rfl, below_on bl8 b10⟩
set_option maxHeartbeats 2000000 in
set_option maxRecDepth 100000 in
theorem l25i_bb (id s : ByteArray) (h1 : ¬ 100 < id.size) (h2 : ¬ 1000 < s.size) (p1 : idB (id ++ ⟨#[32]⟩) 0 = true) (p2 : idB s 0 = true) (W : World) : Calls Tryd.prog 5 #[.string id, .string s] W fun e w' => e = .returned (.bool true) ∧ Below W.heap.size W w' := by
  have d1 : decide (100 < id.size) = false := dfalse h1
  have d2 : decide (1000 < s.size) = false := dfalse h2
  have hadd := strV id ⟨#[32]⟩ (by show id.size + 1 ≤ 1000; omega)
  have SP := id_space id
  rw [p1] at SP
  have ts : (id ++ (⟨#[32]⟩ : ByteArray)).size < big := by rw [ByteArray.size_append]; show id.size + 1 < 4611686018427387904; omega
  have ss : s.size < big := by show s.size < 4611686018427387904; omega
  have TL := tl_eq (a := idV (id ++ ⟨#[32]⟩) 0) (b := id)
  have N1 := Lib.hid (fun (u : World) (b : Nat) (h : u.heap[b]? = some (scO (id ++ ⟨#[32]⟩) 0 false)) => id_new h ts)
  have N2 := Lib.hid (fun (u : World) (b : Nat) (h : u.heap[b]? = some (scO s 0 false)) => id_new h ss)
  have PP1 := Lib.hid p1
  have PP2 := Lib.hid p2
  have R1 := Lib.hid (fun u => r17id_any id u)
  generalize id ++ ⟨#[32]⟩ = T at *
  generalize hq1 : decide (idV T 0 = id) = q1 at SP TL
  have SP2 : idn id = false := by rw [SP]; rfl
  have E2 := Lib.hid (idB_yes p2)
  rw [SP2] at R1
  clear SP SP2 ts ss p1 p2 hq1
  generalize idV T 0 = A1 at *
  generalize idL T 0 = K1 at *
  rw [E2.out] at N2
  clear E2
  go_enter Tryd.func5, Tryd.ntmps5
  go_wp2_with fail
  refine (c25awake_any _).mono ?_
  rintro e w1 ⟨rfl, b1⟩
  go_wp2_with fail
  refine (new25_any _ _).mono ?_
  rintro e w2 ⟨rfl, r2, b2⟩
  go_wp2_with fail
  refine (new25_any _ _).mono ?_
  rintro e w3 ⟨rfl, r3, b3⟩
  have xl : W.heap.size ≤ w1.heap.size := b1.size
  have xy : w1.heap.size < w2.heap.size := row_lt r2
  have r2' := row_kept r2 b3
  have bl := below_on (below_on b1 b2) b3
  generalize w1.heap.size = x1 at *
  generalize w2.heap.size = x2 at *
  clear b1 b2 b3 r2
  go_wp2_with fail
  refine (N1.out _ _ r2').mono ?_
  rintro e w4 ⟨rfl, r4, b4⟩
  rw [PP1.out] at r4
  have r3' := b4.row (show x2 ≠ x1 by omega) r3
  have bl4 := b4.bel bl xl
  clear r2' r3 b4 bl
  go_wp2_with fail
  refine (R1.out _).mono ?_
  rintro e w5 ⟨rfl, rfl⟩
  go_wp2_with fail
  refine (err_bad r4).mono ?_
  rintro e w6 ⟨rfl, b6⟩
  have r6 := row_kept r3' b6
  have bl6 := below_on bl4 b6
  clear r4 r3' b6 bl4
  go_wp2_with fail
  refine (N2.out _ _ r6).mono ?_
  rintro e w7 ⟨rfl, r7, b7⟩
  rw [PP2.out] at r7
  have bl7 := b7.bel bl6 (by omega)
  clear r6 b7 bl6
  go_wp2_with fail
  refine (err_bad r7).mono ?_
  rintro e w8 ⟨rfl, b8⟩
  have r8 := row_kept r7 b8
  have bl8 := below_on bl7 b8
  clear r7 b8 bl7
  go_wp2_with fail
  go_ret
  exact ⟨rfl, bl8⟩
theorem l25i_any (id s : ByteArray) (W : World) : Calls Tryd.prog 5 #[.string id, .string s] W fun e w' => e = .returned (.bool true) ∧ Below W.heap.size W w' := by
  by_cases h1 : 100 < id.size
  · exact l25i_l1 id s h1 W
  · by_cases h2 : 1000 < s.size
    · exact l25i_l2 id s h1 h2 W
    · cases p1 : idB (id ++ ⟨#[32]⟩) 0 <;> cases p2 : idB s 0
      · exact l25i_gg id s h1 h2 p1 p2 W
      · exact l25i_gb id s h1 h2 p1 p2 W
      · exact l25i_bg id s h1 h2 p1 p2 W
      · exact l25i_bb id s h1 h2 p1 p2 W
end Go.Proofs.YtlodijncaojifaaDoor
