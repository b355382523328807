/- What earlier stages proved: Ny Nz. -/
import Derived.Test.YtkhicgafhbecfaaGreatDoorM5
import Derived.Test.YtkhicgafhbecfaaGreatDoorKz
namespace Go.Proofs.YtkhicgafhbecfaaGreatDoor
open Go.RowKit

theorem ext_all (s : ByteArray) : s.extract 0 s.size = s := by
  have : (s.extract 0 s.size).data = s.data := by
    rw [← Array.toList_inj, Lib.extract_data, List.drop_zero, List.take_of_length_le (by simp)]
  exact congrArg ByteArray.mk this
theorem ext_app (s t : ByteArray) : (s ++ t).extract 0 s.size = s := by
  have : ((s ++ t).extract 0 s.size).data = s.data := by
    rw [← Array.toList_inj, Lib.extract_data, List.drop_zero, ByteArray.data_append, Array.toList_append, List.take_append_of_le_length (by simp), List.take_of_length_le (by simp)]
  exact congrArg ByteArray.mk this
theorem tl_eq {a b : ByteArray} : (a.toList == b.toList) = decide (a = b) := by
  by_cases h : a = b
  · subst h; simp
  · rw [decide_eq_false h, beq_eq_false_iff_ne]
    intro e
    rw [ByteArray.toList_eq, ByteArray.toList_eq] at e
    obtain ⟨da⟩ := a
    obtain ⟨db⟩ := b
    exact h (congrArg ByteArray.mk (Array.toList_inj.1 e))
/-- An identifier and a space: it is accepted as a whole exactly if it is one. -/
theorem id_space (t : ByteArray) : idn t = (!idB (t ++ ⟨#[32]⟩) 0 && decide (idV (t ++ ⟨#[32]⟩) 0 = t)) := by
  have ts : (t ++ (⟨#[32]⟩ : ByteArray)).size = t.size + 1 := by rw [ByteArray.size_append]; rfl
  have old : ∀ j, j < t.size → bt (t ++ ⟨#[32]⟩) (0 + j) = bt t j := fun j hj => by rw [Nat.zero_add, bt_app, if_pos hj]
  have last : bt (t ++ ⟨#[32]⟩) (0 + t.size) = 32 := by rw [Nat.zero_add, bt_app, if_neg (by omega), Nat.sub_self]; rfl
  have bf : ∀ j, j ≤ t.size → bfo (t ++ ⟨#[32]⟩) 0 j = bfr t j := fun j hj => by
    unfold bfo bfr
    by_cases q : j = 0
    · rw [if_pos q, if_pos q]
    · rw [if_neg q, if_neg q, show 0 + j - 1 = 0 + (j - 1) by omega, old (j - 1) (by omega)]
  cases h : idn t
  · cases hb : idB (t ++ ⟨#[32]⟩) 0
    · have hf := idn_fin (S := t ++ ⟨#[32]⟩) (k := 0) (Nat.zero_le _)
      rw [hb] at hf
      have hv := idB_no hb
      by_cases e : idV (t ++ ⟨#[32]⟩) 0 = t
      · rw [← hv, e, h] at hf; cases hf
      · rw [decide_eq_false e]; rfl
    · rfl
  · obtain ⟨h1, h2, h3⟩ := idn_pc.1 h
    have hp : ∀ j, j < t.size → idP (t ++ ⟨#[32]⟩) 0 j := fun j hj => by
      refine ⟨by omega, by omega, ?_⟩
      rw [old j hj, bf j (by omega)]
      rcases h2 j hj with g | g | ⟨g, g2⟩
      · exact .inl g
      · exact .inr (.inl g)
      · refine .inr (.inr ⟨g, g2, fun e => ?_⟩)
        have e2 : t.size = j + 1 := by omega
        rw [e2, bfr_succ] at h3
        exact h3 g
    have hn : ¬ idP (t ++ ⟨#[32]⟩) 0 t.size := fun c => by
      obtain ⟨_, _, c3⟩ := c
      rw [last] at c3
      omega
    obtain ⟨e1, e2, e3⟩ := id_end hp hn (by rw [bf _ (Nat.le_refl _)]; exact h3)
    rw [e2, e3, Nat.zero_add, ext_app]
    simp
theorem id_out (S : ByteArray) (hb : idB S 0 = false) : idn (idV S 0) = true ∧ (idV S 0).size = idL S 0 ∧ idL S 0 ≤ S.size ∧ S.extract 0 (idL S 0) = idV S 0 := by
  have hf := idn_fin (S := S) (k := 0) (Nat.zero_le _)
  rw [hb] at hf
  have hv := idB_no hb
  have hl := (idL_le S 0 (Nat.zero_le _)).2
  rw [← hv] at hf
  refine ⟨hf, by rw [hv, ext_size (by omega) hl]; omega, by omega, by rw [hv, Nat.zero_add]⟩
/-- Identifier, whether it fails or not. -/
theorem id_new {S : ByteArray} {b : Nat} {w : World} (h : w.heap[b]? = some (scO S 0 false)) (hs : S.size < big) :
    Calls Tryz.prog 109 #[xp b] w fun e w' => e = .returned (.string (idV S 0)) ∧ w'.heap[b]? = some (scO S (idL S 0) (idB S 0)) ∧ Bt b w w' := by
  have e0 : 0 + idL S 0 = idL S 0 := Nat.zero_add _
  cases hb : idB S 0
  · have := id_ok h (Nat.zero_le _) hs hb
    rw [← idB_no hb, e0] at this
    exact this
  · have := id_no h (Nat.zero_le _) hs hb
    rw [← idB_yes hb, e0] at this
    exact this
theorem strV (a b : ByteArray) (h : a.size + b.size ≤ 1000) (u : World) : (Op.stringOp .add a b).run Tryz.prog u = .ok (.string (a ++ b)) u := by
  rw [run_string_add_if, if_neg (by omega)]
theorem err_new {S : ByteArray} {b k : Nat} {bad : Bool} {w : World} (h : w.heap[b]? = some (scO S k bad)) :
    Calls Tryz.prog 21 #[xp b] w fun e w' => e = .returned (.int .i64 (if bad then 6 else 0)) ∧ Below w.heap.size w w' := by
  cases bad
  · exact err_ok h
  · exact err_bad h
end Go.Proofs.YtkhicgafhbecfaaGreatDoor

namespace Go.Proofs.YtkhicgafhbecfaaGreatDoor
open Go.RowKit

/-- Word on a good scanner, whether it fails or not. -/
theorem wo_new {S : ByteArray} {b k g cap : Nat} {ws : List ByteArray} {w : World} (h : w.heap[b]? = some (scO S k false)) (hk : k ≤ S.size) (hs : S.size < big) (hW : StrsIn g cap ws w) (hgb : g ≠ b) (hw : Wds ws) :
    Calls Tryz.prog 43 #[xp b, .slice (some ⟨g, 0, none⟩) ws.length cap] w fun e w' => e = .returned (.int .i64 (wdI S k ws)) ∧ w'.heap[b]? = some (scO S (wdK S k ws) (wdB S k ws)) ∧ Bt b w w' := by
  cases hf : wdF S k ws with
  | some i =>
    rw [(wd_of_some hf).1, (wd_of_some hf).2.2]
    exact wo_ok h hk hs hW hgb hw.ok hw.l1 hw.l2 hw.lg hf
  | none =>
    rw [(wd_of_none hf).1, (wd_of_none hf).2.2]
    exact wo_no h hk hs hW hgb hw.ok hw.l1 hw.l2 hw.lg hf
end Go.Proofs.YtkhicgafhbecfaaGreatDoor
