/- The law Numbers of package linescan: the decimal text of a number; a number scanned off it. -/
import Derived.Test.YtlodijncaojifaaDoorNu
import Derived.Laws.IdiomStrings
namespace Go.Proofs.YtlodijncaojifaaDoor
open Go.RowKit

/-- The decimal text of a natural number. -/
structure DecOk (n : Nat) (D : ByteArray) : Prop where
  l1 : 1 ≤ D.size
  l2 : D.size ≤ 10
  dgt : ∀ j, j < D.size → dg D (0 + j) = true
  val : vl D 0 D.size = (n : Int)
  ld : D.size = 1 ∨ 49 ≤ bt D 0
  low : D.size = 1 ∨ pw (D.size - 1) ≤ (n : Int)
def dgS : ByteArray := ⟨#[48, 49, 50, 51, 52, 53, 54, 55, 56, 57]⟩
theorem dgS_all : ((List.range 10).all fun r => decide (bt dgS r = 48 + (r : Int))) = true := by kernel_rfl
theorem dgS_at {r : Nat} (h : r < 10) : bt dgS r = 48 + (r : Int) := of_decide_eq_true (List.all_eq_true.1 dgS_all r (List.mem_range.2 h))
theorem dg1 {r : Nat} (h : r < 10) : (dgS.extract r (r + 1)).size = 1 ∧ bt (dgS.extract r (r + 1)) 0 = 48 + (r : Int) := by
  have hs : dgS.size = 10 := rfl
  exact ⟨by rw [ext_size (by omega) (by omega)]; omega, by rw [bt_ext (by omega), Nat.add_zero]; exact dgS_at h⟩
theorem vl_pre {D E : ByteArray} {i : Nat} : ∀ {m : Nat}, (∀ j, j < m → bt D (i + j) = bt E (i + j)) → vl D i m = vl E i m := by
  intro m
  induction m with
  | zero => intro _; rfl
  | succ m ih => intro h; rw [vl_succ, vl_succ, ih (fun j hj => h j (by omega)), h m (by omega)]
theorem dec_one {n : Nat} (h : n < 10) : DecOk n (dgS.extract n (n + 1)) := by
  obtain ⟨a, b⟩ := dg1 h
  have d0 : dg (dgS.extract n (n + 1)) 0 = true := dg_iff.2 ⟨by omega, by rw [b]; omega, by rw [b]; omega⟩
  refine ⟨by omega, by omega, fun j hj => by rw [show 0 + j = 0 by omega]; exact d0, ?_, .inl a, .inl a⟩
  rw [a]
  show 10 * 0 + (bt (dgS.extract n (n + 1)) (0 + 0) - 48) = _
  rw [b]; omega
theorem dec_more {n : Nat} {D : ByteArray} (hn : 10 ≤ n) (h9 : n < 10000000000) (h : DecOk (n / 10) D) : DecOk n (D ++ dgS.extract (n % 10) (n % 10 + 1)) := by
  obtain ⟨a, b⟩ := dg1 (show n % 10 < 10 by omega)
  have hs : (D ++ dgS.extract (n % 10) (n % 10 + 1)).size = D.size + 1 := by rw [ByteArray.size_append, a]
  have old : ∀ j, j < D.size → bt (D ++ dgS.extract (n % 10) (n % 10 + 1)) j = bt D j := fun j hj => by rw [bt_app, if_pos hj]
  have new : bt (D ++ dgS.extract (n % 10) (n % 10 + 1)) D.size = 48 + ((n % 10 : Nat) : Int) := by rw [bt_app, if_neg (by omega), Nat.sub_self, b]
  have hl := h.l1
  have low' : pw D.size ≤ (n : Int) := by
    rcases h.low with e | e
    · rw [e]; show 10 * 1 ≤ (n : Int); omega
    · have : pw D.size = 10 * pw (D.size - 1) := by
        have e2 : D.size = D.size - 1 + 1 := by omega
        rw [e2]; rfl
      omega
  have l2' : D.size + 1 ≤ 10 := by
    refine Classical.byContradiction fun c => ?_
    have h1 := pw_mono (show 10 ≤ D.size by omega)
    have h2 : pw 10 = 10000000000 := rfl
    omega
  refine ⟨by omega, by omega, fun j hj => ?_, ?_, .inr ?_, .inr ?_⟩
  · rw [hs] at hj
    rw [Nat.zero_add]
    by_cases q : j < D.size
    · have := dg_iff.1 (h.dgt j q)
      rw [Nat.zero_add] at this
      exact dg_iff.2 ⟨by omega, by rw [old j q]; exact this.2.1, by rw [old j q]; exact this.2.2⟩
    · rw [show j = D.size by omega]
      exact dg_iff.2 ⟨by omega, by rw [new]; omega, by rw [new]; omega⟩
  · rw [hs, vl_succ, Nat.zero_add, new, vl_pre (E := D) (fun j hj => by rw [Nat.zero_add]; exact old j hj), h.val]
    omega
  · rw [old 0 (by omega)]
    rcases h.ld with e | e
    · have hv := h.val
      rw [e] at hv
      have : vl D 0 1 = 10 * 0 + (bt D (0 + 0) - 48) := rfl
      rw [this, Nat.add_zero] at hv
      omega
    · exact e
  · rw [hs, Nat.add_sub_cancel]; exact low'
theorem strU (a b : ByteArray) (h : a.size + b.size ≤ 100) (u : World) : (Op.stringOp .add a b).run Tryd.prog u = .ok (.string (a ++ b)) u := by
  rw [run_string_add_if, if_neg (by omega)]
set_option maxHeartbeats 1000000 in
set_option maxRecDepth 100000 in
theorem dec_pos : ∀ (n : Nat), n < 10000000000 → ∀ w : World, Calls Tryd.prog 21 #[.int .i64 n] w fun e w' => ∃ D, e = .returned (.string D) ∧ DecOk n D ∧ w = w' := by
  intro n
  induction n using Nat.strongRecOn with
  | ind n ih =>
    intro hn w
    have q0 : decide ((n : Int) < 0) = false := dfalse (by omega)
    have q1 : ¬ (n : Int) < 0 := by omega
    have r0 : (n : Int).tmod 10 = ((n % 10 : Nat) : Int) := by rw [Int.tmod_eq_emod_of_nonneg (by omega)]; omega
    have d0 : (n : Int).tdiv 10 = ((n / 10 : Nat) : Int) := by rw [Int.tdiv_eq_ediv_of_nonneg (by omega)]; omega
    have hsl := fun u => ext_run dgS (n % 10) (n % 10 + 1) (by omega) (by show n % 10 + 1 ≤ 10; omega) u
    rw [show ((n % 10 + 1 : Nat) : Int) = ((n % 10 : Nat) : Int) + 1 by omega] at hsl
    unfold dgS at hsl
    have rb : (n % 10 : Nat) < 10 := by omega
    by_cases hlt : n < 10
    · have e1 : n % 10 = n := by omega
      have dd1 := Lib.hid (dec_one hlt)
      unfold dgS at dd1
      rw [e1] at r0 hsl
      have p0 : decide ((n : Int) < 10) = true := dtrue (by omega)
      have p1 : decide (n < 10) = true := dtrue hlt
      have p2 : (n : Int) < 10 := by omega
      clear d0 ih e1
      generalize (ByteArray.mk #[48, 49, 50, 51, 52, 53, 54, 55, 56, 57]).extract n (n + 1) = E at hsl dd1
      go_enter Tryd.func21, Tryd.ntmps21
      go_wp2_with fail
      go_ret
      exact ⟨_, rfl, dd1.out, rfl⟩
    · have p0 : decide ((n : Int) < 10) = false := dfalse (by omega)
      have p1 : decide (n < 10) = false := dfalse hlt
      have p2 : ¬ (n : Int) < 10 := by omega
      have IH := Lib.hid (fun u => ih (n / 10) (by omega) (by omega) u)
      have DM := Lib.hid (fun (D : ByteArray) (h : DecOk (n / 10) D) => dec_more (by omega) hn h)
      have SZ := Lib.hid (dg1 rb).1
      unfold dgS at DM SZ
      clear ih
      generalize ha : n % 10 = a at *
      generalize hb : n / 10 = b at *
      have HA := Lib.hid ha
      have HB := Lib.hid hb
      have b9 : b < 1000000000 := by omega
      have wb : wrap64 (b : Int) = (b : Int) := by unfold wrap64; omega
      clear ha hb
      generalize (ByteArray.mk #[48, 49, 50, 51, 52, 53, 54, 55, 56, 57]).extract a (a + 1) = E at hsl DM SZ
      go_enter Tryd.func21, Tryd.ntmps21
      go_wp2_with fail
      refine (IH.out _).mono ?_
      rintro e w1 ⟨D, rfl, hD, rfl⟩
      have hadd := strU D E (by have := hD.l2; have := SZ.out; omega)
      have DD := Lib.hid (DM.out D hD)
      clear hD
      go_wp2_with fail
      go_ret
      exact ⟨_, rfl, DD.out, rfl⟩
set_option maxRecDepth 100000 in
theorem dec_neg (n : Nat) (h1 : 1 ≤ n) (hn : n < 10000000000) (w : World) : Calls Tryd.prog 21 #[.int .i64 (-(n : Int))] w fun e w' => ∃ D, e = .returned (.string (⟨#[45]⟩ ++ D)) ∧ DecOk n D ∧ w = w' := by
  have q0 : decide (-(n : Int) < 0) = true := dtrue (by omega)
  have q1 : -(n : Int) < 0 := by omega
  have IH := Lib.hid (fun u => dec_pos n hn u)
  have wn : IntKind.i64.wrap (n : Int) = (n : Int) := by rw [IntKind.wrap_i64]; omega
  have nn : - -(n : Int) = (n : Int) := by omega
  go_enter Tryd.func21, Tryd.ntmps21
  go_wp2_with fail
  refine (IH.out _).mono ?_
  rintro e w1 ⟨D, rfl, hD, rfl⟩
  have hadd := strU ⟨#[45]⟩ D (by have := hD.l2; show 1 + D.size ≤ 100; omega)
  have DD := Lib.hid hD
  clear hD
  go_wp2_with fail
  go_ret
  exact ⟨_, rfl, DD.out, rfl⟩
end Go.Proofs.YtlodijncaojifaaDoor
