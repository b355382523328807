/- What earlier stages proved: Wa Wb Wc Wd. -/
import Derived.Test.YtkhicgafhbecfaaGreatDoorKa
namespace Go.Proofs.YtkhicgafhbecfaaGreatDoor
open Go.RowKit

def inW (w : Int) : Bool := decide (0 ≤ w) && decide (w ≤ 6)
theorem inW_iff {w : Int} : inW w = true ↔ 0 ≤ w ∧ w ≤ 6 := by simp [inW]
def inN (n : Int) : Bool := decide (-1099511627776 ≤ n) && decide (n ≤ 1099511627776)
theorem inN_iff {n : Int} : inN n = true ↔ -1099511627776 ≤ n ∧ n ≤ 1099511627776 := by simp [inN]
/-- The error of a day and a day of the week. -/
def wErr (n w : Int) : Int := if inW w = true then (if inN n = true then 0 else 1) else 3
theorem wErr_w {n w : Int} (h : inW w = false) : wErr n w = 3 := by simp [wErr, h]
theorem wErr_n {n w : Int} (h : inW w = true) (g : inN n = false) : wErr n w = 1 := by simp [wErr, h, g]
theorem wErr_0 {n w : Int} (h : inW w = true) (g : inN n = true) : wErr n w = 0 := by simp [wErr, h, g]

theorem isw_any (x : Int) (w : World) :
    Calls Tryz.prog 64 #[.int .i64 x] w fun e w' => e = .returned (.bool (inW x)) ∧ w = w' := by
  cases h0 : decide (0 ≤ x)
  all_goals
    go_enter Tryz.func64, Tryz.ntmps64
    go_wp2
    go_ret
    exact ⟨ret_bool (by simp [inW, h0]), rfl⟩
end Go.Proofs.YtkhicgafhbecfaaGreatDoor

namespace Go.Proofs.YtkhicgafhbecfaaGreatDoor
open Go.RowKit

def aft (n w : Int) : Int := n + (w - n % 7) % 7
def bef (n w : Int) : Int := n - (n % 7 - w) % 7
def wOk (n w : Int) : Bool := inW w && inN n
theorem wErr_ok {n w : Int} (h : wOk n w = true) : wErr n w = 0 := by
  simp only [wOk, Bool.and_eq_true] at h; exact wErr_0 h.1 h.2
theorem wErr_no {n w : Int} (h : wOk n w = false) : ¬ wErr n w = 0 := by
  unfold wOk at h; unfold wErr
  cases h1 : inW w <;> cases h2 : inN n <;> simp_all
theorem wOk_iff {n w : Int} : wOk n w = true ↔ (0 ≤ w ∧ w ≤ 6) ∧ (-1099511627776 ≤ n ∧ n ≤ 1099511627776) := by
  rw [wOk, Bool.and_eq_true, inW_iff, inN_iff]
theorem aft_bd {n w : Int} : n ≤ aft n w ∧ aft n w ≤ n + 6 := by unfold aft; omega
theorem bef_bd {n w : Int} : n - 6 ≤ bef n w ∧ bef n w ≤ n := by unfold bef; omega
theorem aft_mod {n w : Int} (h1 : 0 ≤ w) (h2 : w ≤ 6) : aft n w % 7 = w := by unfold aft; omega
theorem bef_mod {n w : Int} (h1 : 0 ≤ w) (h2 : w ≤ 6) : bef n w % 7 = w := by unfold bef; omega
theorem aft_first {n w k : Int} (h1 : n ≤ k) (h2 : k < aft n w) : ¬ k % 7 = w := by unfold aft at h2; omega
theorem bef_last {n w k : Int} (h1 : k ≤ n) (h2 : bef n w < k) : ¬ k % 7 = w := by unfold bef at h2; omega

end Go.Proofs.YtkhicgafhbecfaaGreatDoor

namespace Go.Proofs.YtkhicgafhbecfaaGreatDoor
open Go.RowKit

def cOk (c : Int) : Bool := !decide (c = 0) && (decide (-1000 ≤ c) && decide (c ≤ 1000))
theorem cOk_iff {c : Int} : cOk c = true ↔ ¬ c = 0 ∧ -1000 ≤ c ∧ c ≤ 1000 := by simp [cOk]
def nth (n w c : Int) : Int := if 0 < c then aft n w + 7 * (c - 1) else bef n w + 7 * (c + 1)
theorem nth_pos {n w c : Int} (h : 0 < c) : nth n w c = aft n w + 7 * (c - 1) := by unfold nth; rw [if_pos h]
theorem nth_neg {n w c : Int} (h : c < 0) : nth n w c = bef n w + 7 * (c + 1) := by unfold nth; rw [if_neg (by omega)]
def nOk (n w c : Int) : Bool := cOk c && wOk n w
def nErr (n w c : Int) : Int := if cOk c = true then wErr n w else 3
theorem nErr_c {n w c : Int} (h : cOk c = false) : nErr n w c = 3 := by simp [nErr, h]
theorem nErr_w {n w c : Int} (h : cOk c = true) : nErr n w c = wErr n w := by simp [nErr, h]
theorem nOk_c {n w c : Int} (h : cOk c = false) : nOk n w c = false := by simp [nOk, h]
theorem nOk_w {n w c : Int} (h : cOk c = true) : nOk n w c = wOk n w := by simp [nOk, h]

end Go.Proofs.YtkhicgafhbecfaaGreatDoor

namespace Go.Proofs.YtkhicgafhbecfaaGreatDoor
open Go.RowKit

def nms : Array Value := #[.string ⟨#[115, 117, 110, 100, 97, 121]⟩, .string ⟨#[109, 111, 110, 100, 97, 121]⟩, .string ⟨#[116, 117, 101, 115, 100, 97, 121]⟩, .string ⟨#[119, 101, 100, 110, 101, 115, 100, 97, 121]⟩, .string ⟨#[116, 104, 117, 114, 115, 100, 97, 121]⟩, .string ⟨#[102, 114, 105, 100, 97, 121]⟩, .string ⟨#[115, 97, 116, 117, 114, 100, 97, 121]⟩]
structure WTab (w : World) : Prop where
  row : ∃ t fr, w.heap[0]? = some (.cells nms t fr)
theorem WTab.heap {w : World} (h : WTab w) : 0 < w.heap.size := by
  obtain ⟨t, fr, hg⟩ := h.row
  rcases Nat.lt_or_ge 0 w.heap.size with g | g
  · exact g
  · rw [Array.getElem?_eq_none g] at hg; cases hg
theorem WTab.below {w w' : World} {n : Nat} (h : WTab w) (hb : Below n w w') (hm : 0 < n) : WTab w' :=
  ⟨by rw [hb.block _ hm]; exact h.row⟩
theorem WTab.on {w w' : World} (h : WTab w) (hb : Below w.heap.size w w') : WTab w' := h.below hb h.heap
theorem WTab.dn {w : World} (h : WTab w) (n : Nat) : WTab (w.drewN n) := h.on (below_dn (Below.refl w.heap.size w) n)
theorem WTab.al {w : World} (h : WTab w) (o : Obj) : WTab (w.alloc o) := h.on ((Below.refl w.heap.size w).alloc (Nat.le_refl _) o)
theorem WTab.cell {w : World} (h : WTab w) (i : Nat) : w.cell? ⟨0, i, none⟩ = nms[i]? := by
  obtain ⟨t, fr, hg⟩ := h.row
  exact cell_of_row w _ i nms t fr hg

def nm (w : Int) : ByteArray := if w = 0 then ⟨#[115, 117, 110, 100, 97, 121]⟩ else if w = 1 then ⟨#[109, 111, 110, 100, 97, 121]⟩ else if w = 2 then ⟨#[116, 117, 101, 115, 100, 97, 121]⟩ else if w = 3 then ⟨#[119, 101, 100, 110, 101, 115, 100, 97, 121]⟩ else if w = 4 then ⟨#[116, 104, 117, 114, 115, 100, 97, 121]⟩ else if w = 5 then ⟨#[102, 114, 105, 100, 97, 121]⟩ else if w = 6 then ⟨#[115, 97, 116, 117, 114, 100, 97, 121]⟩ else ⟨#[]⟩
theorem nm_out {w : Int} (h : ¬ (0 ≤ w ∧ w ≤ 6)) : nm w = ⟨#[]⟩ := by
  unfold nm
  rw [if_neg (by omega), if_neg (by omega), if_neg (by omega), if_neg (by omega), if_neg (by omega), if_neg (by omega), if_neg (by omega)]
theorem ret_str {a b : ByteArray} (h : a = b) : Ending.returned (.string a) = .returned (.string b) := by rw [h]

theorem name_any (x : Int) (w : World) (ht : WTab w) :
    Calls Tryz.prog 36 #[.int .i64 x] w fun e w' => e = .returned (.string (nm x)) ∧ w = w' := by
  have H := fun w => isw_any x w
  by_cases h : 0 ≤ x ∧ x ≤ 6
  · rw [inW_iff.2 h] at H
    have h' : x = 0 ∨ x = 1 ∨ x = 2 ∨ x = 3 ∨ x = 4 ∨ x = 5 ∨ x = 6 := by omega
    clear h
    rcases h' with rfl | rfl | rfl | rfl | rfl | rfl | rfl
    · have hc : w.cell? ⟨0, 0, none⟩ = some (.string ⟨#[115, 117, 110, 100, 97, 121]⟩) := ht.cell 0
      clear ht
      go_enter Tryz.func36, Tryz.ntmps36
      go_wp2_with (go_at_call 64; refine (H _).mono ?_; rintro e w' ⟨rfl, rfl⟩)
      go_ret
      exact ⟨rfl, rfl⟩
    · have hc : w.cell? ⟨0, 1, none⟩ = some (.string ⟨#[109, 111, 110, 100, 97, 121]⟩) := ht.cell 1
      clear ht
      go_enter Tryz.func36, Tryz.ntmps36
      go_wp2_with (go_at_call 64; refine (H _).mono ?_; rintro e w' ⟨rfl, rfl⟩)
      go_ret
      exact ⟨rfl, rfl⟩
    · have hc : w.cell? ⟨0, 2, none⟩ = some (.string ⟨#[116, 117, 101, 115, 100, 97, 121]⟩) := ht.cell 2
      clear ht
      go_enter Tryz.func36, Tryz.ntmps36
      go_wp2_with (go_at_call 64; refine (H _).mono ?_; rintro e w' ⟨rfl, rfl⟩)
      go_ret
      exact ⟨rfl, rfl⟩
    · have hc : w.cell? ⟨0, 3, none⟩ = some (.string ⟨#[119, 101, 100, 110, 101, 115, 100, 97, 121]⟩) := ht.cell 3
      clear ht
      go_enter Tryz.func36, Tryz.ntmps36
      go_wp2_with (go_at_call 64; refine (H _).mono ?_; rintro e w' ⟨rfl, rfl⟩)
      go_ret
      exact ⟨rfl, rfl⟩
    · have hc : w.cell? ⟨0, 4, none⟩ = some (.string ⟨#[116, 104, 117, 114, 115, 100, 97, 121]⟩) := ht.cell 4
      clear ht
      go_enter Tryz.func36, Tryz.ntmps36
      go_wp2_with (go_at_call 64; refine (H _).mono ?_; rintro e w' ⟨rfl, rfl⟩)
      go_ret
      exact ⟨rfl, rfl⟩
    · have hc : w.cell? ⟨0, 5, none⟩ = some (.string ⟨#[102, 114, 105, 100, 97, 121]⟩) := ht.cell 5
      clear ht
      go_enter Tryz.func36, Tryz.ntmps36
      go_wp2_with (go_at_call 64; refine (H _).mono ?_; rintro e w' ⟨rfl, rfl⟩)
      go_ret
      exact ⟨rfl, rfl⟩
    · have hc : w.cell? ⟨0, 6, none⟩ = some (.string ⟨#[115, 97, 116, 117, 114, 100, 97, 121]⟩) := ht.cell 6
      clear ht
      go_enter Tryz.func36, Tryz.ntmps36
      go_wp2_with (go_at_call 64; refine (H _).mono ?_; rintro e w' ⟨rfl, rfl⟩)
      go_ret
      exact ⟨rfl, rfl⟩
  · have e := Lib.hid (nm_out h)
    have hi : inW x = false := by
      cases g : inW x with
      | false => rfl
      | true => exact absurd (inW_iff.1 g) h
    rw [hi] at H
    clear ht h hi
    go_enter Tryz.func36, Tryz.ntmps36
    go_wp2_with (go_at_call 64; refine (H _).mono ?_; rintro e w' ⟨rfl, rfl⟩)
    go_ret
    exact ⟨ret_str e.out.symm, rfl⟩

theorem rname_any (x : Int) (w : World) :
    Calls Tryz.prog 40 #[.int .i64 x] w fun e w' => e = .returned (.string (nm x)) ∧ w = w' := by
  by_cases h : 0 ≤ x ∧ x ≤ 6
  · have h' : x = 0 ∨ x = 1 ∨ x = 2 ∨ x = 3 ∨ x = 4 ∨ x = 5 ∨ x = 6 := by omega
    clear h
    rcases h' with rfl | rfl | rfl | rfl | rfl | rfl | rfl
    all_goals
      go_enter Tryz.func40, Tryz.ntmps40
      go_wp2
      go_ret
      exact ⟨rfl, rfl⟩
  · have e := Lib.hid (nm_out h)
    have e0 : (x == 0) = false := by rw [beq_eq_false_iff_ne]; omega
    have e1 : (x == 1) = false := by rw [beq_eq_false_iff_ne]; omega
    have e2 : (x == 2) = false := by rw [beq_eq_false_iff_ne]; omega
    have e3 : (x == 3) = false := by rw [beq_eq_false_iff_ne]; omega
    have e4 : (x == 4) = false := by rw [beq_eq_false_iff_ne]; omega
    have e5 : (x == 5) = false := by rw [beq_eq_false_iff_ne]; omega
    have e6 : (x == 6) = false := by rw [beq_eq_false_iff_ne]; omega
    clear h
    go_enter Tryz.func40, Tryz.ntmps40
    go_wp2
    go_ret
    exact ⟨ret_str e.out.symm, rfl⟩
theorem wdn0 (w : World) : (Instr.index 95 (.agg nms) (.int .i64 0)).run Tryz.prog w = .ok (.string ⟨#[115, 117, 110, 100, 97, 121]⟩) w := by kernel_rfl
theorem wdn1 (w : World) : (Instr.index 95 (.agg nms) (.int .i64 1)).run Tryz.prog w = .ok (.string ⟨#[109, 111, 110, 100, 97, 121]⟩) w := by kernel_rfl
theorem wdn2 (w : World) : (Instr.index 95 (.agg nms) (.int .i64 2)).run Tryz.prog w = .ok (.string ⟨#[116, 117, 101, 115, 100, 97, 121]⟩) w := by kernel_rfl
theorem wdn3 (w : World) : (Instr.index 95 (.agg nms) (.int .i64 3)).run Tryz.prog w = .ok (.string ⟨#[119, 101, 100, 110, 101, 115, 100, 97, 121]⟩) w := by kernel_rfl
theorem wdn4 (w : World) : (Instr.index 95 (.agg nms) (.int .i64 4)).run Tryz.prog w = .ok (.string ⟨#[116, 104, 117, 114, 115, 100, 97, 121]⟩) w := by kernel_rfl
theorem wdn5 (w : World) : (Instr.index 95 (.agg nms) (.int .i64 5)).run Tryz.prog w = .ok (.string ⟨#[102, 114, 105, 100, 97, 121]⟩) w := by kernel_rfl
theorem wdn6 (w : World) : (Instr.index 95 (.agg nms) (.int .i64 6)).run Tryz.prog w = .ok (.string ⟨#[115, 97, 116, 117, 114, 100, 97, 121]⟩) w := by kernel_rfl

/-- The day of the week with a name, or -1; asked from the j-th name on. -/
def fnd7 (_ : ByteArray) : Int := -1
def fnd6 (s : ByteArray) : Int := if (s.toList == [115, 97, 116, 117, 114, 100, 97, 121]) = true then 6 else fnd7 s
def fnd5 (s : ByteArray) : Int := if (s.toList == [102, 114, 105, 100, 97, 121]) = true then 5 else fnd6 s
def fnd4 (s : ByteArray) : Int := if (s.toList == [116, 104, 117, 114, 115, 100, 97, 121]) = true then 4 else fnd5 s
def fnd3 (s : ByteArray) : Int := if (s.toList == [119, 101, 100, 110, 101, 115, 100, 97, 121]) = true then 3 else fnd4 s
def fnd2 (s : ByteArray) : Int := if (s.toList == [116, 117, 101, 115, 100, 97, 121]) = true then 2 else fnd3 s
def fnd1 (s : ByteArray) : Int := if (s.toList == [109, 111, 110, 100, 97, 121]) = true then 1 else fnd2 s
def fnd0 (s : ByteArray) : Int := if (s.toList == [115, 117, 110, 100, 97, 121]) = true then 0 else fnd1 s
theorem bytes_of {s : ByteArray} {l : List UInt8} (h : (s.toList == l) = true) : s = ⟨l.toArray⟩ := by
  have h := beq_iff_eq.1 h
  rw [ByteArray.toList_eq] at h
  obtain ⟨d⟩ := s
  rw [← h]
theorem bytes_ext {a b : ByteArray} (h : (a.toList == b.toList) = true) : a = b := by
  rw [bytes_of h, ByteArray.toList_eq]
theorem flip (a b : List UInt8) : (a == b) = (b == a) := by rw [Bool.eq_iff_iff, beq_iff_eq, beq_iff_eq]; exact eq_comm
theorem fy0 {s : ByteArray} (H : Hid (fnd0 s = fnd0 s)) (h : (s.toList == [115, 117, 110, 100, 97, 121]) = true) : 0 = fnd0 s := by rw [H.out, fnd0, if_pos h]
theorem fn0 {s : ByteArray} (H : Hid (fnd0 s = fnd0 s)) (h : (s.toList == [115, 117, 110, 100, 97, 121]) = false) : Hid (fnd0 s = fnd1 s) := by show fnd0 s = fnd1 s; rw [H.out, fnd0, if_neg (by rw [h]; exact Bool.false_ne_true)]
theorem fy1 {s : ByteArray} (H : Hid (fnd0 s = fnd1 s)) (h : (s.toList == [109, 111, 110, 100, 97, 121]) = true) : 1 = fnd0 s := by rw [H.out, fnd1, if_pos h]
theorem fn1 {s : ByteArray} (H : Hid (fnd0 s = fnd1 s)) (h : (s.toList == [109, 111, 110, 100, 97, 121]) = false) : Hid (fnd0 s = fnd2 s) := by show fnd0 s = fnd2 s; rw [H.out, fnd1, if_neg (by rw [h]; exact Bool.false_ne_true)]
theorem fy2 {s : ByteArray} (H : Hid (fnd0 s = fnd2 s)) (h : (s.toList == [116, 117, 101, 115, 100, 97, 121]) = true) : 2 = fnd0 s := by rw [H.out, fnd2, if_pos h]
theorem fn2 {s : ByteArray} (H : Hid (fnd0 s = fnd2 s)) (h : (s.toList == [116, 117, 101, 115, 100, 97, 121]) = false) : Hid (fnd0 s = fnd3 s) := by show fnd0 s = fnd3 s; rw [H.out, fnd2, if_neg (by rw [h]; exact Bool.false_ne_true)]
theorem fy3 {s : ByteArray} (H : Hid (fnd0 s = fnd3 s)) (h : (s.toList == [119, 101, 100, 110, 101, 115, 100, 97, 121]) = true) : 3 = fnd0 s := by rw [H.out, fnd3, if_pos h]
theorem fn3 {s : ByteArray} (H : Hid (fnd0 s = fnd3 s)) (h : (s.toList == [119, 101, 100, 110, 101, 115, 100, 97, 121]) = false) : Hid (fnd0 s = fnd4 s) := by show fnd0 s = fnd4 s; rw [H.out, fnd3, if_neg (by rw [h]; exact Bool.false_ne_true)]
theorem fy4 {s : ByteArray} (H : Hid (fnd0 s = fnd4 s)) (h : (s.toList == [116, 104, 117, 114, 115, 100, 97, 121]) = true) : 4 = fnd0 s := by rw [H.out, fnd4, if_pos h]
theorem fn4 {s : ByteArray} (H : Hid (fnd0 s = fnd4 s)) (h : (s.toList == [116, 104, 117, 114, 115, 100, 97, 121]) = false) : Hid (fnd0 s = fnd5 s) := by show fnd0 s = fnd5 s; rw [H.out, fnd4, if_neg (by rw [h]; exact Bool.false_ne_true)]
theorem fy5 {s : ByteArray} (H : Hid (fnd0 s = fnd5 s)) (h : (s.toList == [102, 114, 105, 100, 97, 121]) = true) : 5 = fnd0 s := by rw [H.out, fnd5, if_pos h]
theorem fn5 {s : ByteArray} (H : Hid (fnd0 s = fnd5 s)) (h : (s.toList == [102, 114, 105, 100, 97, 121]) = false) : Hid (fnd0 s = fnd6 s) := by show fnd0 s = fnd6 s; rw [H.out, fnd5, if_neg (by rw [h]; exact Bool.false_ne_true)]
theorem fy6 {s : ByteArray} (H : Hid (fnd0 s = fnd6 s)) (h : (s.toList == [115, 97, 116, 117, 114, 100, 97, 121]) = true) : 6 = fnd0 s := by rw [H.out, fnd6, if_pos h]
theorem fn6 {s : ByteArray} (H : Hid (fnd0 s = fnd6 s)) (h : (s.toList == [115, 97, 116, 117, 114, 100, 97, 121]) = false) : Hid (fnd0 s = fnd7 s) := by show fnd0 s = fnd7 s; rw [H.out, fnd6, if_neg (by rw [h]; exact Bool.false_ne_true)]

theorem fnd_facts (s : ByteArray) : fnd0 s = -1 ∨ (0 ≤ fnd0 s ∧ fnd0 s ≤ 6 ∧ nm (fnd0 s) = s) := by
  by_cases c0 : (s.toList == [115, 117, 110, 100, 97, 121]) = true
  · right; rw [fnd0, if_pos c0]; exact ⟨by omega, by omega, (bytes_of c0).symm⟩
  by_cases c1 : (s.toList == [109, 111, 110, 100, 97, 121]) = true
  · right; rw [fnd0, if_neg c0, fnd1, if_pos c1]; exact ⟨by omega, by omega, (bytes_of c1).symm⟩
  by_cases c2 : (s.toList == [116, 117, 101, 115, 100, 97, 121]) = true
  · right; rw [fnd0, if_neg c0, fnd1, if_neg c1, fnd2, if_pos c2]; exact ⟨by omega, by omega, (bytes_of c2).symm⟩
  by_cases c3 : (s.toList == [119, 101, 100, 110, 101, 115, 100, 97, 121]) = true
  · right; rw [fnd0, if_neg c0, fnd1, if_neg c1, fnd2, if_neg c2, fnd3, if_pos c3]; exact ⟨by omega, by omega, (bytes_of c3).symm⟩
  by_cases c4 : (s.toList == [116, 104, 117, 114, 115, 100, 97, 121]) = true
  · right; rw [fnd0, if_neg c0, fnd1, if_neg c1, fnd2, if_neg c2, fnd3, if_neg c3, fnd4, if_pos c4]; exact ⟨by omega, by omega, (bytes_of c4).symm⟩
  by_cases c5 : (s.toList == [102, 114, 105, 100, 97, 121]) = true
  · right; rw [fnd0, if_neg c0, fnd1, if_neg c1, fnd2, if_neg c2, fnd3, if_neg c3, fnd4, if_neg c4, fnd5, if_pos c5]; exact ⟨by omega, by omega, (bytes_of c5).symm⟩
  by_cases c6 : (s.toList == [115, 97, 116, 117, 114, 100, 97, 121]) = true
  · right; rw [fnd0, if_neg c0, fnd1, if_neg c1, fnd2, if_neg c2, fnd3, if_neg c3, fnd4, if_neg c4, fnd5, if_neg c5, fnd6, if_pos c6]; exact ⟨by omega, by omega, (bytes_of c6).symm⟩
  left; rw [fnd0, if_neg c0, fnd1, if_neg c1, fnd2, if_neg c2, fnd3, if_neg c3, fnd4, if_neg c4, fnd5, if_neg c5, fnd6, if_neg c6, fnd7]
theorem nm_facts (a : Int) (h1 : 0 ≤ a) (h2 : a ≤ 6) : (nm a).toList.isEmpty = false ∧ fnd0 (nm a) = a := by
  have h' : a = 0 ∨ a = 1 ∨ a = 2 ∨ a = 3 ∨ a = 4 ∨ a = 5 ∨ a = 6 := by omega
  rcases h' with rfl | rfl | rfl | rfl | rfl | rfl | rfl <;> exact ⟨by decide +kernel, by decide +kernel⟩
theorem nm_inj (a b : Int) (h1 : 0 ≤ a) (h2 : a ≤ 6) (h : ((nm a).toList == (nm b).toList) = true) : a = b := by
  have e : nm a = nm b := bytes_ext h
  by_cases hb : 0 ≤ b ∧ b ≤ 6
  · rw [← (nm_facts a h1 h2).2, ← (nm_facts b hb.1 hb.2).2, e]
  · have := (nm_facts a h1 h2).1
    rw [e, nm_out hb] at this
    exact absurd this (by decide +kernel)
end Go.Proofs.YtkhicgafhbecfaaGreatDoor
