/- The examples of package linescan's chapter. -/
import Derived.Test.YtlodijncaojifaaDoorNt
namespace Go.Proofs.YtlodijncaojifaaDoor
open Go.RowKit

/-- Two scanners in memory. -/
structure Aw (W : World) (b1 b2 : Nat) (S1 : ByteArray) (k1 : Nat) (f1 : Bool) (S2 : ByteArray) (k2 : Nat) (f2 : Bool) (u : World) : Prop where
  r1 : u.heap[b1]? = some (scO S1 k1 f1)
  r2 : u.heap[b2]? = some (scO S2 k2 f2)
  bl : Below W.heap.size W u
theorem Aw.on {W : World} {b1 b2 k1 k2 : Nat} {S1 S2 : ByteArray} {f1 f2 : Bool} {u u' : World} (h : Aw W b1 b2 S1 k1 f1 S2 k2 f2 u) (hb : Below u.heap.size u u') : Aw W b1 b2 S1 k1 f1 S2 k2 f2 u' :=
  ⟨row_kept h.r1 hb, row_kept h.r2 hb, below_on h.bl hb⟩
theorem Bt.bel {W u u' : World} {b : Nat} (h : Below W.heap.size W u) (hb : Bt b u u') (hn : W.heap.size ≤ b) : Below W.heap.size W u' := h.trans (hb.below hn h.size)
theorem Aw.one {W : World} {b1 b2 k1 k2 k1' : Nat} {S1 S2 : ByteArray} {f1 f2 f1' : Bool} {u u' : World} (h : Aw W b1 b2 S1 k1 f1 S2 k2 f2 u) (hr : u'.heap[b1]? = some (scO S1 k1' f1')) (hb : Bt b1 u u') (h1 : W.heap.size ≤ b1) (h2 : b1 < b2) : Aw W b1 b2 S1 k1' f1' S2 k2 f2 u' :=
  ⟨hr, hb.row (by omega) h.r2, hb.bel h.bl h1⟩
theorem Aw.two {W : World} {b1 b2 k1 k2 k2' : Nat} {S1 S2 : ByteArray} {f1 f2 f2' : Bool} {u u' : World} (h : Aw W b1 b2 S1 k1 f1 S2 k2 f2 u) (hr : u'.heap[b2]? = some (scO S2 k2' f2')) (hb : Bt b2 u u') (h1 : W.heap.size ≤ b1) (h2 : b1 < b2) : Aw W b1 b2 S1 k1 f1 S2 k2' f2' u' :=
  ⟨hb.row (by omega) h.r1, hr, hb.bel h.bl (by omega)⟩
def aS1 : ByteArray := ⟨#[102, 105, 120, 101, 100, 32, 49, 50]⟩
def aS2 : ByteArray := ⟨#[102, 101, 120]⟩
def aWs : List ByteArray := [⟨#[102, 101, 97, 115, 116]⟩, ⟨#[102, 105, 120, 101, 100]⟩]
theorem aWds : Wds aWs := wds_of (by kernel_rfl) (by kernel_rfl) (by kernel_rfl) (by kernel_rfl)
theorem aF1 : wdF aS1 0 aWs = some 1 ∧ wdK aS1 0 aWs = 5 ∧ wdF aS1 5 wl0 = some 0 ∧ wdK aS1 5 wl0 = 6 ∧ nuB aS1 6 = false ∧ nuK aS1 6 = 8 ∧ nuV aS1 6 = 12 ∧ wdF aS2 0 aWs = none ∧ wdK aS2 0 aWs = 2 :=
  ⟨by kernel_rfl, by kernel_rfl, by kernel_rfl, by kernel_rfl, by kernel_rfl, by kernel_rfl, by kernel_rfl, by kernel_rfl, by kernel_rfl⟩
set_option maxHeartbeats 2000000 in
set_option maxRecDepth 100000 in
theorem c25awake_any (w : World) : Calls Tryd.prog 7 #[] w fun e w' => e = .returned (.bool true) ∧ Below w.heap.size w w' := by
  obtain ⟨p1, p2, p3, p4, p5, p6, p7, p8, p9⟩ := aF1
  have H1 := Lib.hid (fun (u : World) (b : Nat) (h : u.heap[b]? = some (scO aS1 0 false)) (hb : b < u.heap.size) => wo_ok (row_kept h (al1 u (.cells #[.string ⟨#[102, 101, 97, 115, 116]⟩, .string ⟨#[102, 105, 120, 101, 100]⟩] 9))) (by decide) (by decide) (lit2 (w := u) ⟨#[102, 101, 97, 115, 116]⟩ ⟨#[102, 105, 120, 101, 100]⟩ 9) (by omega) aWds.ok aWds.l1 aWds.l2 aWds.lg p1)
  have H2 := Lib.hid (fun (u : World) (b : Nat) (h : u.heap[b]? = some (scO aS1 5 false)) (hb : b < u.heap.size) => wo_ok (row_kept h (al1 u (.cells #[.string ⟨#[32]⟩] 9))) (by decide) (by decide) (lit1 (w := u) ⟨#[32]⟩ 9) (by omega) wds0.ok wds0.l1 wds0.l2 wds0.lg p3)
  have H3 := Lib.hid (fun (u : World) (b : Nat) (h : u.heap[b]? = some (scO aS1 6 false)) => nu_ok h (by decide) (by decide) p5)
  have H4 := Lib.hid (fun (u : World) (b : Nat) (h : u.heap[b]? = some (scO aS1 8 false)) => end_ok h (by decide))
  have H5 := Lib.hid (fun (u : World) (b : Nat) (h : u.heap[b]? = some (scO aS2 0 false)) (hb : b < u.heap.size) => wo_no (row_kept h (al1 u (.cells #[.string ⟨#[102, 101, 97, 115, 116]⟩, .string ⟨#[102, 105, 120, 101, 100]⟩] 9))) (by decide) (by decide) (lit2 (w := u) ⟨#[102, 101, 97, 115, 116]⟩ ⟨#[102, 105, 120, 101, 100]⟩ 9) (by omega) aWds.ok aWds.l1 aWds.l2 aWds.lg p8)
  have E1 := Lib.hid (show wdK aS1 0 [⟨#[102, 101, 97, 115, 116]⟩, ⟨#[102, 105, 120, 101, 100]⟩] = 5 from p2)
  have E2 := Lib.hid (show wdK aS1 5 [⟨#[32]⟩] = 6 from p4)
  have E3 := Lib.hid p6
  have E4 := Lib.hid p7
  have E5 := Lib.hid (show wdK aS2 0 [⟨#[102, 101, 97, 115, 116]⟩, ⟨#[102, 105, 120, 101, 100]⟩] = 2 from p9)
  clear p1 p2 p3 p4 p5 p6 p7 p8 p9
  go_enter Tryd.func7, Tryd.ntmps7
  go_wp2_with fail
  refine (new25_any _ _).mono ?_
  rintro e w1 ⟨rfl, q1, g1⟩
  go_wp2_with fail
  refine (new25_any _ _).mono ?_
  rintro e w2 ⟨rfl, q2, g2⟩
  have A0 : Aw w w.heap.size w1.heap.size aS1 0 false aS2 0 false w2 := ⟨row_kept q1 g2, q2, below_on g1 g2⟩
  have l1 : w.heap.size < w1.heap.size := row_lt q1
  generalize w1.heap.size = b2 at *
  clear q1 q2 g1 g2
  go_wp2_with fail
  refine (H1.out w2 w.heap.size A0.r1 (row_lt A0.r1)).mono ?_
  rintro e w3 ⟨rfl, r, hb⟩
  rw [E1.out] at r
  have A1 := (A0.on (al1 w2 _)).one r hb (Nat.le_refl _) l1
  clear A0 r hb
  go_wp2_with fail
  refine (H2.out w3 w.heap.size A1.r1 (row_lt A1.r1)).mono ?_
  rintro e w4 ⟨rfl, r, hb⟩
  rw [E2.out] at r
  have A2 := (A1.on (al1 w3 _)).one r hb (Nat.le_refl _) l1
  clear A1 r hb
  go_wp2_with fail
  refine (H3.out w4 w.heap.size A2.r1).mono ?_
  rintro e w5 ⟨rfl, r, hb⟩
  rw [E3.out] at r
  rw [E4.out]
  have A3 := A2.one r hb (Nat.le_refl _) l1
  clear A2 r hb
  go_wp2_with fail
  refine (H4.out w5 w.heap.size A3.r1).mono ?_
  rintro e w6 ⟨rfl, hb⟩
  have A4 := A3.on hb
  clear A3 hb
  go_wp2_with fail
  refine (H5.out w6 b2 A4.r2 (row_lt A4.r2)).mono ?_
  rintro e w7 ⟨rfl, r, hb⟩
  rw [E5.out] at r
  have A5 := (A4.on (al1 w6 _)).two r hb (Nat.le_refl _) l1
  clear A4 r hb
  go_wp2_with fail
  refine (err_ok A5.r1).mono ?_
  rintro e w8 ⟨rfl, hb⟩
  have A6 := A5.on hb
  clear A5 hb
  go_wp2_with fail
  refine (off_any A6.r1).mono ?_
  rintro e w9 ⟨rfl, hb⟩
  have A7 := A6.on hb
  clear A6 hb
  go_wp2_with fail
  refine (err_bad A7.r2).mono ?_
  rintro e w10 ⟨rfl, hb⟩
  have A8 := A7.on hb
  clear A7 hb
  go_wp2_with fail
  refine (off_any A8.r2).mono ?_
  rintro e w11 ⟨rfl, hb⟩
  have A9 := A8.on hb
  clear A8 hb
  go_wp2_with fail
  refine (err_nil _).mono ?_
  rintro e w12 ⟨rfl, hb⟩
  have A10 := A9.on hb
  clear A9 hb
  go_wp2_with fail
  refine (wo_nil _ _).mono ?_
  rintro e w13 ⟨rfl, hb⟩
  have A11 := (A10.on (al1 w12 _)).on hb
  clear A10 hb
  go_wp2_with fail
  go_ret
  exact ⟨rfl, A11.bl⟩
end Go.Proofs.YtlodijncaojifaaDoor
