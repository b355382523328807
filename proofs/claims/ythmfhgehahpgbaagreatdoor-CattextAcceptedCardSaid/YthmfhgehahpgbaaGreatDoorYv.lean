/- The laws' examples (awake). -/
import Derived.Test.YthmfhgehahpgbaaGreatDoorYu
namespace Go.Proofs.YthmfhgehahpgbaaGreatDoor
open Go.RowKit

def bS1 : ByteArray := ⟨#[99, 97, 116, 97, 108, 111, 103, 117, 101, 10, 102, 114, 101, 101, 32, 55, 10, 115, 101, 97, 115, 111, 110, 32, 115, 32, 49, 32, 50, 32, 110, 116, 104, 32, 109, 111, 110, 100, 97, 121, 32, 45, 49, 32, 53, 32, 51, 49, 10, 102, 101, 97, 115, 116, 32, 102, 32, 51, 32, 111, 109, 105, 116, 32, 101, 97, 115, 116, 101, 114, 32, 52, 57, 10, 101, 110, 100, 10]⟩
def bS2 : ByteArray := ⟨#[99, 97, 116, 97, 108, 111, 103, 117, 101, 10, 102, 114, 101, 101, 32, 48, 48, 10, 101, 110, 100, 10]⟩
def bS3 : ByteArray := ⟨#[99, 97, 116, 97, 108, 111, 103, 117, 101, 10, 102, 114, 101, 101, 32, 48, 10, 101, 110, 100]⟩
def aSea : Itm := ⟨⟨#[115]⟩, 1, 2, 3, 5, 31, 0, 1, -1⟩
def aFea : Itm := ⟨⟨#[102]⟩, 3, 3, 2, 0, 0, 49, 0, 0⟩
theorem aE1 : (pEnd 100 bS1).b = false := by kernel_rfl
theorem aC1 : (pBody 100 bS1 ⟨0, false⟩).1 = ⟨7, [aSea], [aFea]⟩ := by kernel_rfl
theorem aE2 : (pEnd 100 bS2) = ⟨16, true⟩ := by kernel_rfl
theorem aE3 : (pEnd 100 bS3) = ⟨20, true⟩ := by kernel_rfl
theorem aP : txC ⟨0, [], []⟩ = ⟨#[99, 97, 116, 97, 108, 111, 103, 117, 101, 10, 102, 114, 101, 101, 32, 48, 10, 101, 110, 100, 10]⟩ := by kernel_rfl
theorem a_par1 (w : World) (hT : WTab w) : Calls Tryz.prog 9 #[.string ⟨#[99, 97, 116, 97, 108, 111, 103, 117, 101, 10, 102, 114, 101, 101, 32, 55, 10, 115, 101, 97, 115, 111, 110, 32, 115, 32, 49, 32, 50, 32, 110, 116, 104, 32, 109, 111, 110, 100, 97, 121, 32, 45, 49, 32, 53, 32, 51, 49, 10, 102, 101, 97, 115, 116, 32, 102, 32, 51, 32, 111, 109, 105, 116, 32, 101, 97, 115, 116, 101, 114, 32, 52, 57, 10, 101, 110, 100, 10]⟩] w fun e w' => ∃ vS vF, e = .returned (.tuple #[.agg #[.int .i64 7, vS, vF], .int .i64 0, .int .i64 0]) ∧ SlAt w' vS [aSea] ∧ SlAt w' vF [aFea] ∧ Below w.heap.size w w' := by
  have h := p26par_yes (S := bS1) (N := 100) (w := w) (by decide) (by decide) (by decide) hT aE1
  rw [aC1] at h
  exact h
theorem a_par2 (w : World) (hT : WTab w) : Calls Tryz.prog 9 #[.string ⟨#[99, 97, 116, 97, 108, 111, 103, 117, 101, 10, 102, 114, 101, 101, 32, 48, 48, 10, 101, 110, 100, 10]⟩] w fun e w' => e = .returned (.tuple #[.agg #[.int .i64 0, .slice none 0 0, .slice none 0 0], .int .i64 16, .int .i64 6]) ∧ Below w.heap.size w w' := by
  have h := p26par_no (S := bS2) (N := 100) (w := w) (by decide) (by decide) (by decide) hT (by rw [aE2])
  rw [aE2] at h
  exact h
theorem a_par3 (w : World) (hT : WTab w) : Calls Tryz.prog 9 #[.string ⟨#[99, 97, 116, 97, 108, 111, 103, 117, 101, 10, 102, 114, 101, 101, 32, 48, 10, 101, 110, 100]⟩] w fun e w' => e = .returned (.tuple #[.agg #[.int .i64 0, .slice none 0 0, .slice none 0 0], .int .i64 20, .int .i64 6]) ∧ Below w.heap.size w w' := by
  have h := p26par_no (S := bS3) (N := 100) (w := w) (by decide) (by decide) (by decide) hT (by rw [aE3])
  rw [aE3] at h
  exact h
theorem slat_nil (w : World) : SlAt w (.slice none 0 0) [] := ⟨none, 0, rfl, Nat.le_refl _, by unfold maxLen; omega, fun i t h => by simp at h⟩
theorem a_pri (w : World) (hT : T26 w) : Calls Tryz.prog 14 #[.agg #[.int .i64 0, .slice none 0 0, .slice none 0 0]] w fun e w' => e = .returned (.string ⟨#[99, 97, 116, 97, 108, 111, 103, 117, 101, 10, 102, 114, 101, 101, 32, 48, 10, 101, 110, 100, 10]⟩) ∧ Below w.heap.size w w' := by
  have h := p26pri (c := ⟨0, [], []⟩) hT (slat_nil w) (slat_nil w) (by decide) (by simp) (by simp) (by simp) (by simp)
  rw [aP] at h
  exact h
structure Aw26 (w0 : World) (B : Nat) (vS vF : Value) (u : World) : Prop where
  row : u.heap[B]? = some (.cells #[.int .i64 7, vS, vF] 26 (0, 0))
  s : SlAt u vS [aSea]
  f : SlAt u vF [aFea]
  bl : Below w0.heap.size w0 u
theorem Aw26.on {w0 : World} {B : Nat} {vS vF : Value} {u u' : World} (h : Aw26 w0 B vS vF u) (hb : Below u.heap.size u u') : Aw26 w0 B vS vF u' := ⟨row_kept h.row hb, h.s.on hb, h.f.on hb, below_on h.bl hb⟩
theorem Aw26.facts {w0 : World} {B : Nat} {vS vF : Value} {u : World} (h : Aw26 w0 B vS vF u) : ∃ b1 o1 c1 b2 o2 c2, vS = .slice (some ⟨b1, o1, none⟩) 1 c1 ∧ vF = .slice (some ⟨b2, o2, none⟩) 1 c2 ∧ ItmAt u b1 o1 aSea ∧ ItmAt u b2 o2 aFea ∧ 1 ≤ c1 ∧ 1 ≤ c2 := by
  obtain ⟨A1, c1, h1, h1c, _, h1i⟩ := h.s
  obtain ⟨A2, c2, h2, h2c, _, h2i⟩ := h.f
  obtain ⟨b1, o1, e1, _, i1⟩ := h1i 0 aSea rfl
  obtain ⟨b2, o2, e2, _, i2⟩ := h2i 0 aFea rfl
  subst e1 e2
  exact ⟨b1, o1, c1, b2, o2, c2, h1, h2, by simpa using i1, by simpa using i2, h1c, h2c⟩
theorem eq_sea (u : World) : (binOp .eql 41 (.agg aSea.vals) (.agg #[.string ⟨#[115]⟩, .int .i64 1, .int .i64 2, .int .i64 3, .int .i64 5, .int .i64 31, .int .i64 0, .int .i64 1, .int .i64 (-1)])).run Tryz.prog u = .ok (.bool true) u := by simp [go_sem, aSea, Itm.vals]
theorem eq_fea (u : World) : (binOp .eql 43 (.agg aFea.vals) (.agg #[.string ⟨#[102]⟩, .int .i64 3, .int .i64 3, .int .i64 2, .int .i64 0, .int .i64 0, .int .i64 49, .int .i64 0, .int .i64 0])).run Tryz.prog u = .ok (.bool true) u := by simp [go_sem, aFea, Itm.vals]
set_option maxRecDepth 100000 in
set_option maxHeartbeats 4000000 in
theorem c26awake_any (w : World) (hT : T26 w) : Calls Tryz.prog 8 #[] w fun e w' => e = .returned (.bool true) ∧ Below w.heap.size w w' := by
  have H1 := Lib.hid (fun (u : World) (h : T26 u) => a_par1 u h.wk)
  have H2 := Lib.hid (fun (u : World) (h : T26 u) => a_par2 u h.wk)
  have H3 := Lib.hid (fun (u : World) (h : T26 u) => a_par3 u h.wk)
  have H4 := Lib.hid (fun (u : World) (h : T26 u) => a_pri u h)
  have hT := Lib.hid hT
  go_enter Tryz.func8, Tryz.ntmps8
  go_wp2_with fail
  refine (H1.out _ hT.out).mono ?_
  rintro e u1 ⟨vS, vF, rfl, hs, hf, hb⟩
  have A1 : Aw26 w u1.heap.size vS vF (u1.alloc (.cells #[.int .i64 7, vS, vF] 26)) := ⟨heap_alloc_new _ _, hs.on (al1 _ _), hf.on (al1 _ _), below_on hb (al1 _ _)⟩
  obtain ⟨b1, o1, c1, b2, o2, c2, rfl, rfl, -, -, hc1, hc2⟩ := A1.facts
  have A1 := Lib.hid A1
  clear hs hf hb
  go_wp2_with fail
  refine (H2.out _ (hT.out.on A1.out.bl)).mono ?_
  rintro e u2 ⟨rfl, hb⟩
  have A2 := Lib.hid ((A1.out.on hb).on (al1 _ (.cells #[.int .i64 0, .slice none 0 0, .slice none 0 0] 26)))
  clear A1 hb
  go_wp2_with fail
  refine (H3.out _ (hT.out.on A2.out.bl)).mono ?_
  rintro e u3 ⟨rfl, hb⟩
  have A3 := ((A2.out.on hb).on (al1 _ (.cells #[.int .i64 0, .slice none 0 0, .slice none 0 0] 26)))
  clear A2 hb
  have l3 : (1 : Nat) ≤ c1 := hc1
  have k0 : (u3.alloc (.cells #[.int .i64 0, .slice none 0 0, .slice none 0 0] 26)).cell? ⟨u1.heap.size, 1, none⟩ = some (.slice (some ⟨b1, o1, none⟩) 1 c1) := by rw [cell_of_row _ _ _ _ _ _ A3.row]; rfl
  have k1 : (u3.alloc (.cells #[.int .i64 0, .slice none 0 0, .slice none 0 0] 26)).cell? ⟨u1.heap.size, 2, none⟩ = some (.slice (some ⟨b2, o2, none⟩) 1 c2) := by rw [cell_of_row _ _ _ _ _ _ A3.row]; rfl
  have A3 := Lib.hid A3
  go_wp2_with fail
  clear k0 k1
  refine (H4.out _ (hT.out.on A3.out.bl)).mono ?_
  rintro e u4 ⟨rfl, hb⟩
  have A4 := A3.out.on hb
  clear A3 hb
  have k0 : u4.cell? ⟨u1.heap.size, 0, none⟩ = some (.int .i64 7) := by rw [cell_of_row _ _ _ _ _ _ A4.row]; rfl
  have k1 : u4.cell? ⟨u1.heap.size, 1, none⟩ = some (.slice (some ⟨b1, o1, none⟩) 1 c1) := by rw [cell_of_row _ _ _ _ _ _ A4.row]; rfl
  have k2 : u4.cell? ⟨u1.heap.size, 2, none⟩ = some (.slice (some ⟨b2, o2, none⟩) 1 c2) := by rw [cell_of_row _ _ _ _ _ _ A4.row]; rfl
  obtain ⟨b1', o1', c1', b2', o2', c2', hv1, hv2, i1, i2, -, -⟩ := A4.facts
  cases hv1
  cases hv2
  obtain ⟨q0, q1, q2, q3, q4, q5, q6, q7, q8⟩ := i1.nine
  obtain ⟨r0, r1, r2, r3, r4, r5, r6, r7, r8⟩ := i2.nine
  have E1 := eq_sea
  have E2 := eq_fea
  simp only [aSea, aFea, Itm.vals] at E1 E2
  have bl := Lib.hid A4.bl
  clear A4 i1 i2
  go_wp2_with fail
  go_ret
  exact ⟨rfl, bl.out⟩
end Go.Proofs.YthmfhgehahpgbaaGreatDoor
