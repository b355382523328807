/- The law Accepted. -/
import Derived.Test.YthmfhgehahpgbaaGreatDoorYz
import Derived.Test.YthmfhgehahpgbaaGreatDoorZa
namespace Go.Proofs.YthmfhgehahpgbaaGreatDoor
open Go.RowKit

theorem idn_size {s : ByteArray} (h : idn s = true) : s.size ≤ 40 := by
  unfold idn at h
  simp only [Bool.and_eq_true, decide_eq_true_eq] at h
  omega
theorem gdS_of {t : Itm} (h : okS t = true) : gdS t = true := by
  unfold gdS
  have h1 : idn t.id = true := by unfold okS at h; simp only [Bool.and_eq_true] at h; exact h.1
  rw [h, decide_eq_true (Nat.le_trans (idn_size h1) (by decide))]; rfl
theorem gdF_of {t : Itm} (h : okF t = true) : gdF t = true := by
  unfold gdF
  have h1 : idn t.id = true := by unfold okF at h; simp only [Bool.and_eq_true] at h; exact h.1
  rw [h, decide_eq_true (Nat.le_trans (idn_size h1) (by decide))]; rfl
theorem okCt_parts {c : Cat} (h : okCt c = true) : inT c.free = true ∧ (∀ t ∈ c.ss, gdS t = true) ∧ (∀ t ∈ c.fs, gdF t = true) := by
  unfold okCt at h
  simp only [Bool.and_eq_true] at h
  exact ⟨h.2.2, fun t ht => gdS_of (List.all_eq_true.1 h.1 t ht), fun t ht => gdF_of (List.all_eq_true.1 h.2.1 t ht)⟩
/-- Print, for what is printable. -/
theorem p26prt {c : Cat} {v1 v2 : Value} {w : World} (hT : T26 w) (h1 : SlAt w v1 c.ss) (h2 : SlAt w v2 c.fs) (hc : okCt c = true) (n1 : c.ss.length ≤ 100000) (n2 : c.fs.length ≤ 100000) :
    Calls Tryz.prog 14 #[.agg #[.int .i64 c.free, v1, v2]] w fun e w' => e = .returned (.string (txC c)) ∧ Below w.heap.size w w' :=
  p26pri hT h1 h2 (okCt_parts hc).1 (okCt_parts hc).2.1 (okCt_parts hc).2.2 n1 n2
theorem pEnd_le (N : Nat) (S : ByteArray) : (pEnd N S).k ≤ S.size := ((gd_Body N).le S ⟨0, false⟩ (Nat.zero_le _)).2
set_option maxRecDepth 100000 in
set_option maxHeartbeats 1000000 in
theorem l26a_any (S : ByteArray) (W : World) (hT : T26 W) : Calls Tryz.prog 5 #[.string S] W fun e w' => e = .returned (.bool true) ∧ Below W.heap.size W w' := by
  have HA := Lib.hid (fun (u : World) (h : T26 u) => c26awake_any u h)
  have hT := Lib.hid hT
  by_cases hlen : S.size ≤ 5000
  · have c5 : ¬ (5000 : Int) < (S.size : Int) := by omega
    have HP := Lib.hid (fun (u : World) (h : T26 u) (hb : (pEnd 5002 S).b = false) => p26par_yes (S := S) (N := 5002) (w := u) (by omega) (by omega) (by omega) h.wk hb)
    have HN := Lib.hid (fun (u : World) (h : T26 u) (hb : (pEnd 5002 S).b = true) => p26par_no (S := S) (N := 5002) (w := u) (by omega) (by omega) (by omega) h.wk hb)
    obtain ⟨L1, L2⟩ := body_len S 5002
    have HO := Lib.hid (fun hb => body_so (S := S) (N := 5002) hb)
    have hke := pEnd_le 5002 S
    generalize hB : (pBody 5002 S ⟨0, false⟩).1 = B at *
    clear hB
    have HZ := Lib.hid (fun (u : World) => r17same_big 0 (.slice none 0 0) (.slice none 0 0) (.slice none 0 0) (.slice none 0 0) [] [] u (by simp) (by simp) (slat_nil u) (slat_nil u) (slat_nil u) (slat_nil u))
    have HR := Lib.hid (fun (u : World) (v1 v2 : Value) (h1 : SlAt u v1 B.ss) (h2 : SlAt u v2 B.fs) => r26prn (c := B) h1 h2 (by omega) (by omega))
    have HQ := Lib.hid (fun (u : World) (v1 v2 : Value) (hT : T26 u) (h1 : SlAt u v1 B.ss) (h2 : SlAt u v2 B.fs) (hc : okCt B = true) => p26prt (c := B) hT h1 h2 hc (by omega) (by omega))
    generalize pEnd 5002 S = E at *
    obtain ⟨ek, eb⟩ := E
    simp only at HP HN HO hke
    cases eb
    · obtain ⟨o1, o2⟩ := HO.out rfl
      have HQ := Lib.hid (fun (u : World) (v1 v2 : Value) (hT : T26 u) (h1 : SlAt u v1 B.ss) (h2 : SlAt u v2 B.fs) => o2.symm ▸ HQ.out u v1 v2 hT h1 h2 o1)
      rw [o1] at HR
      clear HO o1 o2
      obtain ⟨free, ss, fs⟩ := B
      simp only at L1 L2 HP HR HQ
      go_enter Tryz.func5, Tryz.ntmps5
      go_wp2_with fail
      refine (HA.out _ hT.out).mono ?_
      rintro e u1 ⟨rfl, hb1⟩
      have B1 := Lib.hid hb1
      clear hb1
      go_wp2_with fail
      refine (HP.out _ (hT.out.on B1.out) (by first | rfl | trivial)).mono ?_
      rintro e u2 ⟨vS, vF, rfl, hS, hF, hb2⟩
      have hS0 := hS
      have hF0 := hF
      obtain ⟨AS, cS, rfl, -⟩ := hS0
      obtain ⟨AF, cF, rfl, -⟩ := hF0
      have B2 := Lib.hid (below_on (below_on B1.out hb2) (al1 u2 (.cells #[.int .i64 free, .slice AS ss.length cS, .slice AF fs.length cF] 26)))
      have S2 := Lib.hid (hS.on (al1 u2 (.cells #[.int .i64 free, .slice AS ss.length cS, .slice AF fs.length cF] 26)))
      have F2 := Lib.hid (hF.on (al1 u2 (.cells #[.int .i64 free, .slice AS ss.length cS, .slice AF fs.length cF] 26)))
      have R2 := heap_alloc_new u2 (.cells #[.int .i64 free, .slice AS ss.length cS, .slice AF fs.length cF] 26)
      clear hS hF hb2 B1
      have a0 : (u2.alloc (.cells #[.int .i64 free, .slice AS ss.length cS, .slice AF fs.length cF] 26)).cell? ⟨u2.heap.size, 0, none⟩ = some (.int .i64 free) := by rw [cell_of_row _ _ _ _ _ _ R2]; rfl
      have a1 : (u2.alloc (.cells #[.int .i64 free, .slice AS ss.length cS, .slice AF fs.length cF] 26)).cell? ⟨u2.heap.size, 1, none⟩ = some (.slice AS ss.length cS) := by rw [cell_of_row _ _ _ _ _ _ R2]; rfl
      have a2 : (u2.alloc (.cells #[.int .i64 free, .slice AS ss.length cS, .slice AF fs.length cF] 26)).cell? ⟨u2.heap.size, 2, none⟩ = some (.slice AF fs.length cF) := by rw [cell_of_row _ _ _ _ _ _ R2]; rfl
      have R2 := Lib.hid R2
      go_wp2_with fail
      clear a0 a1 a2
      refine (HR.out _ _ _ S2.out F2.out).mono ?_
      rintro e u3 ⟨rfl, hb3⟩
      have B3 := Lib.hid (below_on B2.out hb3)
      have S3 := Lib.hid (S2.out.on hb3)
      have F3 := Lib.hid (F2.out.on hb3)
      have R3 := row_kept R2.out hb3
      clear hb3 B2 S2 F2 R2
      have a0 : u3.cell? ⟨u2.heap.size, 0, none⟩ = some (.int .i64 free) := by rw [cell_of_row _ _ _ _ _ _ R3]; rfl
      have a1 : u3.cell? ⟨u2.heap.size, 1, none⟩ = some (.slice AS ss.length cS) := by rw [cell_of_row _ _ _ _ _ _ R3]; rfl
      have a2 : u3.cell? ⟨u2.heap.size, 2, none⟩ = some (.slice AF fs.length cF) := by rw [cell_of_row _ _ _ _ _ _ R3]; rfl
      clear R3
      go_wp2_with fail
      clear a0 a1 a2
      refine (HQ.out _ _ _ (hT.out.on B3.out) S3.out F3.out).mono ?_
      rintro e u4 ⟨rfl, hb4⟩
      have B4 := Lib.hid (below_on B3.out hb4)
      clear hb4 B3 S3 F3
      go_wp2_with fail
      go_ret
      exact ⟨ret_bool (by simp), B4.out⟩
    · have c6 : (ek : Int) ≤ (S.size : Int) := by omega
      have c7 : (0 : Int) ≤ (ek : Int) := by omega
      go_enter Tryz.func5, Tryz.ntmps5
      go_wp2_with fail
      refine (HA.out _ hT.out).mono ?_
      rintro e u1 ⟨rfl, hb1⟩
      have B1 := Lib.hid hb1
      clear hb1
      go_wp2_with fail
      refine (HN.out _ (hT.out.on B1.out) (by first | rfl | trivial)).mono ?_
      rintro e u2 ⟨rfl, hb2⟩
      have B2 := Lib.hid (below_on (below_on B1.out hb2) (al1 u2 (.cells #[.int .i64 0, .slice none 0 0, .slice none 0 0] 26)))
      have R2 := heap_alloc_new u2 (.cells #[.int .i64 0, .slice none 0 0, .slice none 0 0] 26)
      clear hb2 B1
      have a0 : (u2.alloc (.cells #[.int .i64 0, .slice none 0 0, .slice none 0 0] 26)).cell? ⟨u2.heap.size, 0, none⟩ = some (.int .i64 0) := by rw [cell_of_row _ _ _ _ _ _ R2]; rfl
      have a1 : (u2.alloc (.cells #[.int .i64 0, .slice none 0 0, .slice none 0 0] 26)).cell? ⟨u2.heap.size, 1, none⟩ = some (.slice none 0 0) := by rw [cell_of_row _ _ _ _ _ _ R2]; rfl
      have a2 : (u2.alloc (.cells #[.int .i64 0, .slice none 0 0, .slice none 0 0] 26)).cell? ⟨u2.heap.size, 2, none⟩ = some (.slice none 0 0) := by rw [cell_of_row _ _ _ _ _ _ R2]; rfl
      clear R2
      go_wp2_with fail
      refine (HZ.out _).mono ?_
      rintro e u3 ⟨rfl, hb3⟩
      have B3 := Lib.hid (below_on B2.out hb3)
      clear hb3 B2 a0 a1 a2
      go_wp2_with fail
      go_ret
      exact ⟨ret_bool (by simp), B3.out⟩
  · have c5 : (5000 : Int) < (S.size : Int) := by omega
    go_enter Tryz.func5, Tryz.ntmps5
    go_wp2_with fail
    refine (HA.out _ hT.out).mono ?_
    rintro e u1 ⟨rfl, hb1⟩
    have B1 := Lib.hid hb1
    clear hb1
    go_wp2_with fail
    refine (HA.out _ (hT.out.on B1.out)).mono ?_
    rintro e u2 ⟨rfl, hb2⟩
    have B2 := Lib.hid (below_on B1.out hb2)
    clear hb2 B1
    go_wp2_with fail
    go_ret
    exact ⟨rfl, B2.out⟩
end Go.Proofs.YthmfhgehahpgbaaGreatDoor
