/- The law MatchesReference of package linescan. -/
import Derived.Test.YtlodijncaojifaaDoorOf
import Derived.Deep.RegionHeld3
namespace Go.Proofs.YtlodijncaojifaaDoor
open Go.RowKit

/-- A scanner and the reference's state of it in memory. -/
structure Mt (W : World) (xb yb : Nat) (S : ByteArray) (k : Nat) (bad : Bool) (u : World) : Prop where
  rx : u.heap[xb]? = some (scO S k bad)
  ry : u.heap[yb]? = some (stO S k bad)
  bl : Below W.heap.size W u
/-- The scanner has gone on, the state has not. -/
structure Mh (W : World) (xb yb : Nat) (S : ByteArray) (k k' : Nat) (bad bad' : Bool) (u : World) : Prop where
  rx : u.heap[xb]? = some (scO S k' bad')
  ry : u.heap[yb]? = some (stO S k bad)
  bl : Below W.heap.size W u
theorem Mt.on {W : World} {xb yb k : Nat} {S : ByteArray} {bad : Bool} {u u' : World} (h : Mt W xb yb S k bad u) (hb : Below u.heap.size u u') : Mt W xb yb S k bad u' := ⟨row_kept h.rx hb, row_kept h.ry hb, below_on h.bl hb⟩
theorem Mh.on {W : World} {xb yb k k' : Nat} {S : ByteArray} {bad bad' : Bool} {u u' : World} (h : Mh W xb yb S k k' bad bad' u) (hb : Below u.heap.size u u') : Mh W xb yb S k k' bad bad' u' := ⟨row_kept h.rx hb, row_kept h.ry hb, below_on h.bl hb⟩
theorem Mt.go {W : World} {xb yb k k' : Nat} {S : ByteArray} {bad bad' : Bool} {u u' : World} (h : Mt W xb yb S k bad u) (hr : u'.heap[xb]? = some (scO S k' bad')) (hb : Bt xb u u') (h1 : W.heap.size ≤ xb) (h2 : yb ≠ xb) : Mh W xb yb S k k' bad bad' u' :=
  ⟨hr, hb.row h2 h.ry, hb.bel h.bl h1⟩
theorem Mh.put {W : World} {xb yb k k' : Nat} {S : ByteArray} {bad bad' : Bool} {u : World} (h : Mh W xb yb S k k' bad bad' u) (h1 : W.heap.size ≤ yb) (h2 : yb ≠ xb) :
    Mt W xb yb S k' bad' (((u.setCell ⟨yb, 0, none⟩ (.string S)).setCell ⟨yb, 1, none⟩ (.int .i64 k')).setCell ⟨yb, 2, none⟩ (.bool bad')) :=
  ⟨(Bt.set yb _ 2 _).row (Ne.symm h2) ((Bt.set yb _ 1 _).row (Ne.symm h2) ((Bt.set yb _ 0 _).row (Ne.symm h2) h.rx)), heap_setCell_same _ yb 2 _ _ _ (heap_setCell_same _ yb 1 _ _ _ (heap_setCell_same u yb 0 _ _ _ h.ry)), ((h.bl.setCell (p := ⟨yb, 0, none⟩) h1 _).setCell (p := ⟨yb, 1, none⟩) h1 _).setCell (p := ⟨yb, 2, none⟩) h1 _⟩
theorem err_is {S : ByteArray} {b k : Nat} {bad : Bool} : ∃ E : Int, (E != 0) = bad ∧ ∀ {w : World}, w.heap[b]? = some (scO S k bad) → Calls Tryd.prog 20 #[xp b] w fun e w' => e = .returned (.int .i64 E) ∧ Below w.heap.size w w' := by
  cases bad
  · exact ⟨0, rfl, fun h => err_ok h⟩
  · exact ⟨6, rfl, fun h => err_bad h⟩
theorem l25m_l1 (s : ByteArray) (A : Option Addr) (n cap : Nat) (h : 1000 < s.size) (W : World) : Calls Tryd.prog 3 #[.string s, .slice A n cap] W fun e w' => e = .returned (.bool true) ∧ Below W.heap.size W w' := by
  have d1 : decide (1000 < s.size) = true := dtrue h
  go_enter Tryd.func3, Tryd.ntmps3
  go_wp2_with fail
  refine (c25awake_any _).mono ?_
  rintro e w1 ⟨rfl, b1⟩
  go_wp2_with fail
  refine (c25awake_any _).mono ?_
  rintro e w2 ⟨rfl, b2⟩
  go_wp2_with fail
  go_ret
  exact ⟨rfl, below_on b1 b2⟩
theorem l25m_l2 (s : ByteArray) (A : Option Addr) (n cap : Nat) (h1 : ¬ 1000 < s.size) (h : 60 < n) (W : World) : Calls Tryd.prog 3 #[.string s, .slice A n cap] W fun e w' => e = .returned (.bool true) ∧ Below W.heap.size W w' := by
  have d1 : decide (1000 < s.size) = false := dfalse h1
  have d2 : decide (60 < n) = true := dtrue h
  go_enter Tryd.func3, Tryd.ntmps3
  go_wp2_with fail
  refine (c25awake_any _).mono ?_
  rintro e w1 ⟨rfl, b1⟩
  go_wp2_with fail
  refine (c25awake_any _).mono ?_
  rintro e w2 ⟨rfl, b2⟩
  go_wp2_with fail
  go_ret
  exact ⟨rfl, below_on b1 b2⟩
set_option maxHeartbeats 40000000 in
set_option maxRecDepth 100000 in
theorem l25m_ok (s : ByteArray) (A : Option Addr) (cap : Nat) (st : List (Int × Int)) (W : World) (h1 : ¬ 1000 < s.size) (h2 : ¬ 60 < st.length)
    (hst : ∀ (i : Nat) (t : Int × Int), st[i]? = some t → ∃ b o, A = some ⟨b, o, none⟩ ∧ W.cell? ⟨b, o + i * 2, none⟩ = some (.int .i64 t.1) ∧ W.cell? ⟨b, o + i * 2 + 1, none⟩ = some (.int .i64 t.2)) :
    Calls Tryd.prog 3 #[.string s, .slice A st.length cap] W fun e w' => e = .returned (.bool true) ∧ Below W.heap.size W w' := by
  have d1 : decide (1000 < s.size) = false := dfalse h1
  obtain ⟨n, hn⟩ : ∃ n, n = st.length := ⟨_, rfl⟩
  rw [← hn] at h2 ⊢
  have d2 : decide (60 < n) = false := dfalse h2
  have HN := Lib.hid hn
  have HST := Lib.hid hst
  have ss : s.size < big := by show s.size < 4611686018427387904; omega
  clear hn hst
  go_enter Tryd.func3, Tryd.ntmps3
  go_wp2_with fail
  refine (c25awake_any _).mono ?_
  rintro e w1 ⟨rfl, b1⟩
  go_wp2_with fail
  refine (new25_any _ _).mono ?_
  rintro e w2 ⟨rfl, r2, b2⟩
  have xl : W.heap.size ≤ w1.heap.size := b1.size
  have yx : w1.heap.size < w2.heap.size := row_lt r2
  have M0 : Mt W w1.heap.size w2.heap.size s 0 false (w2.alloc (stO s 0 false)) := ⟨row_kept r2 (al1 w2 _), heap_alloc_new w2 _, below_on (below_on b1 b2) (al1 w2 _)⟩
  have HM0 : Hid (Mt W w1.heap.size w2.heap.size s 0 false (w2.alloc (.cells #[.string s, .int .i64 0, .bool false] 27))) := Lib.hid M0
  clear M0 b1 b2 r2
  generalize w1.heap.size = xb at *
  go_wp2_with fail
  obtain ⟨u0, hu0⟩ : ∃ u0, u0 = w2.alloc (.cells #[.string s, .int .i64 0, .bool false] 27) := ⟨_, rfl⟩
  rw [← hu0] at HM0 ⊢
  clear hu0
  generalize w2.heap.size = yb at *
  clear d1 d2
  go_loopw [7] (fun vi wr => ∃ (i k : Nat) (b : Bool), i ≤ n ∧ k ≤ s.size ∧ vi = .int .i64 i ∧ Hid (Mt W xb yb s k b wr)) (fun vi _ => n - (intOf vi).toNat)
  case atStart => exact ⟨0, 0, false, Nat.zero_le _, Nat.zero_le _, rfl, HM0⟩
  case round =>
    clear HM0
    obtain ⟨i, k, b, hi, hk, rfl, M⟩ := hrel
    by_cases hlt : i < n
    · have hl : i < st.length := by rw [← HN.out]; exact hlt
      obtain ⟨t, ht⟩ : ∃ t, st[i]? = some t := ⟨_, List.getElem?_eq_getElem hl⟩
      obtain ⟨bs, ofs, rfl, q0, q1⟩ := HST.out i t ht
      obtain ⟨kd, wk⟩ := t
      have bsl : bs < W.heap.size := World.block_lt_of_cell? W _ q0
      have c0 : wr.cell? ⟨bs, ofs + i * 2, none⟩ = some (.int .i64 kd) := (M.out.bl.cell (p := ⟨bs, ofs + i * 2, none⟩) bsl).trans q0
      have c1 : wr.cell? ⟨bs, ofs + i * 2 + 1, none⟩ = some (.int .i64 wk) := (M.out.bl.cell (p := ⟨bs, ofs + i * 2 + 1, none⟩) bsl).trans q1
      have bi : (0 : Int) ≤ (i : Int) ∧ (i : Int) < (n : Int) := ⟨by omega, by omega⟩
      obtain ⟨y0, y1, y2, z0, z1, z2, yl⟩ := st_facts M.out.ry
      clear q0 q1 ht hl
      by_cases cl : wk < 0
      · have k0 : decide (wk < 0) = true := dtrue cl
        by_cases hkd : kd = 0
        · have e0 : (kd == 0) = true := beq_iff_eq.2 hkd
          clear hkd
          have HWD := Lib.hid (fun u => wds_any (0) (by omega) u)
          have WN := wds_n (0)
          generalize wl (0) = ws at *
          have hw0 := HWD.out
          go_wp2_with fail
          refine (hw0 _).mono ?_
          rintro e w2 ⟨rfl, g2, b2⟩
          have M2 := M.out.on b2
          have gne : wr.heap.size ≠ xb := by have := row_lt M.out.rx; omega
          go_wp2_with fail
          refine (xw_all M2.rx hk ss g2 gne WN).mono ?_
          rintro e w3 ⟨rfl, r3, b3⟩
          have M3 := M2.go r3 b3 xl (by omega)
          have KLE := fwK_le b hk ws
          have RW := Lib.hid (fun (u : World) (g cap : Nat) (h : StrsIn g cap ws u) => rw_all s k b u hk ss h WN)
          generalize fwK b s k ws = K at *
          generalize fwB b s k ws = B at *
          generalize fwI b s k ws = I at *
          have HR := fun (u : World) (g : Nat) (h : StrsIn g ws.length ws u) => RW.out u g ws.length h
          clear g2 b2 r3 b3 M2 gne hw0 M RW
          obtain ⟨y0, y1, y2, z0, z1, z2, yl⟩ := st_facts M3.ry
          go_wp2_with fail
          refine wm_region _ s k b K B I _ yb ws _ _ _ _ _ _ _ _ _ _ _ _ _ _ _ _ _ _ _ _ _ _ _ _ _ _ _ _ _ _ _ _ _ _ _ _ _ _ _ _ _ _ _ _ _ _ _ _ _ _ _ _ _ _ _ _ _ _ _ _ _ _ _ _ _ _ _ _ _ _ _ _ _ _ _ _ _ _ _ _ _ _ _ _ _ _ _ _ _ _ _ _ _ _ _ _ _ _ _ _ _ _ _ _ _ _ _ _ _ _ _ _ _ _ _ _ _ _ _ _ _ _ _ _ _ _ _ _ _ _ _ _ _ _ _ _ _ _ _ _ w3 HWD.out HR (fun _ a d _ _ h => by cases d <;> exact h) yl y0 y1 y2 (fun zb x69 w8 hb8 hz8 rz8 => ?_) _
          clear y0 y1 y2 z0 z1 z2 yl HR HWD
          have M4 := M3.on hb8
          obtain ⟨y0, y1, y2, z0, z1, z2, yl⟩ := st_facts M4.ry
          obtain ⟨a0, a1, a2, -, -, -, -⟩ := st_facts rz8
          have M := M4.put (by omega) (by omega)
          go_wp2_with fail
          obtain ⟨w9, hw9⟩ : ∃ w9, w9 = ((w8.setCell ⟨yb, 0, none⟩ (.string s)).setCell ⟨yb, 1, none⟩ (.int .i64 K)).setCell ⟨yb, 2, none⟩ (.bool B) := ⟨_, rfl⟩
          rw [← hw9] at M ⊢
          clear hw9 y0 y1 y2 z0 z1 z2 yl a0 a1 a2 M3 M4 hb8 rz8
          obtain ⟨E, qE, hE⟩ := err_is (S := s) (b := xb) (k := K) (bad := B)
          obtain ⟨g0, g1, g2, -, -, -, -⟩ := st_facts M.ry
          have HO := Lib.hid (fun u (hu : World.cell? u ⟨yb, 1, none⟩ = some (Value.int .i64 (K : Nat)) ∧ World.cell? u ⟨yb, 2, none⟩ = some (Value.bool B) ∧ (World.heap u)[xb]? = some (scO s K B) ∧ Below w9.heap.size w9 u) => (off_any hu.2.2.1).mono fun e w' ⟨h1, h2⟩ => (⟨h1, cell_below hu.1 h2, cell_below hu.2.1 h2, row_kept hu.2.2.1 h2, below_on hu.2.2.2 h2⟩ : e = Ending.returned (.int .i64 (K : Nat)) ∧ World.cell? w' ⟨yb, 1, none⟩ = some (Value.int .i64 (K : Nat)) ∧ World.cell? w' ⟨yb, 2, none⟩ = some (Value.bool B) ∧ (World.heap w')[xb]? = some (scO s K B) ∧ Below w9.heap.size w9 w'))
          have HE := Lib.hid (fun u (hu : World.cell? u ⟨yb, 1, none⟩ = some (Value.int .i64 (K : Nat)) ∧ World.cell? u ⟨yb, 2, none⟩ = some (Value.bool B) ∧ (World.heap u)[xb]? = some (scO s K B) ∧ Below w9.heap.size w9 u) => (hE hu.2.2.1).mono fun e w' ⟨h1, h2⟩ => (⟨h1, cell_below hu.1 h2, cell_below hu.2.1 h2, row_kept hu.2.2.1 h2, below_on hu.2.2.2 h2⟩ : e = Ending.returned (.int .i64 E) ∧ World.cell? w' ⟨yb, 1, none⟩ = some (Value.int .i64 (K : Nat)) ∧ World.cell? w' ⟨yb, 2, none⟩ = some (Value.bool B) ∧ (World.heap w')[xb]? = some (scO s K B) ∧ Below w9.heap.size w9 w'))
          have H1 := Lib.hid (⟨g1, g2, M.rx, (Below.refl _ _).drew⟩ : w9.drew.cell? ⟨yb, 1, none⟩ = some (Value.int .i64 (K : Nat)) ∧ w9.drew.cell? ⟨yb, 2, none⟩ = some (Value.bool B) ∧ w9.drew.heap[xb]? = some (scO s K B) ∧ Below w9.heap.size w9 w9.drew)
          clear hE
          go_wp2_with fail
          go_region_held3 (fun u => World.cell? u ⟨yb, 1, none⟩ = some (Value.int .i64 (K : Nat)) ∧ World.cell? u ⟨yb, 2, none⟩ = some (Value.bool B) ∧ (World.heap u)[xb]? = some (scO s K B) ∧ Below w9.heap.size w9 u)
            (first | exact H1.out | assumption)
            (first | (go_at_call 19; refine (HO.out _ (by assumption)).mono ?_; rintro e1 w2 ⟨rfl, hs1⟩) | (go_at_call 20; refine (HE.out _ (by assumption)).mono ?_; rintro e1 w2 ⟨rfl, hs1⟩))
          go_wp2_with fail
          go_roundw
          case rel => exact ⟨i + 1, K, B, by omega, KLE, by go_num, Lib.hid (M.on hs1.2.2.2)⟩
          case measure => simp [intOf]; omega
        · have n0 := hkd
          by_cases hkd : kd = 1
          · have e0 : (kd == 0) = false := beq_eq_false_iff_ne.2 n0
            have e1 : (kd == 1) = true := beq_iff_eq.2 hkd
            clear hkd
            go_wp2_with fail
            refine (xn_all M.out.rx hk ss).mono ?_
            rintro e w3 ⟨rfl, r3, b3⟩
            have M3 := M.out.go r3 b3 xl (by omega)
            have KLE := fnK_le b hk
            have RR := Lib.hid (fun u => rn_all s k b u ss)
            generalize fnK b s k = K at *
            generalize fnB b s k = B at *
            generalize fnV b s k = V at *
            clear r3 b3 M y0 y1 y2 z0 z1 z2 yl c0 c1
            obtain ⟨y0, y1, y2, z0, z1, z2, yl⟩ := st_facts M3.ry
            go_wp2_with fail
            refine (RR.out _).mono ?_
            rintro e w4 ⟨rfl, b4⟩
            have M4 := M3.on b4
            have M5 := M4.on (al1 w4 (stO s K B))
            clear M3 b4 y0 y1 y2 z0 z1 z2 yl
            obtain ⟨y0, y1, y2, z0, z1, z2, yl⟩ := st_facts M4.ry
            have M := M5.put (by have := yx; omega) (by omega)
            go_wp2_with fail
            obtain ⟨w9, hw9⟩ : ∃ w9, w9 = (((w4.alloc (stO s K B)).setCell ⟨yb, 0, none⟩ (.string s)).setCell ⟨yb, 1, none⟩ (.int .i64 K)).setCell ⟨yb, 2, none⟩ (.bool B) := ⟨_, rfl⟩
            rw [← hw9] at M
            first
              | rw [← hw9]
              | (rw [show ((((w4.setCell ⟨yb, 0, none⟩ (.string s)).setCell ⟨yb, 1, none⟩ (.int .i64 K)).setCell ⟨yb, 2, none⟩ (.bool B)).alloc (stO s K B)) = w9 from by rw [hw9]; go_simp])
            clear hw9 y0 y1 y2 z0 z1 z2 yl M4 M5
            obtain ⟨E, qE, hE⟩ := err_is (S := s) (b := xb) (k := K) (bad := B)
            obtain ⟨g0, g1, g2, -, -, -, -⟩ := st_facts M.ry
            have HO := Lib.hid (fun u (hu : World.cell? u ⟨yb, 1, none⟩ = some (Value.int .i64 (K : Nat)) ∧ World.cell? u ⟨yb, 2, none⟩ = some (Value.bool B) ∧ (World.heap u)[xb]? = some (scO s K B) ∧ Below w9.heap.size w9 u) => (off_any hu.2.2.1).mono fun e w' ⟨h1, h2⟩ => (⟨h1, cell_below hu.1 h2, cell_below hu.2.1 h2, row_kept hu.2.2.1 h2, below_on hu.2.2.2 h2⟩ : e = Ending.returned (.int .i64 (K : Nat)) ∧ World.cell? w' ⟨yb, 1, none⟩ = some (Value.int .i64 (K : Nat)) ∧ World.cell? w' ⟨yb, 2, none⟩ = some (Value.bool B) ∧ (World.heap w')[xb]? = some (scO s K B) ∧ Below w9.heap.size w9 w'))
            have HE := Lib.hid (fun u (hu : World.cell? u ⟨yb, 1, none⟩ = some (Value.int .i64 (K : Nat)) ∧ World.cell? u ⟨yb, 2, none⟩ = some (Value.bool B) ∧ (World.heap u)[xb]? = some (scO s K B) ∧ Below w9.heap.size w9 u) => (hE hu.2.2.1).mono fun e w' ⟨h1, h2⟩ => (⟨h1, cell_below hu.1 h2, cell_below hu.2.1 h2, row_kept hu.2.2.1 h2, below_on hu.2.2.2 h2⟩ : e = Ending.returned (.int .i64 E) ∧ World.cell? w' ⟨yb, 1, none⟩ = some (Value.int .i64 (K : Nat)) ∧ World.cell? w' ⟨yb, 2, none⟩ = some (Value.bool B) ∧ (World.heap w')[xb]? = some (scO s K B) ∧ Below w9.heap.size w9 w'))
            have H1 := Lib.hid (⟨g1, g2, M.rx, (Below.refl _ _).drew⟩ : w9.drew.cell? ⟨yb, 1, none⟩ = some (Value.int .i64 (K : Nat)) ∧ w9.drew.cell? ⟨yb, 2, none⟩ = some (Value.bool B) ∧ w9.drew.heap[xb]? = some (scO s K B) ∧ Below w9.heap.size w9 w9.drew)
            clear hE
            go_wp2_with fail
            go_region_held3 (fun u => World.cell? u ⟨yb, 1, none⟩ = some (Value.int .i64 (K : Nat)) ∧ World.cell? u ⟨yb, 2, none⟩ = some (Value.bool B) ∧ (World.heap u)[xb]? = some (scO s K B) ∧ Below w9.heap.size w9 u)
              (first | exact H1.out | assumption)
              (first | (go_at_call 19; refine (HO.out _ (by assumption)).mono ?_; rintro e1 w2 ⟨rfl, hs1⟩) | (go_at_call 20; refine (HE.out _ (by assumption)).mono ?_; rintro e1 w2 ⟨rfl, hs1⟩))
            go_wp2_with fail
            go_roundw
            case rel => exact ⟨i + 1, K, B, by omega, KLE, by go_num, Lib.hid (M.on hs1.2.2.2)⟩
            case measure => simp [intOf]; omega
          · have n1 := hkd
            by_cases hkd : kd = 2
            · have e0 : (kd == 0) = false := beq_eq_false_iff_ne.2 n0
              have e1 : (kd == 1) = false := beq_eq_false_iff_ne.2 n1
              have e2 : (kd == 2) = true := beq_iff_eq.2 hkd
              clear hkd
              go_wp2_with fail
              refine (xi_all M.out.rx hk ss).mono ?_
              rintro e w3 ⟨rfl, r3, b3⟩
              have M3 := M.out.go r3 b3 xl (by omega)
              have KLE := fiK_le b hk
              have RR := Lib.hid (fun u => ri_all s k b u ss)
              generalize fiK b s k = K at *
              generalize fiB b s k = B at *
              generalize fiV b s k = V at *
              clear r3 b3 M y0 y1 y2 z0 z1 z2 yl c0 c1
              obtain ⟨y0, y1, y2, z0, z1, z2, yl⟩ := st_facts M3.ry
              go_wp2_with fail
              refine (RR.out _).mono ?_
              rintro e w4 ⟨rfl, b4⟩
              have M4 := M3.on b4
              have M5 := M4.on (al1 w4 (stO s K B))
              clear M3 b4 y0 y1 y2 z0 z1 z2 yl
              obtain ⟨y0, y1, y2, z0, z1, z2, yl⟩ := st_facts M4.ry
              have M := M5.put (by have := yx; omega) (by omega)
              go_wp2_with fail
              obtain ⟨w9, hw9⟩ : ∃ w9, w9 = (((w4.alloc (stO s K B)).setCell ⟨yb, 0, none⟩ (.string s)).setCell ⟨yb, 1, none⟩ (.int .i64 K)).setCell ⟨yb, 2, none⟩ (.bool B) := ⟨_, rfl⟩
              rw [← hw9] at M
              first
                | rw [← hw9]
                | (rw [show ((((w4.setCell ⟨yb, 0, none⟩ (.string s)).setCell ⟨yb, 1, none⟩ (.int .i64 K)).setCell ⟨yb, 2, none⟩ (.bool B)).alloc (stO s K B)) = w9 from by rw [hw9]; go_simp])
              clear hw9 y0 y1 y2 z0 z1 z2 yl M4 M5
              obtain ⟨E, qE, hE⟩ := err_is (S := s) (b := xb) (k := K) (bad := B)
              obtain ⟨g0, g1, g2, -, -, -, -⟩ := st_facts M.ry
              have HO := Lib.hid (fun u (hu : World.cell? u ⟨yb, 1, none⟩ = some (Value.int .i64 (K : Nat)) ∧ World.cell? u ⟨yb, 2, none⟩ = some (Value.bool B) ∧ (World.heap u)[xb]? = some (scO s K B) ∧ Below w9.heap.size w9 u) => (off_any hu.2.2.1).mono fun e w' ⟨h1, h2⟩ => (⟨h1, cell_below hu.1 h2, cell_below hu.2.1 h2, row_kept hu.2.2.1 h2, below_on hu.2.2.2 h2⟩ : e = Ending.returned (.int .i64 (K : Nat)) ∧ World.cell? w' ⟨yb, 1, none⟩ = some (Value.int .i64 (K : Nat)) ∧ World.cell? w' ⟨yb, 2, none⟩ = some (Value.bool B) ∧ (World.heap w')[xb]? = some (scO s K B) ∧ Below w9.heap.size w9 w'))
              have HE := Lib.hid (fun u (hu : World.cell? u ⟨yb, 1, none⟩ = some (Value.int .i64 (K : Nat)) ∧ World.cell? u ⟨yb, 2, none⟩ = some (Value.bool B) ∧ (World.heap u)[xb]? = some (scO s K B) ∧ Below w9.heap.size w9 u) => (hE hu.2.2.1).mono fun e w' ⟨h1, h2⟩ => (⟨h1, cell_below hu.1 h2, cell_below hu.2.1 h2, row_kept hu.2.2.1 h2, below_on hu.2.2.2 h2⟩ : e = Ending.returned (.int .i64 E) ∧ World.cell? w' ⟨yb, 1, none⟩ = some (Value.int .i64 (K : Nat)) ∧ World.cell? w' ⟨yb, 2, none⟩ = some (Value.bool B) ∧ (World.heap w')[xb]? = some (scO s K B) ∧ Below w9.heap.size w9 w'))
              have H1 := Lib.hid (⟨g1, g2, M.rx, (Below.refl _ _).drew⟩ : w9.drew.cell? ⟨yb, 1, none⟩ = some (Value.int .i64 (K : Nat)) ∧ w9.drew.cell? ⟨yb, 2, none⟩ = some (Value.bool B) ∧ w9.drew.heap[xb]? = some (scO s K B) ∧ Below w9.heap.size w9 w9.drew)
              clear hE
              go_wp2_with fail
              go_region_held3 (fun u => World.cell? u ⟨yb, 1, none⟩ = some (Value.int .i64 (K : Nat)) ∧ World.cell? u ⟨yb, 2, none⟩ = some (Value.bool B) ∧ (World.heap u)[xb]? = some (scO s K B) ∧ Below w9.heap.size w9 u)
                (first | exact H1.out | assumption)
                (first | (go_at_call 19; refine (HO.out _ (by assumption)).mono ?_; rintro e1 w2 ⟨rfl, hs1⟩) | (go_at_call 20; refine (HE.out _ (by assumption)).mono ?_; rintro e1 w2 ⟨rfl, hs1⟩))
              go_wp2_with fail
              go_roundw
              case rel => exact ⟨i + 1, K, B, by omega, KLE, by go_num, Lib.hid (M.on hs1.2.2.2)⟩
              case measure => simp [intOf]; omega
            · have n2 := hkd
              by_cases hkd : kd = 3
              · have e0 : (kd == 0) = false := beq_eq_false_iff_ne.2 n0
                have e1 : (kd == 1) = false := beq_eq_false_iff_ne.2 n1
                have e2 : (kd == 2) = false := beq_eq_false_iff_ne.2 n2
                have e3 : (kd == 3) = true := beq_iff_eq.2 hkd
                clear hkd
                cases b
                · by_cases hks : k < s.size
                  · have f1 : decide (k < s.size) = true := dtrue hks
                    have x1 := fun u => idx_at25 (S := s) (i := k) (x := (k : Int)) rfl hks u
                    have hp := xp_all M.out.rx hk
                    rw [show fpV false s k = bt s k from nx_lt hks] at hp
                    generalize bt s k = z at *
                    go_wp2_with fail
                    refine hp.mono ?_
                    rintro e w9 ⟨rfl, b3⟩
                    clear hp x1
                    have M9 := M.out.on b3
                    clear M y0 y1 y2 z0 z1 z2 yl c0 c1 b3
                    have M := M9
                    clear M9
                    have KLE := hk
                    go_wp2_with fail
                    obtain ⟨E, qE, hE⟩ := err_is (S := s) (b := xb) (k := k) (bad := false)
                    obtain ⟨g0, g1, g2, -, -, -, -⟩ := st_facts M.ry
                    have HO := Lib.hid (fun u (hu : World.cell? u ⟨yb, 1, none⟩ = some (Value.int .i64 (k : Nat)) ∧ World.cell? u ⟨yb, 2, none⟩ = some (Value.bool false) ∧ (World.heap u)[xb]? = some (scO s k false) ∧ Below w9.heap.size w9 u) => (off_any hu.2.2.1).mono fun e w' ⟨h1, h2⟩ => (⟨h1, cell_below hu.1 h2, cell_below hu.2.1 h2, row_kept hu.2.2.1 h2, below_on hu.2.2.2 h2⟩ : e = Ending.returned (.int .i64 (k : Nat)) ∧ World.cell? w' ⟨yb, 1, none⟩ = some (Value.int .i64 (k : Nat)) ∧ World.cell? w' ⟨yb, 2, none⟩ = some (Value.bool false) ∧ (World.heap w')[xb]? = some (scO s k false) ∧ Below w9.heap.size w9 w'))
                    have HE := Lib.hid (fun u (hu : World.cell? u ⟨yb, 1, none⟩ = some (Value.int .i64 (k : Nat)) ∧ World.cell? u ⟨yb, 2, none⟩ = some (Value.bool false) ∧ (World.heap u)[xb]? = some (scO s k false) ∧ Below w9.heap.size w9 u) => (hE hu.2.2.1).mono fun e w' ⟨h1, h2⟩ => (⟨h1, cell_below hu.1 h2, cell_below hu.2.1 h2, row_kept hu.2.2.1 h2, below_on hu.2.2.2 h2⟩ : e = Ending.returned (.int .i64 E) ∧ World.cell? w' ⟨yb, 1, none⟩ = some (Value.int .i64 (k : Nat)) ∧ World.cell? w' ⟨yb, 2, none⟩ = some (Value.bool false) ∧ (World.heap w')[xb]? = some (scO s k false) ∧ Below w9.heap.size w9 w'))
                    have H1 := Lib.hid (⟨g1, g2, M.rx, (Below.refl _ _).drew⟩ : w9.drew.cell? ⟨yb, 1, none⟩ = some (Value.int .i64 (k : Nat)) ∧ w9.drew.cell? ⟨yb, 2, none⟩ = some (Value.bool false) ∧ w9.drew.heap[xb]? = some (scO s k false) ∧ Below w9.heap.size w9 w9.drew)
                    clear hE
                    go_wp2_with fail
                    go_region_held3 (fun u => World.cell? u ⟨yb, 1, none⟩ = some (Value.int .i64 (k : Nat)) ∧ World.cell? u ⟨yb, 2, none⟩ = some (Value.bool false) ∧ (World.heap u)[xb]? = some (scO s k false) ∧ Below w9.heap.size w9 u)
                      (first | exact H1.out | assumption)
                      (first | (go_at_call 19; refine (HO.out _ (by assumption)).mono ?_; rintro e1 w2 ⟨rfl, hs1⟩) | (go_at_call 20; refine (HE.out _ (by assumption)).mono ?_; rintro e1 w2 ⟨rfl, hs1⟩))
                    go_wp2_with fail
                    go_roundw
                    case rel => exact ⟨i + 1, k, false, by omega, KLE, by go_num, Lib.hid (M.on hs1.2.2.2)⟩
                    case measure => simp [intOf]; omega
                  · have f1 : decide (k < s.size) = false := dfalse hks
                    have hp := xp_all M.out.rx hk
                    rw [show fpV false s k = 0 from nx_ge hks] at hp
                    go_wp2_with fail
                    refine hp.mono ?_
                    rintro e w9 ⟨rfl, b3⟩
                    clear hp
                    have M9 := M.out.on b3
                    clear M y0 y1 y2 z0 z1 z2 yl c0 c1 b3
                    have M := M9
                    clear M9
                    have KLE := hk
                    go_wp2_with fail
                    obtain ⟨E, qE, hE⟩ := err_is (S := s) (b := xb) (k := k) (bad := false)
                    obtain ⟨g0, g1, g2, -, -, -, -⟩ := st_facts M.ry
                    have HO := Lib.hid (fun u (hu : World.cell? u ⟨yb, 1, none⟩ = some (Value.int .i64 (k : Nat)) ∧ World.cell? u ⟨yb, 2, none⟩ = some (Value.bool false) ∧ (World.heap u)[xb]? = some (scO s k false) ∧ Below w9.heap.size w9 u) => (off_any hu.2.2.1).mono fun e w' ⟨h1, h2⟩ => (⟨h1, cell_below hu.1 h2, cell_below hu.2.1 h2, row_kept hu.2.2.1 h2, below_on hu.2.2.2 h2⟩ : e = Ending.returned (.int .i64 (k : Nat)) ∧ World.cell? w' ⟨yb, 1, none⟩ = some (Value.int .i64 (k : Nat)) ∧ World.cell? w' ⟨yb, 2, none⟩ = some (Value.bool false) ∧ (World.heap w')[xb]? = some (scO s k false) ∧ Below w9.heap.size w9 w'))
                    have HE := Lib.hid (fun u (hu : World.cell? u ⟨yb, 1, none⟩ = some (Value.int .i64 (k : Nat)) ∧ World.cell? u ⟨yb, 2, none⟩ = some (Value.bool false) ∧ (World.heap u)[xb]? = some (scO s k false) ∧ Below w9.heap.size w9 u) => (hE hu.2.2.1).mono fun e w' ⟨h1, h2⟩ => (⟨h1, cell_below hu.1 h2, cell_below hu.2.1 h2, row_kept hu.2.2.1 h2, below_on hu.2.2.2 h2⟩ : e = Ending.returned (.int .i64 E) ∧ World.cell? w' ⟨yb, 1, none⟩ = some (Value.int .i64 (k : Nat)) ∧ World.cell? w' ⟨yb, 2, none⟩ = some (Value.bool false) ∧ (World.heap w')[xb]? = some (scO s k false) ∧ Below w9.heap.size w9 w'))
                    have H1 := Lib.hid (⟨g1, g2, M.rx, (Below.refl _ _).drew⟩ : w9.drew.cell? ⟨yb, 1, none⟩ = some (Value.int .i64 (k : Nat)) ∧ w9.drew.cell? ⟨yb, 2, none⟩ = some (Value.bool false) ∧ w9.drew.heap[xb]? = some (scO s k false) ∧ Below w9.heap.size w9 w9.drew)
                    clear hE
                    go_wp2_with fail
                    go_region_held3 (fun u => World.cell? u ⟨yb, 1, none⟩ = some (Value.int .i64 (k : Nat)) ∧ World.cell? u ⟨yb, 2, none⟩ = some (Value.bool false) ∧ (World.heap u)[xb]? = some (scO s k false) ∧ Below w9.heap.size w9 u)
                      (first | exact H1.out | assumption)
                      (first | (go_at_call 19; refine (HO.out _ (by assumption)).mono ?_; rintro e1 w2 ⟨rfl, hs1⟩) | (go_at_call 20; refine (HE.out _ (by assumption)).mono ?_; rintro e1 w2 ⟨rfl, hs1⟩))
                    go_wp2_with fail
                    go_roundw
                    case rel => exact ⟨i + 1, k, false, by omega, KLE, by go_num, Lib.hid (M.on hs1.2.2.2)⟩
                    case measure => simp [intOf]; omega
                · have hp := xp_all M.out.rx hk
                  rw [show fpV true s k = 0 from rfl] at hp
                  go_wp2_with fail
                  refine hp.mono ?_
                  rintro e w9 ⟨rfl, b3⟩
                  clear hp
                  have M9 := M.out.on b3
                  clear M y0 y1 y2 z0 z1 z2 yl c0 c1 b3
                  have M := M9
                  clear M9
                  have KLE := hk
                  go_wp2_with fail
                  obtain ⟨E, qE, hE⟩ := err_is (S := s) (b := xb) (k := k) (bad := true)
                  obtain ⟨g0, g1, g2, -, -, -, -⟩ := st_facts M.ry
                  have HO := Lib.hid (fun u (hu : World.cell? u ⟨yb, 1, none⟩ = some (Value.int .i64 (k : Nat)) ∧ World.cell? u ⟨yb, 2, none⟩ = some (Value.bool true) ∧ (World.heap u)[xb]? = some (scO s k true) ∧ Below w9.heap.size w9 u) => (off_any hu.2.2.1).mono fun e w' ⟨h1, h2⟩ => (⟨h1, cell_below hu.1 h2, cell_below hu.2.1 h2, row_kept hu.2.2.1 h2, below_on hu.2.2.2 h2⟩ : e = Ending.returned (.int .i64 (k : Nat)) ∧ World.cell? w' ⟨yb, 1, none⟩ = some (Value.int .i64 (k : Nat)) ∧ World.cell? w' ⟨yb, 2, none⟩ = some (Value.bool true) ∧ (World.heap w')[xb]? = some (scO s k true) ∧ Below w9.heap.size w9 w'))
                  have HE := Lib.hid (fun u (hu : World.cell? u ⟨yb, 1, none⟩ = some (Value.int .i64 (k : Nat)) ∧ World.cell? u ⟨yb, 2, none⟩ = some (Value.bool true) ∧ (World.heap u)[xb]? = some (scO s k true) ∧ Below w9.heap.size w9 u) => (hE hu.2.2.1).mono fun e w' ⟨h1, h2⟩ => (⟨h1, cell_below hu.1 h2, cell_below hu.2.1 h2, row_kept hu.2.2.1 h2, below_on hu.2.2.2 h2⟩ : e = Ending.returned (.int .i64 E) ∧ World.cell? w' ⟨yb, 1, none⟩ = some (Value.int .i64 (k : Nat)) ∧ World.cell? w' ⟨yb, 2, none⟩ = some (Value.bool true) ∧ (World.heap w')[xb]? = some (scO s k true) ∧ Below w9.heap.size w9 w'))
                  have H1 := Lib.hid (⟨g1, g2, M.rx, (Below.refl _ _).drew⟩ : w9.drew.cell? ⟨yb, 1, none⟩ = some (Value.int .i64 (k : Nat)) ∧ w9.drew.cell? ⟨yb, 2, none⟩ = some (Value.bool true) ∧ w9.drew.heap[xb]? = some (scO s k true) ∧ Below w9.heap.size w9 w9.drew)
                  clear hE
                  go_wp2_with fail
                  go_region_held3 (fun u => World.cell? u ⟨yb, 1, none⟩ = some (Value.int .i64 (k : Nat)) ∧ World.cell? u ⟨yb, 2, none⟩ = some (Value.bool true) ∧ (World.heap u)[xb]? = some (scO s k true) ∧ Below w9.heap.size w9 u)
                    (first | exact H1.out | assumption)
                    (first | (go_at_call 19; refine (HO.out _ (by assumption)).mono ?_; rintro e1 w2 ⟨rfl, hs1⟩) | (go_at_call 20; refine (HE.out _ (by assumption)).mono ?_; rintro e1 w2 ⟨rfl, hs1⟩))
                  go_wp2_with fail
                  go_roundw
                  case rel => exact ⟨i + 1, k, true, by omega, KLE, by go_num, Lib.hid (M.on hs1.2.2.2)⟩
                  case measure => simp [intOf]; omega
              · have n3 := hkd
                by_cases hkd : kd = 4
                · have e0 : (kd == 0) = false := beq_eq_false_iff_ne.2 n0
                  have e1 : (kd == 1) = false := beq_eq_false_iff_ne.2 n1
                  have e2 : (kd == 2) = false := beq_eq_false_iff_ne.2 n2
                  have e3 : (kd == 3) = false := beq_eq_false_iff_ne.2 n3
                  have e4 : (kd == 4) = true := beq_iff_eq.2 hkd
                  clear hkd
                  go_wp2_with fail
                  refine (xe_all M.out.rx).mono ?_
                  rintro e w3 ⟨rfl, r3, b3⟩
                  have M3 := M.out.go r3 b3 xl (by omega)
                  have KLE := hk
                  have RR := Lib.hid (fun u => re_all s k b u)
                  generalize feB b s k = B at *
                  clear r3 b3 M y0 y1 y2 z0 z1 z2 yl c0 c1
                  obtain ⟨y0, y1, y2, z0, z1, z2, yl⟩ := st_facts M3.ry
                  go_wp2_with fail
                  refine (RR.out _).mono ?_
                  rintro e w4 ⟨rfl, b4⟩
                  have M4 := M3.on b4
                  clear M3 b4 y0 y1 y2 z0 z1 z2 yl
                  obtain ⟨y0, y1, y2, z0, z1, z2, yl⟩ := st_facts M4.ry
                  have M := M4.put (by have := yx; omega) (by omega)
                  go_wp2_with fail
                  obtain ⟨w9, hw9⟩ : ∃ w9, w9 = ((w4.setCell ⟨yb, 0, none⟩ (.string s)).setCell ⟨yb, 1, none⟩ (.int .i64 k)).setCell ⟨yb, 2, none⟩ (.bool B) := ⟨_, rfl⟩
                  rw [← hw9] at M ⊢
                  clear hw9 y0 y1 y2 z0 z1 z2 yl M4
                  obtain ⟨E, qE, hE⟩ := err_is (S := s) (b := xb) (k := k) (bad := B)
                  obtain ⟨g0, g1, g2, -, -, -, -⟩ := st_facts M.ry
                  have HO := Lib.hid (fun u (hu : World.cell? u ⟨yb, 1, none⟩ = some (Value.int .i64 (k : Nat)) ∧ World.cell? u ⟨yb, 2, none⟩ = some (Value.bool B) ∧ (World.heap u)[xb]? = some (scO s k B) ∧ Below w9.heap.size w9 u) => (off_any hu.2.2.1).mono fun e w' ⟨h1, h2⟩ => (⟨h1, cell_below hu.1 h2, cell_below hu.2.1 h2, row_kept hu.2.2.1 h2, below_on hu.2.2.2 h2⟩ : e = Ending.returned (.int .i64 (k : Nat)) ∧ World.cell? w' ⟨yb, 1, none⟩ = some (Value.int .i64 (k : Nat)) ∧ World.cell? w' ⟨yb, 2, none⟩ = some (Value.bool B) ∧ (World.heap w')[xb]? = some (scO s k B) ∧ Below w9.heap.size w9 w'))
                  have HE := Lib.hid (fun u (hu : World.cell? u ⟨yb, 1, none⟩ = some (Value.int .i64 (k : Nat)) ∧ World.cell? u ⟨yb, 2, none⟩ = some (Value.bool B) ∧ (World.heap u)[xb]? = some (scO s k B) ∧ Below w9.heap.size w9 u) => (hE hu.2.2.1).mono fun e w' ⟨h1, h2⟩ => (⟨h1, cell_below hu.1 h2, cell_below hu.2.1 h2, row_kept hu.2.2.1 h2, below_on hu.2.2.2 h2⟩ : e = Ending.returned (.int .i64 E) ∧ World.cell? w' ⟨yb, 1, none⟩ = some (Value.int .i64 (k : Nat)) ∧ World.cell? w' ⟨yb, 2, none⟩ = some (Value.bool B) ∧ (World.heap w')[xb]? = some (scO s k B) ∧ Below w9.heap.size w9 w'))
                  have H1 := Lib.hid (⟨g1, g2, M.rx, (Below.refl _ _).drew⟩ : w9.drew.cell? ⟨yb, 1, none⟩ = some (Value.int .i64 (k : Nat)) ∧ w9.drew.cell? ⟨yb, 2, none⟩ = some (Value.bool B) ∧ w9.drew.heap[xb]? = some (scO s k B) ∧ Below w9.heap.size w9 w9.drew)
                  clear hE
                  go_wp2_with fail
                  go_region_held3 (fun u => World.cell? u ⟨yb, 1, none⟩ = some (Value.int .i64 (k : Nat)) ∧ World.cell? u ⟨yb, 2, none⟩ = some (Value.bool B) ∧ (World.heap u)[xb]? = some (scO s k B) ∧ Below w9.heap.size w9 u)
                    (first | exact H1.out | assumption)
                    (first | (go_at_call 19; refine (HO.out _ (by assumption)).mono ?_; rintro e1 w2 ⟨rfl, hs1⟩) | (go_at_call 20; refine (HE.out _ (by assumption)).mono ?_; rintro e1 w2 ⟨rfl, hs1⟩))
                  go_wp2_with fail
                  go_roundw
                  case rel => exact ⟨i + 1, k, B, by omega, KLE, by go_num, Lib.hid (M.on hs1.2.2.2)⟩
                  case measure => simp [intOf]; omega
                · have n4 := hkd
                  have e0 : (kd == 0) = false := beq_eq_false_iff_ne.2 n0
                  have e1 : (kd == 1) = false := beq_eq_false_iff_ne.2 n1
                  have e2 : (kd == 2) = false := beq_eq_false_iff_ne.2 n2
                  have e3 : (kd == 3) = false := beq_eq_false_iff_ne.2 n3
                  have e4 : (kd == 4) = false := beq_eq_false_iff_ne.2 n4
                  go_wp2_with fail
                  obtain ⟨w9, hw9⟩ : ∃ w9, w9 = wr := ⟨_, rfl⟩
                  rw [← hw9] at M c0 c1 y0 y1 y2 z0 z1 z2 yl ⊢
                  have M9 := M.out
                  clear M
                  have M := M9
                  clear M9 hw9
                  have KLE := hk
                  obtain ⟨E, qE, hE⟩ := err_is (S := s) (b := xb) (k := k) (bad := b)
                  obtain ⟨g0, g1, g2, -, -, -, -⟩ := st_facts M.ry
                  have HO := Lib.hid (fun u (hu : World.cell? u ⟨yb, 1, none⟩ = some (Value.int .i64 (k : Nat)) ∧ World.cell? u ⟨yb, 2, none⟩ = some (Value.bool b) ∧ (World.heap u)[xb]? = some (scO s k b) ∧ Below w9.heap.size w9 u) => (off_any hu.2.2.1).mono fun e w' ⟨h1, h2⟩ => (⟨h1, cell_below hu.1 h2, cell_below hu.2.1 h2, row_kept hu.2.2.1 h2, below_on hu.2.2.2 h2⟩ : e = Ending.returned (.int .i64 (k : Nat)) ∧ World.cell? w' ⟨yb, 1, none⟩ = some (Value.int .i64 (k : Nat)) ∧ World.cell? w' ⟨yb, 2, none⟩ = some (Value.bool b) ∧ (World.heap w')[xb]? = some (scO s k b) ∧ Below w9.heap.size w9 w'))
                  have HE := Lib.hid (fun u (hu : World.cell? u ⟨yb, 1, none⟩ = some (Value.int .i64 (k : Nat)) ∧ World.cell? u ⟨yb, 2, none⟩ = some (Value.bool b) ∧ (World.heap u)[xb]? = some (scO s k b) ∧ Below w9.heap.size w9 u) => (hE hu.2.2.1).mono fun e w' ⟨h1, h2⟩ => (⟨h1, cell_below hu.1 h2, cell_below hu.2.1 h2, row_kept hu.2.2.1 h2, below_on hu.2.2.2 h2⟩ : e = Ending.returned (.int .i64 E) ∧ World.cell? w' ⟨yb, 1, none⟩ = some (Value.int .i64 (k : Nat)) ∧ World.cell? w' ⟨yb, 2, none⟩ = some (Value.bool b) ∧ (World.heap w')[xb]? = some (scO s k b) ∧ Below w9.heap.size w9 w'))
                  have H1 := Lib.hid (⟨g1, g2, M.rx, (Below.refl _ _).drew⟩ : w9.drew.cell? ⟨yb, 1, none⟩ = some (Value.int .i64 (k : Nat)) ∧ w9.drew.cell? ⟨yb, 2, none⟩ = some (Value.bool b) ∧ w9.drew.heap[xb]? = some (scO s k b) ∧ Below w9.heap.size w9 w9.drew)
                  clear hE
                  go_wp2_with fail
                  go_region_held3 (fun u => World.cell? u ⟨yb, 1, none⟩ = some (Value.int .i64 (k : Nat)) ∧ World.cell? u ⟨yb, 2, none⟩ = some (Value.bool b) ∧ (World.heap u)[xb]? = some (scO s k b) ∧ Below w9.heap.size w9 u)
                    (first | exact H1.out | assumption)
                    (first | (go_at_call 19; refine (HO.out _ (by assumption)).mono ?_; rintro e1 w2 ⟨rfl, hs1⟩) | (go_at_call 20; refine (HE.out _ (by assumption)).mono ?_; rintro e1 w2 ⟨rfl, hs1⟩))
                  go_wp2_with fail
                  go_roundw
                  case rel => exact ⟨i + 1, k, b, by omega, KLE, by go_num, Lib.hid (M.on hs1.2.2.2)⟩
                  case measure => simp [intOf]; omega
      · have cl0 := cl
        by_cases cl : 1000 < wk
        · have k0 : decide (wk < 0) = false := dfalse cl0
          have k1 : decide (1000 < wk) = true := dtrue cl
          by_cases hkd : kd = 0
          · have e0 : (kd == 0) = true := beq_iff_eq.2 hkd
            clear hkd
            have HWD := Lib.hid (fun u => wds_any (0) (by omega) u)
            have WN := wds_n (0)
            generalize wl (0) = ws at *
            have hw0 := HWD.out
            go_wp2_with fail
            refine (hw0 _).mono ?_
            rintro e w2 ⟨rfl, g2, b2⟩
            have M2 := M.out.on b2
            have gne : wr.heap.size ≠ xb := by have := row_lt M.out.rx; omega
            go_wp2_with fail
            refine (xw_all M2.rx hk ss g2 gne WN).mono ?_
            rintro e w3 ⟨rfl, r3, b3⟩
            have M3 := M2.go r3 b3 xl (by omega)
            have KLE := fwK_le b hk ws
            have RW := Lib.hid (fun (u : World) (g cap : Nat) (h : StrsIn g cap ws u) => rw_all s k b u hk ss h WN)
            generalize fwK b s k ws = K at *
            generalize fwB b s k ws = B at *
            generalize fwI b s k ws = I at *
            have HR := fun (u : World) (g : Nat) (h : StrsIn g ws.length ws u) => RW.out u g ws.length h
            clear g2 b2 r3 b3 M2 gne hw0 M RW
            obtain ⟨y0, y1, y2, z0, z1, z2, yl⟩ := st_facts M3.ry
            go_wp2_with fail
            refine wm_region _ s k b K B I _ yb ws _ _ _ _ _ _ _ _ _ _ _ _ _ _ _ _ _ _ _ _ _ _ _ _ _ _ _ _ _ _ _ _ _ _ _ _ _ _ _ _ _ _ _ _ _ _ _ _ _ _ _ _ _ _ _ _ _ _ _ _ _ _ _ _ _ _ _ _ _ _ _ _ _ _ _ _ _ _ _ _ _ _ _ _ _ _ _ _ _ _ _ _ _ _ _ _ _ _ _ _ _ _ _ _ _ _ _ _ _ _ _ _ _ _ _ _ _ _ _ _ _ _ _ _ _ _ _ _ _ _ _ _ _ _ _ _ _ _ _ _ w3 HWD.out HR (fun _ a d _ _ h => by cases d <;> exact h) yl y0 y1 y2 (fun zb x69 w8 hb8 hz8 rz8 => ?_) _
            clear y0 y1 y2 z0 z1 z2 yl HR HWD
            have M4 := M3.on hb8
            obtain ⟨y0, y1, y2, z0, z1, z2, yl⟩ := st_facts M4.ry
            obtain ⟨a0, a1, a2, -, -, -, -⟩ := st_facts rz8
            have M := M4.put (by omega) (by omega)
            go_wp2_with fail
            obtain ⟨w9, hw9⟩ : ∃ w9, w9 = ((w8.setCell ⟨yb, 0, none⟩ (.string s)).setCell ⟨yb, 1, none⟩ (.int .i64 K)).setCell ⟨yb, 2, none⟩ (.bool B) := ⟨_, rfl⟩
            rw [← hw9] at M ⊢
            clear hw9 y0 y1 y2 z0 z1 z2 yl a0 a1 a2 M3 M4 hb8 rz8
            obtain ⟨E, qE, hE⟩ := err_is (S := s) (b := xb) (k := K) (bad := B)
            obtain ⟨g0, g1, g2, -, -, -, -⟩ := st_facts M.ry
            have HO := Lib.hid (fun u (hu : World.cell? u ⟨yb, 1, none⟩ = some (Value.int .i64 (K : Nat)) ∧ World.cell? u ⟨yb, 2, none⟩ = some (Value.bool B) ∧ (World.heap u)[xb]? = some (scO s K B) ∧ Below w9.heap.size w9 u) => (off_any hu.2.2.1).mono fun e w' ⟨h1, h2⟩ => (⟨h1, cell_below hu.1 h2, cell_below hu.2.1 h2, row_kept hu.2.2.1 h2, below_on hu.2.2.2 h2⟩ : e = Ending.returned (.int .i64 (K : Nat)) ∧ World.cell? w' ⟨yb, 1, none⟩ = some (Value.int .i64 (K : Nat)) ∧ World.cell? w' ⟨yb, 2, none⟩ = some (Value.bool B) ∧ (World.heap w')[xb]? = some (scO s K B) ∧ Below w9.heap.size w9 w'))
            have HE := Lib.hid (fun u (hu : World.cell? u ⟨yb, 1, none⟩ = some (Value.int .i64 (K : Nat)) ∧ World.cell? u ⟨yb, 2, none⟩ = some (Value.bool B) ∧ (World.heap u)[xb]? = some (scO s K B) ∧ Below w9.heap.size w9 u) => (hE hu.2.2.1).mono fun e w' ⟨h1, h2⟩ => (⟨h1, cell_below hu.1 h2, cell_below hu.2.1 h2, row_kept hu.2.2.1 h2, below_on hu.2.2.2 h2⟩ : e = Ending.returned (.int .i64 E) ∧ World.cell? w' ⟨yb, 1, none⟩ = some (Value.int .i64 (K : Nat)) ∧ World.cell? w' ⟨yb, 2, none⟩ = some (Value.bool B) ∧ (World.heap w')[xb]? = some (scO s K B) ∧ Below w9.heap.size w9 w'))
            have H1 := Lib.hid (⟨g1, g2, M.rx, (Below.refl _ _).drew⟩ : w9.drew.cell? ⟨yb, 1, none⟩ = some (Value.int .i64 (K : Nat)) ∧ w9.drew.cell? ⟨yb, 2, none⟩ = some (Value.bool B) ∧ w9.drew.heap[xb]? = some (scO s K B) ∧ Below w9.heap.size w9 w9.drew)
            clear hE
            go_wp2_with fail
            go_region_held3 (fun u => World.cell? u ⟨yb, 1, none⟩ = some (Value.int .i64 (K : Nat)) ∧ World.cell? u ⟨yb, 2, none⟩ = some (Value.bool B) ∧ (World.heap u)[xb]? = some (scO s K B) ∧ Below w9.heap.size w9 u)
              (first | exact H1.out | assumption)
              (first | (go_at_call 19; refine (HO.out _ (by assumption)).mono ?_; rintro e1 w2 ⟨rfl, hs1⟩) | (go_at_call 20; refine (HE.out _ (by assumption)).mono ?_; rintro e1 w2 ⟨rfl, hs1⟩))
            go_wp2_with fail
            go_roundw
            case rel => exact ⟨i + 1, K, B, by omega, KLE, by go_num, Lib.hid (M.on hs1.2.2.2)⟩
            case measure => simp [intOf]; omega
          · have n0 := hkd
            by_cases hkd : kd = 1
            · have e0 : (kd == 0) = false := beq_eq_false_iff_ne.2 n0
              have e1 : (kd == 1) = true := beq_iff_eq.2 hkd
              clear hkd
              go_wp2_with fail
              refine (xn_all M.out.rx hk ss).mono ?_
              rintro e w3 ⟨rfl, r3, b3⟩
              have M3 := M.out.go r3 b3 xl (by omega)
              have KLE := fnK_le b hk
              have RR := Lib.hid (fun u => rn_all s k b u ss)
              generalize fnK b s k = K at *
              generalize fnB b s k = B at *
              generalize fnV b s k = V at *
              clear r3 b3 M y0 y1 y2 z0 z1 z2 yl c0 c1
              obtain ⟨y0, y1, y2, z0, z1, z2, yl⟩ := st_facts M3.ry
              go_wp2_with fail
              refine (RR.out _).mono ?_
              rintro e w4 ⟨rfl, b4⟩
              have M4 := M3.on b4
              have M5 := M4.on (al1 w4 (stO s K B))
              clear M3 b4 y0 y1 y2 z0 z1 z2 yl
              obtain ⟨y0, y1, y2, z0, z1, z2, yl⟩ := st_facts M4.ry
              have M := M5.put (by have := yx; omega) (by omega)
              go_wp2_with fail
              obtain ⟨w9, hw9⟩ : ∃ w9, w9 = (((w4.alloc (stO s K B)).setCell ⟨yb, 0, none⟩ (.string s)).setCell ⟨yb, 1, none⟩ (.int .i64 K)).setCell ⟨yb, 2, none⟩ (.bool B) := ⟨_, rfl⟩
              rw [← hw9] at M
              first
                | rw [← hw9]
                | (rw [show ((((w4.setCell ⟨yb, 0, none⟩ (.string s)).setCell ⟨yb, 1, none⟩ (.int .i64 K)).setCell ⟨yb, 2, none⟩ (.bool B)).alloc (stO s K B)) = w9 from by rw [hw9]; go_simp])
              clear hw9 y0 y1 y2 z0 z1 z2 yl M4 M5
              obtain ⟨E, qE, hE⟩ := err_is (S := s) (b := xb) (k := K) (bad := B)
              obtain ⟨g0, g1, g2, -, -, -, -⟩ := st_facts M.ry
              have HO := Lib.hid (fun u (hu : World.cell? u ⟨yb, 1, none⟩ = some (Value.int .i64 (K : Nat)) ∧ World.cell? u ⟨yb, 2, none⟩ = some (Value.bool B) ∧ (World.heap u)[xb]? = some (scO s K B) ∧ Below w9.heap.size w9 u) => (off_any hu.2.2.1).mono fun e w' ⟨h1, h2⟩ => (⟨h1, cell_below hu.1 h2, cell_below hu.2.1 h2, row_kept hu.2.2.1 h2, below_on hu.2.2.2 h2⟩ : e = Ending.returned (.int .i64 (K : Nat)) ∧ World.cell? w' ⟨yb, 1, none⟩ = some (Value.int .i64 (K : Nat)) ∧ World.cell? w' ⟨yb, 2, none⟩ = some (Value.bool B) ∧ (World.heap w')[xb]? = some (scO s K B) ∧ Below w9.heap.size w9 w'))
              have HE := Lib.hid (fun u (hu : World.cell? u ⟨yb, 1, none⟩ = some (Value.int .i64 (K : Nat)) ∧ World.cell? u ⟨yb, 2, none⟩ = some (Value.bool B) ∧ (World.heap u)[xb]? = some (scO s K B) ∧ Below w9.heap.size w9 u) => (hE hu.2.2.1).mono fun e w' ⟨h1, h2⟩ => (⟨h1, cell_below hu.1 h2, cell_below hu.2.1 h2, row_kept hu.2.2.1 h2, below_on hu.2.2.2 h2⟩ : e = Ending.returned (.int .i64 E) ∧ World.cell? w' ⟨yb, 1, none⟩ = some (Value.int .i64 (K : Nat)) ∧ World.cell? w' ⟨yb, 2, none⟩ = some (Value.bool B) ∧ (World.heap w')[xb]? = some (scO s K B) ∧ Below w9.heap.size w9 w'))
              have H1 := Lib.hid (⟨g1, g2, M.rx, (Below.refl _ _).drew⟩ : w9.drew.cell? ⟨yb, 1, none⟩ = some (Value.int .i64 (K : Nat)) ∧ w9.drew.cell? ⟨yb, 2, none⟩ = some (Value.bool B) ∧ w9.drew.heap[xb]? = some (scO s K B) ∧ Below w9.heap.size w9 w9.drew)
              clear hE
              go_wp2_with fail
              go_region_held3 (fun u => World.cell? u ⟨yb, 1, none⟩ = some (Value.int .i64 (K : Nat)) ∧ World.cell? u ⟨yb, 2, none⟩ = some (Value.bool B) ∧ (World.heap u)[xb]? = some (scO s K B) ∧ Below w9.heap.size w9 u)
                (first | exact H1.out | assumption)
                (first | (go_at_call 19; refine (HO.out _ (by assumption)).mono ?_; rintro e1 w2 ⟨rfl, hs1⟩) | (go_at_call 20; refine (HE.out _ (by assumption)).mono ?_; rintro e1 w2 ⟨rfl, hs1⟩))
              go_wp2_with fail
              go_roundw
              case rel => exact ⟨i + 1, K, B, by omega, KLE, by go_num, Lib.hid (M.on hs1.2.2.2)⟩
              case measure => simp [intOf]; omega
            · have n1 := hkd
              by_cases hkd : kd = 2
              · have e0 : (kd == 0) = false := beq_eq_false_iff_ne.2 n0
                have e1 : (kd == 1) = false := beq_eq_false_iff_ne.2 n1
                have e2 : (kd == 2) = true := beq_iff_eq.2 hkd
                clear hkd
                go_wp2_with fail
                refine (xi_all M.out.rx hk ss).mono ?_
                rintro e w3 ⟨rfl, r3, b3⟩
                have M3 := M.out.go r3 b3 xl (by omega)
                have KLE := fiK_le b hk
                have RR := Lib.hid (fun u => ri_all s k b u ss)
                generalize fiK b s k = K at *
                generalize fiB b s k = B at *
                generalize fiV b s k = V at *
                clear r3 b3 M y0 y1 y2 z0 z1 z2 yl c0 c1
                obtain ⟨y0, y1, y2, z0, z1, z2, yl⟩ := st_facts M3.ry
                go_wp2_with fail
                refine (RR.out _).mono ?_
                rintro e w4 ⟨rfl, b4⟩
                have M4 := M3.on b4
                have M5 := M4.on (al1 w4 (stO s K B))
                clear M3 b4 y0 y1 y2 z0 z1 z2 yl
                obtain ⟨y0, y1, y2, z0, z1, z2, yl⟩ := st_facts M4.ry
                have M := M5.put (by have := yx; omega) (by omega)
                go_wp2_with fail
                obtain ⟨w9, hw9⟩ : ∃ w9, w9 = (((w4.alloc (stO s K B)).setCell ⟨yb, 0, none⟩ (.string s)).setCell ⟨yb, 1, none⟩ (.int .i64 K)).setCell ⟨yb, 2, none⟩ (.bool B) := ⟨_, rfl⟩
                rw [← hw9] at M
                first
                  | rw [← hw9]
                  | (rw [show ((((w4.setCell ⟨yb, 0, none⟩ (.string s)).setCell ⟨yb, 1, none⟩ (.int .i64 K)).setCell ⟨yb, 2, none⟩ (.bool B)).alloc (stO s K B)) = w9 from by rw [hw9]; go_simp])
                clear hw9 y0 y1 y2 z0 z1 z2 yl M4 M5
                obtain ⟨E, qE, hE⟩ := err_is (S := s) (b := xb) (k := K) (bad := B)
                obtain ⟨g0, g1, g2, -, -, -, -⟩ := st_facts M.ry
                have HO := Lib.hid (fun u (hu : World.cell? u ⟨yb, 1, none⟩ = some (Value.int .i64 (K : Nat)) ∧ World.cell? u ⟨yb, 2, none⟩ = some (Value.bool B) ∧ (World.heap u)[xb]? = some (scO s K B) ∧ Below w9.heap.size w9 u) => (off_any hu.2.2.1).mono fun e w' ⟨h1, h2⟩ => (⟨h1, cell_below hu.1 h2, cell_below hu.2.1 h2, row_kept hu.2.2.1 h2, below_on hu.2.2.2 h2⟩ : e = Ending.returned (.int .i64 (K : Nat)) ∧ World.cell? w' ⟨yb, 1, none⟩ = some (Value.int .i64 (K : Nat)) ∧ World.cell? w' ⟨yb, 2, none⟩ = some (Value.bool B) ∧ (World.heap w')[xb]? = some (scO s K B) ∧ Below w9.heap.size w9 w'))
                have HE := Lib.hid (fun u (hu : World.cell? u ⟨yb, 1, none⟩ = some (Value.int .i64 (K : Nat)) ∧ World.cell? u ⟨yb, 2, none⟩ = some (Value.bool B) ∧ (World.heap u)[xb]? = some (scO s K B) ∧ Below w9.heap.size w9 u) => (hE hu.2.2.1).mono fun e w' ⟨h1, h2⟩ => (⟨h1, cell_below hu.1 h2, cell_below hu.2.1 h2, row_kept hu.2.2.1 h2, below_on hu.2.2.2 h2⟩ : e = Ending.returned (.int .i64 E) ∧ World.cell? w' ⟨yb, 1, none⟩ = some (Value.int .i64 (K : Nat)) ∧ World.cell? w' ⟨yb, 2, none⟩ = some (Value.bool B) ∧ (World.heap w')[xb]? = some (scO s K B) ∧ Below w9.heap.size w9 w'))
                have H1 := Lib.hid (⟨g1, g2, M.rx, (Below.refl _ _).drew⟩ : w9.drew.cell? ⟨yb, 1, none⟩ = some (Value.int .i64 (K : Nat)) ∧ w9.drew.cell? ⟨yb, 2, none⟩ = some (Value.bool B) ∧ w9.drew.heap[xb]? = some (scO s K B) ∧ Below w9.heap.size w9 w9.drew)
                clear hE
                go_wp2_with fail
                go_region_held3 (fun u => World.cell? u ⟨yb, 1, none⟩ = some (Value.int .i64 (K : Nat)) ∧ World.cell? u ⟨yb, 2, none⟩ = some (Value.bool B) ∧ (World.heap u)[xb]? = some (scO s K B) ∧ Below w9.heap.size w9 u)
                  (first | exact H1.out | assumption)
                  (first | (go_at_call 19; refine (HO.out _ (by assumption)).mono ?_; rintro e1 w2 ⟨rfl, hs1⟩) | (go_at_call 20; refine (HE.out _ (by assumption)).mono ?_; rintro e1 w2 ⟨rfl, hs1⟩))
                go_wp2_with fail
                go_roundw
                case rel => exact ⟨i + 1, K, B, by omega, KLE, by go_num, Lib.hid (M.on hs1.2.2.2)⟩
                case measure => simp [intOf]; omega
              · have n2 := hkd
                by_cases hkd : kd = 3
                · have e0 : (kd == 0) = false := beq_eq_false_iff_ne.2 n0
                  have e1 : (kd == 1) = false := beq_eq_false_iff_ne.2 n1
                  have e2 : (kd == 2) = false := beq_eq_false_iff_ne.2 n2
                  have e3 : (kd == 3) = true := beq_iff_eq.2 hkd
                  clear hkd
                  cases b
                  · by_cases hks : k < s.size
                    · have f1 : decide (k < s.size) = true := dtrue hks
                      have x1 := fun u => idx_at25 (S := s) (i := k) (x := (k : Int)) rfl hks u
                      have hp := xp_all M.out.rx hk
                      rw [show fpV false s k = bt s k from nx_lt hks] at hp
                      generalize bt s k = z at *
                      go_wp2_with fail
                      refine hp.mono ?_
                      rintro e w9 ⟨rfl, b3⟩
                      clear hp x1
                      have M9 := M.out.on b3
                      clear M y0 y1 y2 z0 z1 z2 yl c0 c1 b3
                      have M := M9
                      clear M9
                      have KLE := hk
                      go_wp2_with fail
                      obtain ⟨E, qE, hE⟩ := err_is (S := s) (b := xb) (k := k) (bad := false)
                      obtain ⟨g0, g1, g2, -, -, -, -⟩ := st_facts M.ry
                      have HO := Lib.hid (fun u (hu : World.cell? u ⟨yb, 1, none⟩ = some (Value.int .i64 (k : Nat)) ∧ World.cell? u ⟨yb, 2, none⟩ = some (Value.bool false) ∧ (World.heap u)[xb]? = some (scO s k false) ∧ Below w9.heap.size w9 u) => (off_any hu.2.2.1).mono fun e w' ⟨h1, h2⟩ => (⟨h1, cell_below hu.1 h2, cell_below hu.2.1 h2, row_kept hu.2.2.1 h2, below_on hu.2.2.2 h2⟩ : e = Ending.returned (.int .i64 (k : Nat)) ∧ World.cell? w' ⟨yb, 1, none⟩ = some (Value.int .i64 (k : Nat)) ∧ World.cell? w' ⟨yb, 2, none⟩ = some (Value.bool false) ∧ (World.heap w')[xb]? = some (scO s k false) ∧ Below w9.heap.size w9 w'))
                      have HE := Lib.hid (fun u (hu : World.cell? u ⟨yb, 1, none⟩ = some (Value.int .i64 (k : Nat)) ∧ World.cell? u ⟨yb, 2, none⟩ = some (Value.bool false) ∧ (World.heap u)[xb]? = some (scO s k false) ∧ Below w9.heap.size w9 u) => (hE hu.2.2.1).mono fun e w' ⟨h1, h2⟩ => (⟨h1, cell_below hu.1 h2, cell_below hu.2.1 h2, row_kept hu.2.2.1 h2, below_on hu.2.2.2 h2⟩ : e = Ending.returned (.int .i64 E) ∧ World.cell? w' ⟨yb, 1, none⟩ = some (Value.int .i64 (k : Nat)) ∧ World.cell? w' ⟨yb, 2, none⟩ = some (Value.bool false) ∧ (World.heap w')[xb]? = some (scO s k false) ∧ Below w9.heap.size w9 w'))
                      have H1 := Lib.hid (⟨g1, g2, M.rx, (Below.refl _ _).drew⟩ : w9.drew.cell? ⟨yb, 1, none⟩ = some (Value.int .i64 (k : Nat)) ∧ w9.drew.cell? ⟨yb, 2, none⟩ = some (Value.bool false) ∧ w9.drew.heap[xb]? = some (scO s k false) ∧ Below w9.heap.size w9 w9.drew)
                      clear hE
                      go_wp2_with fail
                      go_region_held3 (fun u => World.cell? u ⟨yb, 1, none⟩ = some (Value.int .i64 (k : Nat)) ∧ World.cell? u ⟨yb, 2, none⟩ = some (Value.bool false) ∧ (World.heap u)[xb]? = some (scO s k false) ∧ Below w9.heap.size w9 u)
                        (first | exact H1.out | assumption)
                        (first | (go_at_call 19; refine (HO.out _ (by assumption)).mono ?_; rintro e1 w2 ⟨rfl, hs1⟩) | (go_at_call 20; refine (HE.out _ (by assumption)).mono ?_; rintro e1 w2 ⟨rfl, hs1⟩))
                      go_wp2_with fail
                      go_roundw
                      case rel => exact ⟨i + 1, k, false, by omega, KLE, by go_num, Lib.hid (M.on hs1.2.2.2)⟩
                      case measure => simp [intOf]; omega
                    · have f1 : decide (k < s.size) = false := dfalse hks
                      have hp := xp_all M.out.rx hk
                      rw [show fpV false s k = 0 from nx_ge hks] at hp
                      go_wp2_with fail
                      refine hp.mono ?_
                      rintro e w9 ⟨rfl, b3⟩
                      clear hp
                      have M9 := M.out.on b3
                      clear M y0 y1 y2 z0 z1 z2 yl c0 c1 b3
                      have M := M9
                      clear M9
                      have KLE := hk
                      go_wp2_with fail
                      obtain ⟨E, qE, hE⟩ := err_is (S := s) (b := xb) (k := k) (bad := false)
                      obtain ⟨g0, g1, g2, -, -, -, -⟩ := st_facts M.ry
                      have HO := Lib.hid (fun u (hu : World.cell? u ⟨yb, 1, none⟩ = some (Value.int .i64 (k : Nat)) ∧ World.cell? u ⟨yb, 2, none⟩ = some (Value.bool false) ∧ (World.heap u)[xb]? = some (scO s k false) ∧ Below w9.heap.size w9 u) => (off_any hu.2.2.1).mono fun e w' ⟨h1, h2⟩ => (⟨h1, cell_below hu.1 h2, cell_below hu.2.1 h2, row_kept hu.2.2.1 h2, below_on hu.2.2.2 h2⟩ : e = Ending.returned (.int .i64 (k : Nat)) ∧ World.cell? w' ⟨yb, 1, none⟩ = some (Value.int .i64 (k : Nat)) ∧ World.cell? w' ⟨yb, 2, none⟩ = some (Value.bool false) ∧ (World.heap w')[xb]? = some (scO s k false) ∧ Below w9.heap.size w9 w'))
                      have HE := Lib.hid (fun u (hu : World.cell? u ⟨yb, 1, none⟩ = some (Value.int .i64 (k : Nat)) ∧ World.cell? u ⟨yb, 2, none⟩ = some (Value.bool false) ∧ (World.heap u)[xb]? = some (scO s k false) ∧ Below w9.heap.size w9 u) => (hE hu.2.2.1).mono fun e w' ⟨h1, h2⟩ => (⟨h1, cell_below hu.1 h2, cell_below hu.2.1 h2, row_kept hu.2.2.1 h2, below_on hu.2.2.2 h2⟩ : e = Ending.returned (.int .i64 E) ∧ World.cell? w' ⟨yb, 1, none⟩ = some (Value.int .i64 (k : Nat)) ∧ World.cell? w' ⟨yb, 2, none⟩ = some (Value.bool false) ∧ (World.heap w')[xb]? = some (scO s k false) ∧ Below w9.heap.size w9 w'))
                      have H1 := Lib.hid (⟨g1, g2, M.rx, (Below.refl _ _).drew⟩ : w9.drew.cell? ⟨yb, 1, none⟩ = some (Value.int .i64 (k : Nat)) ∧ w9.drew.cell? ⟨yb, 2, none⟩ = some (Value.bool false) ∧ w9.drew.heap[xb]? = some (scO s k false) ∧ Below w9.heap.size w9 w9.drew)
                      clear hE
                      go_wp2_with fail
                      go_region_held3 (fun u => World.cell? u ⟨yb, 1, none⟩ = some (Value.int .i64 (k : Nat)) ∧ World.cell? u ⟨yb, 2, none⟩ = some (Value.bool false) ∧ (World.heap u)[xb]? = some (scO s k false) ∧ Below w9.heap.size w9 u)
                        (first | exact H1.out | assumption)
                        (first | (go_at_call 19; refine (HO.out _ (by assumption)).mono ?_; rintro e1 w2 ⟨rfl, hs1⟩) | (go_at_call 20; refine (HE.out _ (by assumption)).mono ?_; rintro e1 w2 ⟨rfl, hs1⟩))
                      go_wp2_with fail
                      go_roundw
                      case rel => exact ⟨i + 1, k, false, by omega, KLE, by go_num, Lib.hid (M.on hs1.2.2.2)⟩
                      case measure => simp [intOf]; omega
                  · have hp := xp_all M.out.rx hk
                    rw [show fpV true s k = 0 from rfl] at hp
                    go_wp2_with fail
                    refine hp.mono ?_
                    rintro e w9 ⟨rfl, b3⟩
                    clear hp
                    have M9 := M.out.on b3
                    clear M y0 y1 y2 z0 z1 z2 yl c0 c1 b3
                    have M := M9
                    clear M9
                    have KLE := hk
                    go_wp2_with fail
                    obtain ⟨E, qE, hE⟩ := err_is (S := s) (b := xb) (k := k) (bad := true)
                    obtain ⟨g0, g1, g2, -, -, -, -⟩ := st_facts M.ry
                    have HO := Lib.hid (fun u (hu : World.cell? u ⟨yb, 1, none⟩ = some (Value.int .i64 (k : Nat)) ∧ World.cell? u ⟨yb, 2, none⟩ = some (Value.bool true) ∧ (World.heap u)[xb]? = some (scO s k true) ∧ Below w9.heap.size w9 u) => (off_any hu.2.2.1).mono fun e w' ⟨h1, h2⟩ => (⟨h1, cell_below hu.1 h2, cell_below hu.2.1 h2, row_kept hu.2.2.1 h2, below_on hu.2.2.2 h2⟩ : e = Ending.returned (.int .i64 (k : Nat)) ∧ World.cell? w' ⟨yb, 1, none⟩ = some (Value.int .i64 (k : Nat)) ∧ World.cell? w' ⟨yb, 2, none⟩ = some (Value.bool true) ∧ (World.heap w')[xb]? = some (scO s k true) ∧ Below w9.heap.size w9 w'))
                    have HE := Lib.hid (fun u (hu : World.cell? u ⟨yb, 1, none⟩ = some (Value.int .i64 (k : Nat)) ∧ World.cell? u ⟨yb, 2, none⟩ = some (Value.bool true) ∧ (World.heap u)[xb]? = some (scO s k true) ∧ Below w9.heap.size w9 u) => (hE hu.2.2.1).mono fun e w' ⟨h1, h2⟩ => (⟨h1, cell_below hu.1 h2, cell_below hu.2.1 h2, row_kept hu.2.2.1 h2, below_on hu.2.2.2 h2⟩ : e = Ending.returned (.int .i64 E) ∧ World.cell? w' ⟨yb, 1, none⟩ = some (Value.int .i64 (k : Nat)) ∧ World.cell? w' ⟨yb, 2, none⟩ = some (Value.bool true) ∧ (World.heap w')[xb]? = some (scO s k true) ∧ Below w9.heap.size w9 w'))
                    have H1 := Lib.hid (⟨g1, g2, M.rx, (Below.refl _ _).drew⟩ : w9.drew.cell? ⟨yb, 1, none⟩ = some (Value.int .i64 (k : Nat)) ∧ w9.drew.cell? ⟨yb, 2, none⟩ = some (Value.bool true) ∧ w9.drew.heap[xb]? = some (scO s k true) ∧ Below w9.heap.size w9 w9.drew)
                    clear hE
                    go_wp2_with fail
                    go_region_held3 (fun u => World.cell? u ⟨yb, 1, none⟩ = some (Value.int .i64 (k : Nat)) ∧ World.cell? u ⟨yb, 2, none⟩ = some (Value.bool true) ∧ (World.heap u)[xb]? = some (scO s k true) ∧ Below w9.heap.size w9 u)
                      (first | exact H1.out | assumption)
                      (first | (go_at_call 19; refine (HO.out _ (by assumption)).mono ?_; rintro e1 w2 ⟨rfl, hs1⟩) | (go_at_call 20; refine (HE.out _ (by assumption)).mono ?_; rintro e1 w2 ⟨rfl, hs1⟩))
                    go_wp2_with fail
                    go_roundw
                    case rel => exact ⟨i + 1, k, true, by omega, KLE, by go_num, Lib.hid (M.on hs1.2.2.2)⟩
                    case measure => simp [intOf]; omega
                · have n3 := hkd
                  by_cases hkd : kd = 4
                  · have e0 : (kd == 0) = false := beq_eq_false_iff_ne.2 n0
                    have e1 : (kd == 1) = false := beq_eq_false_iff_ne.2 n1
                    have e2 : (kd == 2) = false := beq_eq_false_iff_ne.2 n2
                    have e3 : (kd == 3) = false := beq_eq_false_iff_ne.2 n3
                    have e4 : (kd == 4) = true := beq_iff_eq.2 hkd
                    clear hkd
                    go_wp2_with fail
                    refine (xe_all M.out.rx).mono ?_
                    rintro e w3 ⟨rfl, r3, b3⟩
                    have M3 := M.out.go r3 b3 xl (by omega)
                    have KLE := hk
                    have RR := Lib.hid (fun u => re_all s k b u)
                    generalize feB b s k = B at *
                    clear r3 b3 M y0 y1 y2 z0 z1 z2 yl c0 c1
                    obtain ⟨y0, y1, y2, z0, z1, z2, yl⟩ := st_facts M3.ry
                    go_wp2_with fail
                    refine (RR.out _).mono ?_
                    rintro e w4 ⟨rfl, b4⟩
                    have M4 := M3.on b4
                    clear M3 b4 y0 y1 y2 z0 z1 z2 yl
                    obtain ⟨y0, y1, y2, z0, z1, z2, yl⟩ := st_facts M4.ry
                    have M := M4.put (by have := yx; omega) (by omega)
                    go_wp2_with fail
                    obtain ⟨w9, hw9⟩ : ∃ w9, w9 = ((w4.setCell ⟨yb, 0, none⟩ (.string s)).setCell ⟨yb, 1, none⟩ (.int .i64 k)).setCell ⟨yb, 2, none⟩ (.bool B) := ⟨_, rfl⟩
                    rw [← hw9] at M ⊢
                    clear hw9 y0 y1 y2 z0 z1 z2 yl M4
                    obtain ⟨E, qE, hE⟩ := err_is (S := s) (b := xb) (k := k) (bad := B)
                    obtain ⟨g0, g1, g2, -, -, -, -⟩ := st_facts M.ry
                    have HO := Lib.hid (fun u (hu : World.cell? u ⟨yb, 1, none⟩ = some (Value.int .i64 (k : Nat)) ∧ World.cell? u ⟨yb, 2, none⟩ = some (Value.bool B) ∧ (World.heap u)[xb]? = some (scO s k B) ∧ Below w9.heap.size w9 u) => (off_any hu.2.2.1).mono fun e w' ⟨h1, h2⟩ => (⟨h1, cell_below hu.1 h2, cell_below hu.2.1 h2, row_kept hu.2.2.1 h2, below_on hu.2.2.2 h2⟩ : e = Ending.returned (.int .i64 (k : Nat)) ∧ World.cell? w' ⟨yb, 1, none⟩ = some (Value.int .i64 (k : Nat)) ∧ World.cell? w' ⟨yb, 2, none⟩ = some (Value.bool B) ∧ (World.heap w')[xb]? = some (scO s k B) ∧ Below w9.heap.size w9 w'))
                    have HE := Lib.hid (fun u (hu : World.cell? u ⟨yb, 1, none⟩ = some (Value.int .i64 (k : Nat)) ∧ World.cell? u ⟨yb, 2, none⟩ = some (Value.bool B) ∧ (World.heap u)[xb]? = some (scO s k B) ∧ Below w9.heap.size w9 u) => (hE hu.2.2.1).mono fun e w' ⟨h1, h2⟩ => (⟨h1, cell_below hu.1 h2, cell_below hu.2.1 h2, row_kept hu.2.2.1 h2, below_on hu.2.2.2 h2⟩ : e = Ending.returned (.int .i64 E) ∧ World.cell? w' ⟨yb, 1, none⟩ = some (Value.int .i64 (k : Nat)) ∧ World.cell? w' ⟨yb, 2, none⟩ = some (Value.bool B) ∧ (World.heap w')[xb]? = some (scO s k B) ∧ Below w9.heap.size w9 w'))
                    have H1 := Lib.hid (⟨g1, g2, M.rx, (Below.refl _ _).drew⟩ : w9.drew.cell? ⟨yb, 1, none⟩ = some (Value.int .i64 (k : Nat)) ∧ w9.drew.cell? ⟨yb, 2, none⟩ = some (Value.bool B) ∧ w9.drew.heap[xb]? = some (scO s k B) ∧ Below w9.heap.size w9 w9.drew)
                    clear hE
                    go_wp2_with fail
                    go_region_held3 (fun u => World.cell? u ⟨yb, 1, none⟩ = some (Value.int .i64 (k : Nat)) ∧ World.cell? u ⟨yb, 2, none⟩ = some (Value.bool B) ∧ (World.heap u)[xb]? = some (scO s k B) ∧ Below w9.heap.size w9 u)
                      (first | exact H1.out | assumption)
                      (first | (go_at_call 19; refine (HO.out _ (by assumption)).mono ?_; rintro e1 w2 ⟨rfl, hs1⟩) | (go_at_call 20; refine (HE.out _ (by assumption)).mono ?_; rintro e1 w2 ⟨rfl, hs1⟩))
                    go_wp2_with fail
                    go_roundw
                    case rel => exact ⟨i + 1, k, B, by omega, KLE, by go_num, Lib.hid (M.on hs1.2.2.2)⟩
                    case measure => simp [intOf]; omega
                  · have n4 := hkd
                    have e0 : (kd == 0) = false := beq_eq_false_iff_ne.2 n0
                    have e1 : (kd == 1) = false := beq_eq_false_iff_ne.2 n1
                    have e2 : (kd == 2) = false := beq_eq_false_iff_ne.2 n2
                    have e3 : (kd == 3) = false := beq_eq_false_iff_ne.2 n3
                    have e4 : (kd == 4) = false := beq_eq_false_iff_ne.2 n4
                    go_wp2_with fail
                    obtain ⟨w9, hw9⟩ : ∃ w9, w9 = wr := ⟨_, rfl⟩
                    rw [← hw9] at M c0 c1 y0 y1 y2 z0 z1 z2 yl ⊢
                    have M9 := M.out
                    clear M
                    have M := M9
                    clear M9 hw9
                    have KLE := hk
                    obtain ⟨E, qE, hE⟩ := err_is (S := s) (b := xb) (k := k) (bad := b)
                    obtain ⟨g0, g1, g2, -, -, -, -⟩ := st_facts M.ry
                    have HO := Lib.hid (fun u (hu : World.cell? u ⟨yb, 1, none⟩ = some (Value.int .i64 (k : Nat)) ∧ World.cell? u ⟨yb, 2, none⟩ = some (Value.bool b) ∧ (World.heap u)[xb]? = some (scO s k b) ∧ Below w9.heap.size w9 u) => (off_any hu.2.2.1).mono fun e w' ⟨h1, h2⟩ => (⟨h1, cell_below hu.1 h2, cell_below hu.2.1 h2, row_kept hu.2.2.1 h2, below_on hu.2.2.2 h2⟩ : e = Ending.returned (.int .i64 (k : Nat)) ∧ World.cell? w' ⟨yb, 1, none⟩ = some (Value.int .i64 (k : Nat)) ∧ World.cell? w' ⟨yb, 2, none⟩ = some (Value.bool b) ∧ (World.heap w')[xb]? = some (scO s k b) ∧ Below w9.heap.size w9 w'))
                    have HE := Lib.hid (fun u (hu : World.cell? u ⟨yb, 1, none⟩ = some (Value.int .i64 (k : Nat)) ∧ World.cell? u ⟨yb, 2, none⟩ = some (Value.bool b) ∧ (World.heap u)[xb]? = some (scO s k b) ∧ Below w9.heap.size w9 u) => (hE hu.2.2.1).mono fun e w' ⟨h1, h2⟩ => (⟨h1, cell_below hu.1 h2, cell_below hu.2.1 h2, row_kept hu.2.2.1 h2, below_on hu.2.2.2 h2⟩ : e = Ending.returned (.int .i64 E) ∧ World.cell? w' ⟨yb, 1, none⟩ = some (Value.int .i64 (k : Nat)) ∧ World.cell? w' ⟨yb, 2, none⟩ = some (Value.bool b) ∧ (World.heap w')[xb]? = some (scO s k b) ∧ Below w9.heap.size w9 w'))
                    have H1 := Lib.hid (⟨g1, g2, M.rx, (Below.refl _ _).drew⟩ : w9.drew.cell? ⟨yb, 1, none⟩ = some (Value.int .i64 (k : Nat)) ∧ w9.drew.cell? ⟨yb, 2, none⟩ = some (Value.bool b) ∧ w9.drew.heap[xb]? = some (scO s k b) ∧ Below w9.heap.size w9 w9.drew)
                    clear hE
                    go_wp2_with fail
                    go_region_held3 (fun u => World.cell? u ⟨yb, 1, none⟩ = some (Value.int .i64 (k : Nat)) ∧ World.cell? u ⟨yb, 2, none⟩ = some (Value.bool b) ∧ (World.heap u)[xb]? = some (scO s k b) ∧ Below w9.heap.size w9 u)
                      (first | exact H1.out | assumption)
                      (first | (go_at_call 19; refine (HO.out _ (by assumption)).mono ?_; rintro e1 w2 ⟨rfl, hs1⟩) | (go_at_call 20; refine (HE.out _ (by assumption)).mono ?_; rintro e1 w2 ⟨rfl, hs1⟩))
                    go_wp2_with fail
                    go_roundw
                    case rel => exact ⟨i + 1, k, b, by omega, KLE, by go_num, Lib.hid (M.on hs1.2.2.2)⟩
                    case measure => simp [intOf]; omega
        · have k0 : decide (wk < 0) = false := dfalse cl0
          have k1 : decide (1000 < wk) = false := dfalse cl
          obtain ⟨kk, rfl⟩ : ∃ kk : Nat, wk = (kk : Int) := ⟨wk.toNat, by omega⟩
          by_cases hkd : kd = 0
          · have e0 : (kd == 0) = true := beq_iff_eq.2 hkd
            clear hkd
            have HWD := Lib.hid (fun u => wds_any (kk) (by omega) u)
            have WN := wds_n (kk)
            generalize wl (kk) = ws at *
            have hw0 := HWD.out
            go_wp2_with fail
            refine (hw0 _).mono ?_
            rintro e w2 ⟨rfl, g2, b2⟩
            have M2 := M.out.on b2
            have gne : wr.heap.size ≠ xb := by have := row_lt M.out.rx; omega
            go_wp2_with fail
            refine (xw_all M2.rx hk ss g2 gne WN).mono ?_
            rintro e w3 ⟨rfl, r3, b3⟩
            have M3 := M2.go r3 b3 xl (by omega)
            have KLE := fwK_le b hk ws
            have RW := Lib.hid (fun (u : World) (g cap : Nat) (h : StrsIn g cap ws u) => rw_all s k b u hk ss h WN)
            generalize fwK b s k ws = K at *
            generalize fwB b s k ws = B at *
            generalize fwI b s k ws = I at *
            have HR := fun (u : World) (g : Nat) (h : StrsIn g ws.length ws u) => RW.out u g ws.length h
            clear g2 b2 r3 b3 M2 gne hw0 M RW
            obtain ⟨y0, y1, y2, z0, z1, z2, yl⟩ := st_facts M3.ry
            go_wp2_with fail
            refine wm_region _ s k b K B I _ yb ws _ _ _ _ _ _ _ _ _ _ _ _ _ _ _ _ _ _ _ _ _ _ _ _ _ _ _ _ _ _ _ _ _ _ _ _ _ _ _ _ _ _ _ _ _ _ _ _ _ _ _ _ _ _ _ _ _ _ _ _ _ _ _ _ _ _ _ _ _ _ _ _ _ _ _ _ _ _ _ _ _ _ _ _ _ _ _ _ _ _ _ _ _ _ _ _ _ _ _ _ _ _ _ _ _ _ _ _ _ _ _ _ _ _ _ _ _ _ _ _ _ _ _ _ _ _ _ _ _ _ _ _ _ _ _ _ _ _ _ _ w3 HWD.out HR (fun _ a d _ _ h => by cases d <;> exact h) yl y0 y1 y2 (fun zb x69 w8 hb8 hz8 rz8 => ?_) _
            clear y0 y1 y2 z0 z1 z2 yl HR HWD
            have M4 := M3.on hb8
            obtain ⟨y0, y1, y2, z0, z1, z2, yl⟩ := st_facts M4.ry
            obtain ⟨a0, a1, a2, -, -, -, -⟩ := st_facts rz8
            have M := M4.put (by omega) (by omega)
            go_wp2_with fail
            obtain ⟨w9, hw9⟩ : ∃ w9, w9 = ((w8.setCell ⟨yb, 0, none⟩ (.string s)).setCell ⟨yb, 1, none⟩ (.int .i64 K)).setCell ⟨yb, 2, none⟩ (.bool B) := ⟨_, rfl⟩
            rw [← hw9] at M ⊢
            clear hw9 y0 y1 y2 z0 z1 z2 yl a0 a1 a2 M3 M4 hb8 rz8
            obtain ⟨E, qE, hE⟩ := err_is (S := s) (b := xb) (k := K) (bad := B)
            obtain ⟨g0, g1, g2, -, -, -, -⟩ := st_facts M.ry
            have HO := Lib.hid (fun u (hu : World.cell? u ⟨yb, 1, none⟩ = some (Value.int .i64 (K : Nat)) ∧ World.cell? u ⟨yb, 2, none⟩ = some (Value.bool B) ∧ (World.heap u)[xb]? = some (scO s K B) ∧ Below w9.heap.size w9 u) => (off_any hu.2.2.1).mono fun e w' ⟨h1, h2⟩ => (⟨h1, cell_below hu.1 h2, cell_below hu.2.1 h2, row_kept hu.2.2.1 h2, below_on hu.2.2.2 h2⟩ : e = Ending.returned (.int .i64 (K : Nat)) ∧ World.cell? w' ⟨yb, 1, none⟩ = some (Value.int .i64 (K : Nat)) ∧ World.cell? w' ⟨yb, 2, none⟩ = some (Value.bool B) ∧ (World.heap w')[xb]? = some (scO s K B) ∧ Below w9.heap.size w9 w'))
            have HE := Lib.hid (fun u (hu : World.cell? u ⟨yb, 1, none⟩ = some (Value.int .i64 (K : Nat)) ∧ World.cell? u ⟨yb, 2, none⟩ = some (Value.bool B) ∧ (World.heap u)[xb]? = some (scO s K B) ∧ Below w9.heap.size w9 u) => (hE hu.2.2.1).mono fun e w' ⟨h1, h2⟩ => (⟨h1, cell_below hu.1 h2, cell_below hu.2.1 h2, row_kept hu.2.2.1 h2, below_on hu.2.2.2 h2⟩ : e = Ending.returned (.int .i64 E) ∧ World.cell? w' ⟨yb, 1, none⟩ = some (Value.int .i64 (K : Nat)) ∧ World.cell? w' ⟨yb, 2, none⟩ = some (Value.bool B) ∧ (World.heap w')[xb]? = some (scO s K B) ∧ Below w9.heap.size w9 w'))
            have H1 := Lib.hid (⟨g1, g2, M.rx, (Below.refl _ _).drew⟩ : w9.drew.cell? ⟨yb, 1, none⟩ = some (Value.int .i64 (K : Nat)) ∧ w9.drew.cell? ⟨yb, 2, none⟩ = some (Value.bool B) ∧ w9.drew.heap[xb]? = some (scO s K B) ∧ Below w9.heap.size w9 w9.drew)
            clear hE
            go_wp2_with fail
            go_region_held3 (fun u => World.cell? u ⟨yb, 1, none⟩ = some (Value.int .i64 (K : Nat)) ∧ World.cell? u ⟨yb, 2, none⟩ = some (Value.bool B) ∧ (World.heap u)[xb]? = some (scO s K B) ∧ Below w9.heap.size w9 u)
              (first | exact H1.out | assumption)
              (first | (go_at_call 19; refine (HO.out _ (by assumption)).mono ?_; rintro e1 w2 ⟨rfl, hs1⟩) | (go_at_call 20; refine (HE.out _ (by assumption)).mono ?_; rintro e1 w2 ⟨rfl, hs1⟩))
            go_wp2_with fail
            go_roundw
            case rel => exact ⟨i + 1, K, B, by omega, KLE, by go_num, Lib.hid (M.on hs1.2.2.2)⟩
            case measure => simp [intOf]; omega
          · have n0 := hkd
            by_cases hkd : kd = 1
            · have e0 : (kd == 0) = false := beq_eq_false_iff_ne.2 n0
              have e1 : (kd == 1) = true := beq_iff_eq.2 hkd
              clear hkd
              go_wp2_with fail
              refine (xn_all M.out.rx hk ss).mono ?_
              rintro e w3 ⟨rfl, r3, b3⟩
              have M3 := M.out.go r3 b3 xl (by omega)
              have KLE := fnK_le b hk
              have RR := Lib.hid (fun u => rn_all s k b u ss)
              generalize fnK b s k = K at *
              generalize fnB b s k = B at *
              generalize fnV b s k = V at *
              clear r3 b3 M y0 y1 y2 z0 z1 z2 yl c0 c1
              obtain ⟨y0, y1, y2, z0, z1, z2, yl⟩ := st_facts M3.ry
              go_wp2_with fail
              refine (RR.out _).mono ?_
              rintro e w4 ⟨rfl, b4⟩
              have M4 := M3.on b4
              have M5 := M4.on (al1 w4 (stO s K B))
              clear M3 b4 y0 y1 y2 z0 z1 z2 yl
              obtain ⟨y0, y1, y2, z0, z1, z2, yl⟩ := st_facts M4.ry
              have M := M5.put (by have := yx; omega) (by omega)
              go_wp2_with fail
              obtain ⟨w9, hw9⟩ : ∃ w9, w9 = (((w4.alloc (stO s K B)).setCell ⟨yb, 0, none⟩ (.string s)).setCell ⟨yb, 1, none⟩ (.int .i64 K)).setCell ⟨yb, 2, none⟩ (.bool B) := ⟨_, rfl⟩
              rw [← hw9] at M
              first
                | rw [← hw9]
                | (rw [show ((((w4.setCell ⟨yb, 0, none⟩ (.string s)).setCell ⟨yb, 1, none⟩ (.int .i64 K)).setCell ⟨yb, 2, none⟩ (.bool B)).alloc (stO s K B)) = w9 from by rw [hw9]; go_simp])
              clear hw9 y0 y1 y2 z0 z1 z2 yl M4 M5
              obtain ⟨E, qE, hE⟩ := err_is (S := s) (b := xb) (k := K) (bad := B)
              obtain ⟨g0, g1, g2, -, -, -, -⟩ := st_facts M.ry
              have HO := Lib.hid (fun u (hu : World.cell? u ⟨yb, 1, none⟩ = some (Value.int .i64 (K : Nat)) ∧ World.cell? u ⟨yb, 2, none⟩ = some (Value.bool B) ∧ (World.heap u)[xb]? = some (scO s K B) ∧ Below w9.heap.size w9 u) => (off_any hu.2.2.1).mono fun e w' ⟨h1, h2⟩ => (⟨h1, cell_below hu.1 h2, cell_below hu.2.1 h2, row_kept hu.2.2.1 h2, below_on hu.2.2.2 h2⟩ : e = Ending.returned (.int .i64 (K : Nat)) ∧ World.cell? w' ⟨yb, 1, none⟩ = some (Value.int .i64 (K : Nat)) ∧ World.cell? w' ⟨yb, 2, none⟩ = some (Value.bool B) ∧ (World.heap w')[xb]? = some (scO s K B) ∧ Below w9.heap.size w9 w'))
              have HE := Lib.hid (fun u (hu : World.cell? u ⟨yb, 1, none⟩ = some (Value.int .i64 (K : Nat)) ∧ World.cell? u ⟨yb, 2, none⟩ = some (Value.bool B) ∧ (World.heap u)[xb]? = some (scO s K B) ∧ Below w9.heap.size w9 u) => (hE hu.2.2.1).mono fun e w' ⟨h1, h2⟩ => (⟨h1, cell_below hu.1 h2, cell_below hu.2.1 h2, row_kept hu.2.2.1 h2, below_on hu.2.2.2 h2⟩ : e = Ending.returned (.int .i64 E) ∧ World.cell? w' ⟨yb, 1, none⟩ = some (Value.int .i64 (K : Nat)) ∧ World.cell? w' ⟨yb, 2, none⟩ = some (Value.bool B) ∧ (World.heap w')[xb]? = some (scO s K B) ∧ Below w9.heap.size w9 w'))
              have H1 := Lib.hid (⟨g1, g2, M.rx, (Below.refl _ _).drew⟩ : w9.drew.cell? ⟨yb, 1, none⟩ = some (Value.int .i64 (K : Nat)) ∧ w9.drew.cell? ⟨yb, 2, none⟩ = some (Value.bool B) ∧ w9.drew.heap[xb]? = some (scO s K B) ∧ Below w9.heap.size w9 w9.drew)
              clear hE
              go_wp2_with fail
              go_region_held3 (fun u => World.cell? u ⟨yb, 1, none⟩ = some (Value.int .i64 (K : Nat)) ∧ World.cell? u ⟨yb, 2, none⟩ = some (Value.bool B) ∧ (World.heap u)[xb]? = some (scO s K B) ∧ Below w9.heap.size w9 u)
                (first | exact H1.out | assumption)
                (first | (go_at_call 19; refine (HO.out _ (by assumption)).mono ?_; rintro e1 w2 ⟨rfl, hs1⟩) | (go_at_call 20; refine (HE.out _ (by assumption)).mono ?_; rintro e1 w2 ⟨rfl, hs1⟩))
              go_wp2_with fail
              go_roundw
              case rel => exact ⟨i + 1, K, B, by omega, KLE, by go_num, Lib.hid (M.on hs1.2.2.2)⟩
              case measure => simp [intOf]; omega
            · have n1 := hkd
              by_cases hkd : kd = 2
              · have e0 : (kd == 0) = false := beq_eq_false_iff_ne.2 n0
                have e1 : (kd == 1) = false := beq_eq_false_iff_ne.2 n1
                have e2 : (kd == 2) = true := beq_iff_eq.2 hkd
                clear hkd
                go_wp2_with fail
                refine (xi_all M.out.rx hk ss).mono ?_
                rintro e w3 ⟨rfl, r3, b3⟩
                have M3 := M.out.go r3 b3 xl (by omega)
                have KLE := fiK_le b hk
                have RR := Lib.hid (fun u => ri_all s k b u ss)
                generalize fiK b s k = K at *
                generalize fiB b s k = B at *
                generalize fiV b s k = V at *
                clear r3 b3 M y0 y1 y2 z0 z1 z2 yl c0 c1
                obtain ⟨y0, y1, y2, z0, z1, z2, yl⟩ := st_facts M3.ry
                go_wp2_with fail
                refine (RR.out _).mono ?_
                rintro e w4 ⟨rfl, b4⟩
                have M4 := M3.on b4
                have M5 := M4.on (al1 w4 (stO s K B))
                clear M3 b4 y0 y1 y2 z0 z1 z2 yl
                obtain ⟨y0, y1, y2, z0, z1, z2, yl⟩ := st_facts M4.ry
                have M := M5.put (by have := yx; omega) (by omega)
                go_wp2_with fail
                obtain ⟨w9, hw9⟩ : ∃ w9, w9 = (((w4.alloc (stO s K B)).setCell ⟨yb, 0, none⟩ (.string s)).setCell ⟨yb, 1, none⟩ (.int .i64 K)).setCell ⟨yb, 2, none⟩ (.bool B) := ⟨_, rfl⟩
                rw [← hw9] at M
                first
                  | rw [← hw9]
                  | (rw [show ((((w4.setCell ⟨yb, 0, none⟩ (.string s)).setCell ⟨yb, 1, none⟩ (.int .i64 K)).setCell ⟨yb, 2, none⟩ (.bool B)).alloc (stO s K B)) = w9 from by rw [hw9]; go_simp])
                clear hw9 y0 y1 y2 z0 z1 z2 yl M4 M5
                obtain ⟨E, qE, hE⟩ := err_is (S := s) (b := xb) (k := K) (bad := B)
                obtain ⟨g0, g1, g2, -, -, -, -⟩ := st_facts M.ry
                have HO := Lib.hid (fun u (hu : World.cell? u ⟨yb, 1, none⟩ = some (Value.int .i64 (K : Nat)) ∧ World.cell? u ⟨yb, 2, none⟩ = some (Value.bool B) ∧ (World.heap u)[xb]? = some (scO s K B) ∧ Below w9.heap.size w9 u) => (off_any hu.2.2.1).mono fun e w' ⟨h1, h2⟩ => (⟨h1, cell_below hu.1 h2, cell_below hu.2.1 h2, row_kept hu.2.2.1 h2, below_on hu.2.2.2 h2⟩ : e = Ending.returned (.int .i64 (K : Nat)) ∧ World.cell? w' ⟨yb, 1, none⟩ = some (Value.int .i64 (K : Nat)) ∧ World.cell? w' ⟨yb, 2, none⟩ = some (Value.bool B) ∧ (World.heap w')[xb]? = some (scO s K B) ∧ Below w9.heap.size w9 w'))
                have HE := Lib.hid (fun u (hu : World.cell? u ⟨yb, 1, none⟩ = some (Value.int .i64 (K : Nat)) ∧ World.cell? u ⟨yb, 2, none⟩ = some (Value.bool B) ∧ (World.heap u)[xb]? = some (scO s K B) ∧ Below w9.heap.size w9 u) => (hE hu.2.2.1).mono fun e w' ⟨h1, h2⟩ => (⟨h1, cell_below hu.1 h2, cell_below hu.2.1 h2, row_kept hu.2.2.1 h2, below_on hu.2.2.2 h2⟩ : e = Ending.returned (.int .i64 E) ∧ World.cell? w' ⟨yb, 1, none⟩ = some (Value.int .i64 (K : Nat)) ∧ World.cell? w' ⟨yb, 2, none⟩ = some (Value.bool B) ∧ (World.heap w')[xb]? = some (scO s K B) ∧ Below w9.heap.size w9 w'))
                have H1 := Lib.hid (⟨g1, g2, M.rx, (Below.refl _ _).drew⟩ : w9.drew.cell? ⟨yb, 1, none⟩ = some (Value.int .i64 (K : Nat)) ∧ w9.drew.cell? ⟨yb, 2, none⟩ = some (Value.bool B) ∧ w9.drew.heap[xb]? = some (scO s K B) ∧ Below w9.heap.size w9 w9.drew)
                clear hE
                go_wp2_with fail
                go_region_held3 (fun u => World.cell? u ⟨yb, 1, none⟩ = some (Value.int .i64 (K : Nat)) ∧ World.cell? u ⟨yb, 2, none⟩ = some (Value.bool B) ∧ (World.heap u)[xb]? = some (scO s K B) ∧ Below w9.heap.size w9 u)
                  (first | exact H1.out | assumption)
                  (first | (go_at_call 19; refine (HO.out _ (by assumption)).mono ?_; rintro e1 w2 ⟨rfl, hs1⟩) | (go_at_call 20; refine (HE.out _ (by assumption)).mono ?_; rintro e1 w2 ⟨rfl, hs1⟩))
                go_wp2_with fail
                go_roundw
                case rel => exact ⟨i + 1, K, B, by omega, KLE, by go_num, Lib.hid (M.on hs1.2.2.2)⟩
                case measure => simp [intOf]; omega
              · have n2 := hkd
                by_cases hkd : kd = 3
                · have e0 : (kd == 0) = false := beq_eq_false_iff_ne.2 n0
                  have e1 : (kd == 1) = false := beq_eq_false_iff_ne.2 n1
                  have e2 : (kd == 2) = false := beq_eq_false_iff_ne.2 n2
                  have e3 : (kd == 3) = true := beq_iff_eq.2 hkd
                  clear hkd
                  cases b
                  · by_cases hks : k < s.size
                    · have f1 : decide (k < s.size) = true := dtrue hks
                      have x1 := fun u => idx_at25 (S := s) (i := k) (x := (k : Int)) rfl hks u
                      have hp := xp_all M.out.rx hk
                      rw [show fpV false s k = bt s k from nx_lt hks] at hp
                      generalize bt s k = z at *
                      go_wp2_with fail
                      refine hp.mono ?_
                      rintro e w9 ⟨rfl, b3⟩
                      clear hp x1
                      have M9 := M.out.on b3
                      clear M y0 y1 y2 z0 z1 z2 yl c0 c1 b3
                      have M := M9
                      clear M9
                      have KLE := hk
                      go_wp2_with fail
                      obtain ⟨E, qE, hE⟩ := err_is (S := s) (b := xb) (k := k) (bad := false)
                      obtain ⟨g0, g1, g2, -, -, -, -⟩ := st_facts M.ry
                      have HO := Lib.hid (fun u (hu : World.cell? u ⟨yb, 1, none⟩ = some (Value.int .i64 (k : Nat)) ∧ World.cell? u ⟨yb, 2, none⟩ = some (Value.bool false) ∧ (World.heap u)[xb]? = some (scO s k false) ∧ Below w9.heap.size w9 u) => (off_any hu.2.2.1).mono fun e w' ⟨h1, h2⟩ => (⟨h1, cell_below hu.1 h2, cell_below hu.2.1 h2, row_kept hu.2.2.1 h2, below_on hu.2.2.2 h2⟩ : e = Ending.returned (.int .i64 (k : Nat)) ∧ World.cell? w' ⟨yb, 1, none⟩ = some (Value.int .i64 (k : Nat)) ∧ World.cell? w' ⟨yb, 2, none⟩ = some (Value.bool false) ∧ (World.heap w')[xb]? = some (scO s k false) ∧ Below w9.heap.size w9 w'))
                      have HE := Lib.hid (fun u (hu : World.cell? u ⟨yb, 1, none⟩ = some (Value.int .i64 (k : Nat)) ∧ World.cell? u ⟨yb, 2, none⟩ = some (Value.bool false) ∧ (World.heap u)[xb]? = some (scO s k false) ∧ Below w9.heap.size w9 u) => (hE hu.2.2.1).mono fun e w' ⟨h1, h2⟩ => (⟨h1, cell_below hu.1 h2, cell_below hu.2.1 h2, row_kept hu.2.2.1 h2, below_on hu.2.2.2 h2⟩ : e = Ending.returned (.int .i64 E) ∧ World.cell? w' ⟨yb, 1, none⟩ = some (Value.int .i64 (k : Nat)) ∧ World.cell? w' ⟨yb, 2, none⟩ = some (Value.bool false) ∧ (World.heap w')[xb]? = some (scO s k false) ∧ Below w9.heap.size w9 w'))
                      have H1 := Lib.hid (⟨g1, g2, M.rx, (Below.refl _ _).drew⟩ : w9.drew.cell? ⟨yb, 1, none⟩ = some (Value.int .i64 (k : Nat)) ∧ w9.drew.cell? ⟨yb, 2, none⟩ = some (Value.bool false) ∧ w9.drew.heap[xb]? = some (scO s k false) ∧ Below w9.heap.size w9 w9.drew)
                      clear hE
                      go_wp2_with fail
                      go_region_held3 (fun u => World.cell? u ⟨yb, 1, none⟩ = some (Value.int .i64 (k : Nat)) ∧ World.cell? u ⟨yb, 2, none⟩ = some (Value.bool false) ∧ (World.heap u)[xb]? = some (scO s k false) ∧ Below w9.heap.size w9 u)
                        (first | exact H1.out | assumption)
                        (first | (go_at_call 19; refine (HO.out _ (by assumption)).mono ?_; rintro e1 w2 ⟨rfl, hs1⟩) | (go_at_call 20; refine (HE.out _ (by assumption)).mono ?_; rintro e1 w2 ⟨rfl, hs1⟩))
                      go_wp2_with fail
                      go_roundw
                      case rel => exact ⟨i + 1, k, false, by omega, KLE, by go_num, Lib.hid (M.on hs1.2.2.2)⟩
                      case measure => simp [intOf]; omega
                    · have f1 : decide (k < s.size) = false := dfalse hks
                      have hp := xp_all M.out.rx hk
                      rw [show fpV false s k = 0 from nx_ge hks] at hp
                      go_wp2_with fail
                      refine hp.mono ?_
                      rintro e w9 ⟨rfl, b3⟩
                      clear hp
                      have M9 := M.out.on b3
                      clear M y0 y1 y2 z0 z1 z2 yl c0 c1 b3
                      have M := M9
                      clear M9
                      have KLE := hk
                      go_wp2_with fail
                      obtain ⟨E, qE, hE⟩ := err_is (S := s) (b := xb) (k := k) (bad := false)
                      obtain ⟨g0, g1, g2, -, -, -, -⟩ := st_facts M.ry
                      have HO := Lib.hid (fun u (hu : World.cell? u ⟨yb, 1, none⟩ = some (Value.int .i64 (k : Nat)) ∧ World.cell? u ⟨yb, 2, none⟩ = some (Value.bool false) ∧ (World.heap u)[xb]? = some (scO s k false) ∧ Below w9.heap.size w9 u) => (off_any hu.2.2.1).mono fun e w' ⟨h1, h2⟩ => (⟨h1, cell_below hu.1 h2, cell_below hu.2.1 h2, row_kept hu.2.2.1 h2, below_on hu.2.2.2 h2⟩ : e = Ending.returned (.int .i64 (k : Nat)) ∧ World.cell? w' ⟨yb, 1, none⟩ = some (Value.int .i64 (k : Nat)) ∧ World.cell? w' ⟨yb, 2, none⟩ = some (Value.bool false) ∧ (World.heap w')[xb]? = some (scO s k false) ∧ Below w9.heap.size w9 w'))
                      have HE := Lib.hid (fun u (hu : World.cell? u ⟨yb, 1, none⟩ = some (Value.int .i64 (k : Nat)) ∧ World.cell? u ⟨yb, 2, none⟩ = some (Value.bool false) ∧ (World.heap u)[xb]? = some (scO s k false) ∧ Below w9.heap.size w9 u) => (hE hu.2.2.1).mono fun e w' ⟨h1, h2⟩ => (⟨h1, cell_below hu.1 h2, cell_below hu.2.1 h2, row_kept hu.2.2.1 h2, below_on hu.2.2.2 h2⟩ : e = Ending.returned (.int .i64 E) ∧ World.cell? w' ⟨yb, 1, none⟩ = some (Value.int .i64 (k : Nat)) ∧ World.cell? w' ⟨yb, 2, none⟩ = some (Value.bool false) ∧ (World.heap w')[xb]? = some (scO s k false) ∧ Below w9.heap.size w9 w'))
                      have H1 := Lib.hid (⟨g1, g2, M.rx, (Below.refl _ _).drew⟩ : w9.drew.cell? ⟨yb, 1, none⟩ = some (Value.int .i64 (k : Nat)) ∧ w9.drew.cell? ⟨yb, 2, none⟩ = some (Value.bool false) ∧ w9.drew.heap[xb]? = some (scO s k false) ∧ Below w9.heap.size w9 w9.drew)
                      clear hE
                      go_wp2_with fail
                      go_region_held3 (fun u => World.cell? u ⟨yb, 1, none⟩ = some (Value.int .i64 (k : Nat)) ∧ World.cell? u ⟨yb, 2, none⟩ = some (Value.bool false) ∧ (World.heap u)[xb]? = some (scO s k false) ∧ Below w9.heap.size w9 u)
                        (first | exact H1.out | assumption)
                        (first | (go_at_call 19; refine (HO.out _ (by assumption)).mono ?_; rintro e1 w2 ⟨rfl, hs1⟩) | (go_at_call 20; refine (HE.out _ (by assumption)).mono ?_; rintro e1 w2 ⟨rfl, hs1⟩))
                      go_wp2_with fail
                      go_roundw
                      case rel => exact ⟨i + 1, k, false, by omega, KLE, by go_num, Lib.hid (M.on hs1.2.2.2)⟩
                      case measure => simp [intOf]; omega
                  · have hp := xp_all M.out.rx hk
                    rw [show fpV true s k = 0 from rfl] at hp
                    go_wp2_with fail
                    refine hp.mono ?_
                    rintro e w9 ⟨rfl, b3⟩
                    clear hp
                    have M9 := M.out.on b3
                    clear M y0 y1 y2 z0 z1 z2 yl c0 c1 b3
                    have M := M9
                    clear M9
                    have KLE := hk
                    go_wp2_with fail
                    obtain ⟨E, qE, hE⟩ := err_is (S := s) (b := xb) (k := k) (bad := true)
                    obtain ⟨g0, g1, g2, -, -, -, -⟩ := st_facts M.ry
                    have HO := Lib.hid (fun u (hu : World.cell? u ⟨yb, 1, none⟩ = some (Value.int .i64 (k : Nat)) ∧ World.cell? u ⟨yb, 2, none⟩ = some (Value.bool true) ∧ (World.heap u)[xb]? = some (scO s k true) ∧ Below w9.heap.size w9 u) => (off_any hu.2.2.1).mono fun e w' ⟨h1, h2⟩ => (⟨h1, cell_below hu.1 h2, cell_below hu.2.1 h2, row_kept hu.2.2.1 h2, below_on hu.2.2.2 h2⟩ : e = Ending.returned (.int .i64 (k : Nat)) ∧ World.cell? w' ⟨yb, 1, none⟩ = some (Value.int .i64 (k : Nat)) ∧ World.cell? w' ⟨yb, 2, none⟩ = some (Value.bool true) ∧ (World.heap w')[xb]? = some (scO s k true) ∧ Below w9.heap.size w9 w'))
                    have HE := Lib.hid (fun u (hu : World.cell? u ⟨yb, 1, none⟩ = some (Value.int .i64 (k : Nat)) ∧ World.cell? u ⟨yb, 2, none⟩ = some (Value.bool true) ∧ (World.heap u)[xb]? = some (scO s k true) ∧ Below w9.heap.size w9 u) => (hE hu.2.2.1).mono fun e w' ⟨h1, h2⟩ => (⟨h1, cell_below hu.1 h2, cell_below hu.2.1 h2, row_kept hu.2.2.1 h2, below_on hu.2.2.2 h2⟩ : e = Ending.returned (.int .i64 E) ∧ World.cell? w' ⟨yb, 1, none⟩ = some (Value.int .i64 (k : Nat)) ∧ World.cell? w' ⟨yb, 2, none⟩ = some (Value.bool true) ∧ (World.heap w')[xb]? = some (scO s k true) ∧ Below w9.heap.size w9 w'))
                    have H1 := Lib.hid (⟨g1, g2, M.rx, (Below.refl _ _).drew⟩ : w9.drew.cell? ⟨yb, 1, none⟩ = some (Value.int .i64 (k : Nat)) ∧ w9.drew.cell? ⟨yb, 2, none⟩ = some (Value.bool true) ∧ w9.drew.heap[xb]? = some (scO s k true) ∧ Below w9.heap.size w9 w9.drew)
                    clear hE
                    go_wp2_with fail
                    go_region_held3 (fun u => World.cell? u ⟨yb, 1, none⟩ = some (Value.int .i64 (k : Nat)) ∧ World.cell? u ⟨yb, 2, none⟩ = some (Value.bool true) ∧ (World.heap u)[xb]? = some (scO s k true) ∧ Below w9.heap.size w9 u)
                      (first | exact H1.out | assumption)
                      (first | (go_at_call 19; refine (HO.out _ (by assumption)).mono ?_; rintro e1 w2 ⟨rfl, hs1⟩) | (go_at_call 20; refine (HE.out _ (by assumption)).mono ?_; rintro e1 w2 ⟨rfl, hs1⟩))
                    go_wp2_with fail
                    go_roundw
                    case rel => exact ⟨i + 1, k, true, by omega, KLE, by go_num, Lib.hid (M.on hs1.2.2.2)⟩
                    case measure => simp [intOf]; omega
                · have n3 := hkd
                  by_cases hkd : kd = 4
                  · have e0 : (kd == 0) = false := beq_eq_false_iff_ne.2 n0
                    have e1 : (kd == 1) = false := beq_eq_false_iff_ne.2 n1
                    have e2 : (kd == 2) = false := beq_eq_false_iff_ne.2 n2
                    have e3 : (kd == 3) = false := beq_eq_false_iff_ne.2 n3
                    have e4 : (kd == 4) = true := beq_iff_eq.2 hkd
                    clear hkd
                    go_wp2_with fail
                    refine (xe_all M.out.rx).mono ?_
                    rintro e w3 ⟨rfl, r3, b3⟩
                    have M3 := M.out.go r3 b3 xl (by omega)
                    have KLE := hk
                    have RR := Lib.hid (fun u => re_all s k b u)
                    generalize feB b s k = B at *
                    clear r3 b3 M y0 y1 y2 z0 z1 z2 yl c0 c1
                    obtain ⟨y0, y1, y2, z0, z1, z2, yl⟩ := st_facts M3.ry
                    go_wp2_with fail
                    refine (RR.out _).mono ?_
                    rintro e w4 ⟨rfl, b4⟩
                    have M4 := M3.on b4
                    clear M3 b4 y0 y1 y2 z0 z1 z2 yl
                    obtain ⟨y0, y1, y2, z0, z1, z2, yl⟩ := st_facts M4.ry
                    have M := M4.put (by have := yx; omega) (by omega)
                    go_wp2_with fail
                    obtain ⟨w9, hw9⟩ : ∃ w9, w9 = ((w4.setCell ⟨yb, 0, none⟩ (.string s)).setCell ⟨yb, 1, none⟩ (.int .i64 k)).setCell ⟨yb, 2, none⟩ (.bool B) := ⟨_, rfl⟩
                    rw [← hw9] at M ⊢
                    clear hw9 y0 y1 y2 z0 z1 z2 yl M4
                    obtain ⟨E, qE, hE⟩ := err_is (S := s) (b := xb) (k := k) (bad := B)
                    obtain ⟨g0, g1, g2, -, -, -, -⟩ := st_facts M.ry
                    have HO := Lib.hid (fun u (hu : World.cell? u ⟨yb, 1, none⟩ = some (Value.int .i64 (k : Nat)) ∧ World.cell? u ⟨yb, 2, none⟩ = some (Value.bool B) ∧ (World.heap u)[xb]? = some (scO s k B) ∧ Below w9.heap.size w9 u) => (off_any hu.2.2.1).mono fun e w' ⟨h1, h2⟩ => (⟨h1, cell_below hu.1 h2, cell_below hu.2.1 h2, row_kept hu.2.2.1 h2, below_on hu.2.2.2 h2⟩ : e = Ending.returned (.int .i64 (k : Nat)) ∧ World.cell? w' ⟨yb, 1, none⟩ = some (Value.int .i64 (k : Nat)) ∧ World.cell? w' ⟨yb, 2, none⟩ = some (Value.bool B) ∧ (World.heap w')[xb]? = some (scO s k B) ∧ Below w9.heap.size w9 w'))
                    have HE := Lib.hid (fun u (hu : World.cell? u ⟨yb, 1, none⟩ = some (Value.int .i64 (k : Nat)) ∧ World.cell? u ⟨yb, 2, none⟩ = some (Value.bool B) ∧ (World.heap u)[xb]? = some (scO s k B) ∧ Below w9.heap.size w9 u) => (hE hu.2.2.1).mono fun e w' ⟨h1, h2⟩ => (⟨h1, cell_below hu.1 h2, cell_below hu.2.1 h2, row_kept hu.2.2.1 h2, below_on hu.2.2.2 h2⟩ : e = Ending.returned (.int .i64 E) ∧ World.cell? w' ⟨yb, 1, none⟩ = some (Value.int .i64 (k : Nat)) ∧ World.cell? w' ⟨yb, 2, none⟩ = some (Value.bool B) ∧ (World.heap w')[xb]? = some (scO s k B) ∧ Below w9.heap.size w9 w'))
                    have H1 := Lib.hid (⟨g1, g2, M.rx, (Below.refl _ _).drew⟩ : w9.drew.cell? ⟨yb, 1, none⟩ = some (Value.int .i64 (k : Nat)) ∧ w9.drew.cell? ⟨yb, 2, none⟩ = some (Value.bool B) ∧ w9.drew.heap[xb]? = some (scO s k B) ∧ Below w9.heap.size w9 w9.drew)
                    clear hE
                    go_wp2_with fail
                    go_region_held3 (fun u => World.cell? u ⟨yb, 1, none⟩ = some (Value.int .i64 (k : Nat)) ∧ World.cell? u ⟨yb, 2, none⟩ = some (Value.bool B) ∧ (World.heap u)[xb]? = some (scO s k B) ∧ Below w9.heap.size w9 u)
                      (first | exact H1.out | assumption)
                      (first | (go_at_call 19; refine (HO.out _ (by assumption)).mono ?_; rintro e1 w2 ⟨rfl, hs1⟩) | (go_at_call 20; refine (HE.out _ (by assumption)).mono ?_; rintro e1 w2 ⟨rfl, hs1⟩))
                    go_wp2_with fail
                    go_roundw
                    case rel => exact ⟨i + 1, k, B, by omega, KLE, by go_num, Lib.hid (M.on hs1.2.2.2)⟩
                    case measure => simp [intOf]; omega
                  · have n4 := hkd
                    have e0 : (kd == 0) = false := beq_eq_false_iff_ne.2 n0
                    have e1 : (kd == 1) = false := beq_eq_false_iff_ne.2 n1
                    have e2 : (kd == 2) = false := beq_eq_false_iff_ne.2 n2
                    have e3 : (kd == 3) = false := beq_eq_false_iff_ne.2 n3
                    have e4 : (kd == 4) = false := beq_eq_false_iff_ne.2 n4
                    go_wp2_with fail
                    obtain ⟨w9, hw9⟩ : ∃ w9, w9 = wr := ⟨_, rfl⟩
                    rw [← hw9] at M c0 c1 y0 y1 y2 z0 z1 z2 yl ⊢
                    have M9 := M.out
                    clear M
                    have M := M9
                    clear M9 hw9
                    have KLE := hk
                    obtain ⟨E, qE, hE⟩ := err_is (S := s) (b := xb) (k := k) (bad := b)
                    obtain ⟨g0, g1, g2, -, -, -, -⟩ := st_facts M.ry
                    have HO := Lib.hid (fun u (hu : World.cell? u ⟨yb, 1, none⟩ = some (Value.int .i64 (k : Nat)) ∧ World.cell? u ⟨yb, 2, none⟩ = some (Value.bool b) ∧ (World.heap u)[xb]? = some (scO s k b) ∧ Below w9.heap.size w9 u) => (off_any hu.2.2.1).mono fun e w' ⟨h1, h2⟩ => (⟨h1, cell_below hu.1 h2, cell_below hu.2.1 h2, row_kept hu.2.2.1 h2, below_on hu.2.2.2 h2⟩ : e = Ending.returned (.int .i64 (k : Nat)) ∧ World.cell? w' ⟨yb, 1, none⟩ = some (Value.int .i64 (k : Nat)) ∧ World.cell? w' ⟨yb, 2, none⟩ = some (Value.bool b) ∧ (World.heap w')[xb]? = some (scO s k b) ∧ Below w9.heap.size w9 w'))
                    have HE := Lib.hid (fun u (hu : World.cell? u ⟨yb, 1, none⟩ = some (Value.int .i64 (k : Nat)) ∧ World.cell? u ⟨yb, 2, none⟩ = some (Value.bool b) ∧ (World.heap u)[xb]? = some (scO s k b) ∧ Below w9.heap.size w9 u) => (hE hu.2.2.1).mono fun e w' ⟨h1, h2⟩ => (⟨h1, cell_below hu.1 h2, cell_below hu.2.1 h2, row_kept hu.2.2.1 h2, below_on hu.2.2.2 h2⟩ : e = Ending.returned (.int .i64 E) ∧ World.cell? w' ⟨yb, 1, none⟩ = some (Value.int .i64 (k : Nat)) ∧ World.cell? w' ⟨yb, 2, none⟩ = some (Value.bool b) ∧ (World.heap w')[xb]? = some (scO s k b) ∧ Below w9.heap.size w9 w'))
                    have H1 := Lib.hid (⟨g1, g2, M.rx, (Below.refl _ _).drew⟩ : w9.drew.cell? ⟨yb, 1, none⟩ = some (Value.int .i64 (k : Nat)) ∧ w9.drew.cell? ⟨yb, 2, none⟩ = some (Value.bool b) ∧ w9.drew.heap[xb]? = some (scO s k b) ∧ Below w9.heap.size w9 w9.drew)
                    clear hE
                    go_wp2_with fail
                    go_region_held3 (fun u => World.cell? u ⟨yb, 1, none⟩ = some (Value.int .i64 (k : Nat)) ∧ World.cell? u ⟨yb, 2, none⟩ = some (Value.bool b) ∧ (World.heap u)[xb]? = some (scO s k b) ∧ Below w9.heap.size w9 u)
                      (first | exact H1.out | assumption)
                      (first | (go_at_call 19; refine (HO.out _ (by assumption)).mono ?_; rintro e1 w2 ⟨rfl, hs1⟩) | (go_at_call 20; refine (HE.out _ (by assumption)).mono ?_; rintro e1 w2 ⟨rfl, hs1⟩))
                    go_wp2_with fail
                    go_roundw
                    case rel => exact ⟨i + 1, k, b, by omega, KLE, by go_num, Lib.hid (M.on hs1.2.2.2)⟩
                    case measure => simp [intOf]; omega
    · obtain rfl : i = n := by omega
      go_wp2_with fail
      go_ret
      exact ⟨rfl, M.out.bl⟩
theorem l25m_any (s : ByteArray) (v : Value) (st : List (Int × Int)) (W : World) (hst : StAt W v st) :
    Calls Tryd.prog 3 #[.string s, v] W fun e w' => e = .returned (.bool true) ∧ Below W.heap.size W w' := by
  obtain ⟨A, cap, rfl, _, _, h⟩ := hst
  by_cases h1 : 1000 < s.size
  · exact l25m_l1 s A _ cap h1 W
  · by_cases h2 : 60 < st.length
    · exact l25m_l2 s A _ cap h1 h2 W
    · exact l25m_ok s A cap st W h1 h2 h
end Go.Proofs.YtlodijncaojifaaDoor
