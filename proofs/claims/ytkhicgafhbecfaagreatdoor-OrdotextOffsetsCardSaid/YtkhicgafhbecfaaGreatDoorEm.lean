/- Package ordotext: others. -/
import Derived.Test.YtkhicgafhbecfaaGreatDoorEl
namespace Go.Proofs.YtkhicgafhbecfaaGreatDoor
open Go.RowKit

/-! lists of the call's own -/
section
variable {t t2 : TypeId} {B D n n2 k k2 b : Nat} {v v2 : Value} {xs xs2 : List Value} {w w' : World}
theorem own_bt (h : w.ownsRow B t n v k xs) (hb : Bt b w w') (hB : b < B) : w'.ownsRow B t n v k xs := by
  refine World.ownsRow.kept h (row := some b) ⟨hb.os, hb.tape, hb.output, hb.size, fun k hk hne => hb.block k hk (fun e => hne (by rw [e]))⟩ ?_
  rcases h.2 with ⟨rfl, _⟩ | ⟨g, cap, cur, rfl, hg, _⟩
  · exact .inl rfl
  · right; simp [Value.ownBlock]; omega
theorem own_far (h : w.ownsRow B t n v k xs) (hg : w.grownBy w' v2.ownBlock) (hd : ∀ j, v.ownBlock = some j → some j ≠ v2.ownBlock) : w'.ownsRow B t n v k xs := by
  refine World.ownsRow.kept h hg ?_
  cases q : v.ownBlock with
  | none => exact .inl rfl
  | some j => exact .inr (hd j q)
theorem own_type (h : w.ownsRow B t n v k xs) (h2 : w.ownsRow D t2 n2 v2 k2 xs2) (ht : t ≠ t2) : ∀ j, v.ownBlock = some j → some j ≠ v2.ownBlock := by
  intro j e e2
  rcases h.2 with ⟨rfl, _⟩ | ⟨g, cap, cur, rfl, _, hg1, _⟩
  · cases e
  · rcases h2.2 with ⟨rfl, _⟩ | ⟨g', cap', cur', rfl, _, hg2, _⟩
    · cases e2
    · obtain rfl : g = j := by simpa [Value.ownBlock] using e
      obtain rfl : g = g' := by simpa [Value.ownBlock] using e2
      rw [hg1] at hg2
      injection hg2 with hg2
      injection hg2 with _ h3
      exact ht h3
theorem row_grow {c : Nat} {o : Obj} (hr : w.heap[c]? = some o) (h2 : w.ownsRow D t2 n2 v2 k2 xs2) (hc : c < D) (hg : w.grownBy w' v2.ownBlock) : w'.heap[c]? = some o := by
  rw [hg.block c (row_lt hr) (fun e => absurd (World.ownsRow.lt h2 c e.symm).1 (by omega))]; exact hr
theorem own_base {B' : Nat} (h : w.ownsRow B t n v k xs) (hB : B' ≤ B) : w.ownsRow B' t n v k xs := by
  refine ⟨h.1, ?_⟩
  rcases h.2 with ⟨rfl, e⟩ | ⟨g, cap, cur, rfl, hg, r⟩
  · exact .inl ⟨rfl, e⟩
  · exact .inr ⟨g, cap, cur, rfl, Nat.le_trans hB hg, r⟩
theorem own_form (h : w.ownsRow B t n v k xs) : ∃ a c, v = .slice a k c := by
  rcases h.2 with ⟨rfl, e⟩ | ⟨g, cap, cur, rfl, _⟩
  · subst e; exact ⟨_, _, rfl⟩
  · exact ⟨_, _, rfl⟩
end
theorem oth_step {f : Prs ByteArray} (G : Gk f) {S : ByteArray} {x : Sc} {ws : List ByteArray} (hw : Wok ws) (hk : x.k ≤ S.size) (hi : 0 ≤ (yW ws S x).1) : msr S (f S (yW ws S x).2).2 < msr S x := by
  obtain ⟨k, bb⟩ := x
  cases bb
  · cases e : wdF S k ws with
    | none =>
      have : (yW ws S ⟨k, false⟩).1 = -1 := by show wdI S k ws = -1; unfold wdI; rw [e]
      omega
    | some i =>
      obtain ⟨i1, _, _⟩ := wdF_some e
      have l1 := hw.1 i i1
      have eT : (yW ws S ⟨k, false⟩).2 = ⟨k + (ws.getD i ByteArray.empty).size, false⟩ := by
        show (⟨wdK S k ws, false || wdB S k ws⟩ : Sc) = _
        unfold wdK wdB
        rw [e]; rfl
      have h1 := G.le S (yW ws S ⟨k, false⟩).2 ((gd_W ws).le S ⟨k, false⟩ hk).2
      rw [eT] at h1 ⊢
      unfold msr
      have hk' : k ≤ S.size := hk
      show S.size - _ + _ < S.size - k + 1
      have h2 : k + (ws.getD i ByteArray.empty).size ≤ (f S ⟨k + (ws.getD i ByteArray.empty).size, false⟩).2.k := h1.1
      have h3 := h1.2
      split <;> omega
  · have : (yW ws S ⟨k, true⟩).1 = -1 := rfl
    omega
theorem wd_small {S : ByteArray} {x : Sc} (ws : List ByteArray) : (yW ws S x).1 < ws.length := by
  obtain ⟨k, b⟩ := x
  cases b
  · show wdI S k ws < ws.length
    unfold wdI
    cases e : wdF S k ws with
    | none => show (-1 : Int) < _; omega
    | some i => have := (wdF_some e).1; show (i : Int) < ws.length; omega
  · show (-1 : Int) < _; omega
/-- What others finds at each round. -/
structure OS (S : ByteArray) (b E PB g : Nat) (F : Value → Value → Array Value) (w0 : World) (x : Sc) (co om : List ByteArray) (vc vo : Value) (D : Nat) (u : World) : Prop where
  s : u.heap[b]? = some (scX S x)
  v : u.heap[E]? = some (.cells (F vc vo) 40 (0, 0))
  p : u.heap[PB]? = some (bxQ b)
  gr : u.heap[g]? = some (.cells #[.string wLf, .string wWo, .string wWi] 9 (0, 0))
  bl : B2 b E w0 u
  t : WTab u
  c : StrsAt (g + 1) vc co u
  m : StrsAt D vo om u
  cd : ∀ k, vc.ownBlock = some k → k < D
  zD : g + 1 ≤ D
  z : D ≤ u.heap.size
section
variable {S : ByteArray} {b E PB g D : Nat} {F : Value → Value → Array Value} {w0 u u' : World} {x y : Sc} {co om : List ByteArray} {vc vo : Value}
theorem OS.below (h : OS S b E PB g F w0 x co om vc vo D u) (hb : Below u.heap.size u u') : OS S b E PB g F w0 x co om vc vo D u' :=
  ⟨row_kept h.s hb, row_kept h.v hb, row_kept h.p hb, row_kept h.gr hb, h.bl.trans (.bl hb), h.t.on hb, h.c.on hb, h.m.on hb, h.cd, h.zD, Nat.le_trans h.z hb.size⟩
theorem OS.call (h : OS S b E PB g F w0 x co om vc vo D u) (l1 : b < E) (l2 : E < PB) (l3 : PB < g) (hs : u'.heap[b]? = some (scX S y)) (hb : Bt b u u') : OS S b E PB g F w0 y co om vc vo D u' :=
  ⟨hs, hb.row (by omega) h.v, hb.row (by omega) h.p, hb.row (by omega) h.gr, h.bl.trans (.bt hb), h.t.mv hb (ne_scan h.t h.s), own_bt h.c hb (by omega), own_bt h.m hb (by have := h.zD; omega), h.cd, h.zD, Nat.le_trans h.z hb.size⟩
theorem OS.addc {wz : World} {s : ByteArray} {gN cap : Nat} (h : OS S b E PB g F w0 x co [] vc (.slice none 0 0) D u) (l1 : b < E) (l2 : E < PB) (l3 : PB < g) (lw : w0.heap.size ≤ PB) (tE : 0 ≠ E) (_tg : 0 < g) (hS : ∀ a c n, (F a c).setIfInBounds 12 n = F n c)
    (hown : wz.ownsRow (g + 1) 9 1 (.slice (some ⟨gN, 0, none⟩) (co.length + 1) cap) (co.length + 1) (co.map Value.string ++ [.string s])) (hg : u.grownBy wz vc.ownBlock) (hN : gN < wz.heap.size) :
    OS S b E PB g F w0 x (co ++ [s]) [] (.slice (some ⟨gN, 0, none⟩) (co.length + 1) cap) (.slice none 0 0) wz.heap.size (wz.setCell ⟨E, 12, none⟩ (.slice (some ⟨gN, 0, none⟩) (co.length + 1) cap)) ∧ wz.heap[E]? = some (.cells (F vc (.slice none 0 0)) 40 (0, 0)) := by
  have kp : ∀ (c : Nat) (o : Obj), u.heap[c]? = some o → c < g + 1 → wz.heap[c]? = some o := fun c o hr hc => row_grow hr h.c hc hg
  have ze := kp E _ h.v (by omega)
  have g0 := Bt.set E wz 12 (.slice (some ⟨gN, 0, none⟩) (co.length + 1) cap)
  obtain ⟨tt, fr, te⟩ := h.t.row
  have hT : WTab wz := ⟨⟨tt, fr, kp _ _ te (by omega)⟩⟩
  have hbz : B2 b E w0 wz := ⟨hg.os.trans h.bl.os, hg.tape.trans h.bl.tape, hg.output.trans h.bl.output, Nat.le_trans h.bl.size hg.size, fun j hj h1 h2 => by
    rw [hg.block j (Nat.lt_of_lt_of_le hj h.bl.size) (fun e => absurd (World.ownsRow.lt h.c j e.symm).1 (by omega))]; exact h.bl.block j hj h1 h2⟩
  refine ⟨⟨g0.row (by omega) (kp b _ h.s (by omega)), ?_, g0.row (by omega) (kp PB _ h.p (by omega)), g0.row (by omega) (kp g _ h.gr (by omega)), hbz.trans (.bq g0), hT.mv g0 tE, ?_, StrsAt.emp _ _, ?_, ?_, ?_⟩, ze⟩
  · have := heap_setCell_same wz E 12 _ _ (.slice (some ⟨gN, 0, none⟩) (co.length + 1) cap) ze
    rw [hS] at this
    exact this
  · have : wz.ownsRow (g + 1) 9 1 (.slice (some ⟨gN, 0, none⟩) (co.length + 1) cap) (co ++ [s]).length ((co ++ [s]).map Value.string) := by
      rw [List.length_append, List.map_append]; exact hown
    exact own_bt this g0 (by omega)
  · intro k e
    obtain rfl : gN = k := by simpa [Value.ownBlock] using e
    exact hN
  · have := (World.ownsRow.lt hown gN rfl).1
    omega
  · exact g0.size
theorem OS.addm {wz : World} {s : ByteArray} {gN cap : Nat} (h : OS S b E PB g F w0 x co om vc vo D u) (l1 : b < E) (l2 : E < PB) (l3 : PB < g) (lw : w0.heap.size ≤ PB) (tE : 0 ≠ E) (_tg : 0 < g) (hS : ∀ a c n, (F a c).setIfInBounds 13 n = F a n)
    (hown : wz.ownsRow D 9 1 (.slice (some ⟨gN, 0, none⟩) (om.length + 1) cap) (om.length + 1) (om.map Value.string ++ [.string s])) (hg : u.grownBy wz vo.ownBlock) :
    OS S b E PB g F w0 x co (om ++ [s]) vc (.slice (some ⟨gN, 0, none⟩) (om.length + 1) cap) D (wz.setCell ⟨E, 13, none⟩ (.slice (some ⟨gN, 0, none⟩) (om.length + 1) cap)) ∧ wz.heap[E]? = some (.cells (F vc vo) 40 (0, 0)) := by
  have zD := h.zD
  have kp : ∀ (c : Nat) (o : Obj), u.heap[c]? = some o → c < D → wz.heap[c]? = some o := fun c o hr hc => row_grow hr h.m hc hg
  have ze := kp E _ h.v (by omega)
  have g0 := Bt.set E wz 13 (.slice (some ⟨gN, 0, none⟩) (om.length + 1) cap)
  obtain ⟨tt, fr, te⟩ := h.t.row
  have hT : WTab wz := ⟨⟨tt, fr, kp _ _ te (by omega)⟩⟩
  have hbz : B2 b E w0 wz := ⟨hg.os.trans h.bl.os, hg.tape.trans h.bl.tape, hg.output.trans h.bl.output, Nat.le_trans h.bl.size hg.size, fun j hj h1 h2 => by
    rw [hg.block j (Nat.lt_of_lt_of_le hj h.bl.size) (fun e => absurd (World.ownsRow.lt h.m j e.symm).1 (by omega))]; exact h.bl.block j hj h1 h2⟩
  have hc : wz.ownsRow (g + 1) 9 1 vc co.length (co.map Value.string) := own_far h.c hg (fun j e e2 => by
    have h1 := h.cd j e
    have h2 := (World.ownsRow.lt h.m j e2.symm).1
    omega)
  refine ⟨⟨g0.row (by omega) (kp b _ h.s (by omega)), ?_, g0.row (by omega) (kp PB _ h.p (by omega)), g0.row (by omega) (kp g _ h.gr (by omega)), hbz.trans (.bq g0), hT.mv g0 tE, own_bt hc g0 (by omega), ?_, h.cd, h.zD, Nat.le_trans (Nat.le_trans h.z hg.size) g0.size⟩, ze⟩
  · have := heap_setCell_same wz E 13 _ _ (.slice (some ⟨gN, 0, none⟩) (om.length + 1) cap) ze
    rw [hS] at this
    exact this
  · have : wz.ownsRow D 9 1 (.slice (some ⟨gN, 0, none⟩) (om.length + 1) cap) (om ++ [s]).length ((om ++ [s]).map Value.string) := by
      rw [List.length_append, List.map_append]; exact hown
    exact own_bt this g0 (by omega)
end
theorem lO_len' (t : Bool) : (lO t).length ≤ 3 ∧ ((lO t).length = 2 ∨ (lO t).length = 3) := by cases t <;> exact ⟨by decide, by decide⟩
theorem lO_in {g : Nat} {u : World} (t : Bool) (h : u.heap[g]? = some (.cells #[.string wLf, .string wWo, .string wWi] 9 (0, 0))) : StrsIn g 3 (lO t) u := by
  refine ⟨row_lt h, (lO_len' t).1, by decide, fun i hi => ?_⟩
  cases t
  · have : i = 0 ∨ i = 1 ∨ i = 2 := by have e : (lO false).length = 3 := rfl; omega
    rcases this with rfl | rfl | rfl <;> (rw [cell_of_row _ _ _ _ _ _ h]; rfl)
  · have : i = 0 ∨ i = 1 := by have e : (lO true).length = 2 := rfl; omega
    rcases this with rfl | rfl <;> (rw [cell_of_row _ _ _ _ _ _ h]; rfl)
set_option maxRecDepth 100000 in
set_option maxHeartbeats 2000000 in
theorem p27oth {S : ByteArray} {b E : Nat} {F : Value → Value → Array Value} {w : World} {x0 : Sc} {N : Nat} (hF12 : ∀ a c, (F a c)[12]? = some a) (hF13 : ∀ a c, (F a c)[13]? = some c) (hS12 : ∀ a c n, (F a c).setIfInBounds 12 n = F n c) (hS13 : ∀ a c n, (F a c).setIfInBounds 13 n = F a n)
    (h : w.heap[b]? = some (scX S x0)) (hE : w.heap[E]? = some (.cells (F (.slice none 0 0) (.slice none 0 0)) 40 (0, 0))) (l1 : b < E) (hk0 : x0.k ≤ S.size) (hs : S.size ≤ 100000) (hT : WTab w) (tE : 0 ≠ E) (hN : msr S x0 < N) (hN2 : N ≤ 1000000) :
    Calls Tryz.prog 74 #[pv b, .pointer (some ⟨E, 0, none⟩)] w fun r w' => r = .returned (.tuple #[]) ∧ w'.heap[b]? = some (scX S (kOth N false [] [] S x0).2) ∧ ∃ vc vo, w'.heap[E]? = some (.cells (F vc vo) 40 (0, 0)) ∧ StrsAt w.heap.size vc (kOth N false [] [] S x0).1.1 w' ∧ StrsAt w.heap.size vo (kOth N false [] [] S x0).1.2 w' ∧ B2 b E w w' := by
  obtain ⟨i0, hi0, hz0, hz1, hz2⟩ := info_parts infoStr
  have HW := Lib.hid (fun (u : World) (g : Nat) (t : Bool) (x : Sc) (h : u.heap[b]? = some (scX S x)) (hk : x.k ≤ S.size) (hr : u.heap[g]? = some (.cells #[.string wLf, .string wWo, .string wWi] 9 (0, 0))) (hg : g ≠ b) => xw_sc h hk (lt_big hs) (lO_in t hr) hg (wds_lO t))
  have HI0 := Lib.hid (fun (u : World) (x : Sc) (hk : x.k ≤ S.size) (h : u.heap[b]? = some (scX S x)) => p27ide h hk hs)
  have hM : ∃ M, kOth N false [] [] S x0 = M := ⟨_, rfl⟩
  obtain ⟨M, hM⟩ := hM
  rw [hM]
  have l2 : E < w.heap.size := row_lt hE
  have tg0 := hT.heap
  have HM := Lib.hid hM
  have HN := Lib.hid hN
  have HK := Lib.hid hk0
  clear hM hN hk0
  go_enter Tryz.func74, Tryz.ntmps74
  go_wp2_with fail
  obtain ⟨u0, hu0⟩ : ∃ u, u = (w.alloc (.cells #[xp b] 47)).alloc (.cells #[.string ⟨#[10]⟩, .string ⟨#[32, 119, 105, 116, 104, 111, 117, 116, 32]⟩, .string ⟨#[32, 119, 105, 116, 104, 32]⟩] 9) := ⟨_, rfl⟩
  have C0 : OS S b E w.heap.size (w.heap.size + 1) F w x0 [] [] (.slice none 0 0) (.slice none 0 0) (w.heap.size + 1 + 1) u0 := by
    have B0 : Below w.heap.size w u0 := hu0 ▸ al2 w _ _
    exact ⟨row_kept h B0, row_kept hE B0, hu0 ▸ row_on (heap_alloc_new _ _) (al1 _ _), hu0 ▸ row_new1 _ _ _, .bl B0, hT.on B0, StrsAt.emp _ _, StrsAt.emp _ _, (fun k e => by cases e), Nat.le_refl _, by rw [hu0]; simp⟩
  rw [← hu0]
  clear hu0 h hE hT
  generalize hPB : w.heap.size = PB at *
  generalize hg : PB + 1 = g at *
  have tg : 0 < g := by omega
  have l3 : PB < g := by omega
  have lw : w.heap.size ≤ PB := Nat.le_of_eq hPB
  go_loopw [4] (fun v wr => ∃ (t : Bool) (x : Sc) (co om : List ByteArray) (vc vo : Value) (D n : Nat), v = .slice (some ⟨g, 0, none⟩) (lO t).length 3 ∧ Hid (OS S b E PB g F w x co om vc vo D wr ∧ x.k ≤ S.size ∧ msr S x < n ∧ co.length + om.length + n ≤ N ∧ (t = false → om = [] ∧ vo = .slice none 0 0) ∧ kOth n t co om S x = M)) (fun _ wr => msW S b wr)
  case atStart => exact ⟨false, x0, [], [], _, _, _, N, rfl, Lib.hid ⟨C0, HK.out, HN.out, by simp, fun _ => ⟨rfl, rfl⟩, HM.out⟩⟩
  case round =>
    clear C0
    obtain ⟨t, x, co, om, vc, vo, D, n, rfl, HR⟩ := hrel
    obtain ⟨hC, hk, hn, hl, ht, hM⟩ := HR.out
    obtain ⟨n, rfl⟩ : ∃ m, n = m + 1 := ⟨n - 1, by omega⟩
    have HC := Lib.hid hC
    have cP : wr.cell? ⟨PB, 0, none⟩ = some (xp b) := by rw [cell_of_row _ _ _ _ _ _ hC.p]; rfl
    have HW1 := Lib.hid (HW.out wr g t x hC.s hk hC.gr (by omega))
    have hk1 := ((gd_W (lO t)).le S x hk).2
    have hst := fun hi => oth_step (f := yI) gd_I (wds_lO t).ok hk hi
    have hlo := (lO_len' t).2
    have eK : kOth (n + 1) t co om S x = (if (yW (lO t) S x).1 = 2 then yB yI fun s => kOth n t (co ++ [s]) om else if (yW (lO t) S x).1 = 1 then yB yI fun s => kOth n true co (om ++ [s]) else yR (co, om)) S (yW (lO t) S x).2 := rfl
    rw [eK] at hM
    have hW3 : (yW (lO t) S x).1 = 2 → t = false := fun e => by
      cases t
      · rfl
      · exfalso
        have := wd_small (S := S) (x := x) (lO true)
        have e2 : ((lO true).length : Int) = 2 := rfl
        omega
    clear hC HR eK
    generalize yW (lO t) S x = q at *
    obtain ⟨i, x1⟩ := q
    simp only at hM hk1 hst hW3 HW1
    by_cases c2 : i = 2
    · subst c2
      obtain rfl := hW3 rfl
      obtain ⟨rfl, rfl⟩ := ht rfl
      rw [if_pos rfl] at hM
      have hM2 : kOth n false (co ++ [(yI S x1).1]) [] S (yI S x1).2 = M := hM
      have HI := Lib.hid (fun (u : World) (h : u.heap[b]? = some (scX S x1)) => HI0.out u x1 hk1 h)
      have hst := hst (by decide)
      have hk2 := (gd_I.le S x1 hk1).2
      generalize yI S x1 = q at *
      obtain ⟨si, x2⟩ := q
      have HX := Lib.hid (⟨by omega, hst, hk2, by omega, hM2⟩ : co.length + 1 ≤ 1000000 ∧ msr S x2 < msr S x ∧ x2.k ≤ S.size ∧ msr S x < n + 1 ∧ kOth n false (co ++ [si]) [] S x2 = M)
      have HL := Lib.hid hl
      clear hM hM2 hst hk2 hk1 hk hn hl ht hW3 hlo
      go_wp2_with fail
      refine HW1.out.mono ?_
      rintro e1 w1 ⟨rfl, s1, g1⟩
      have C1 := HC.out.call l1 l2 l3 s1 g1
      clear s1 g1 HW1 cP
      go_wp2_with fail
      refine till_start (fun u => ∃ x, OS S b E PB g F w x co [] vc (.slice none 0 0) D u) 8 (by kernel_rfl) ?_
      have C1d := C1.below (below_dn (Below.refl _ _) 1)
      refine till_take (i := 0) (oi := { dst := some 12, op := _, type := _, pos := _, after := _, guard := _ }) (v := ?vc0) rfl (by kernel_rfl) (by kernel_rfl) (by kernel_rfl) (fun _ _ _ h => h) (by decide) (Or.inl ⟨by rfl, ?hc0⟩) (.inr ⟨_, C1d⟩) ?_
      case hc0 => (intro w _; go_simp; try with_reducible rfl)
      (try simp only [Act.put, List.setIfInBounds_toArray, List.set_cons_zero, List.set_cons_succ])
      refine till_take (i := 1) (oi := { dst := some 13, op := _, type := _, pos := _, after := _, guard := _ }) (v := ?vc1) rfl (by kernel_rfl) (by kernel_rfl) (by kernel_rfl) (fun _ _ _ h => h) (by decide) (Or.inl ⟨by rfl, ?hc1⟩) (.inr ⟨_, C1d⟩) ?_
      case hc1 => (intro w _; go_simp; try with_reducible rfl)
      (try simp only [Act.put, List.setIfInBounds_toArray, List.set_cons_zero, List.set_cons_succ])
      refine till_take (i := 2) (oi := { dst := some 14, op := _, type := _, pos := _, after := _, guard := _ }) (v := ?vc2) rfl (by kernel_rfl) (by kernel_rfl) (by kernel_rfl) (fun _ _ _ h => h) (by decide) (Or.inl ⟨by rfl, ?hc2⟩) (.inr ⟨_, C1d⟩) ?_
      case hc2 => (intro w _; go_simp; try with_reducible rfl)
      (try simp only [Act.put, List.setIfInBounds_toArray, List.set_cons_zero, List.set_cons_succ])
      refine till_take (i := 3) (oi := { dst := some 15, op := _, type := _, pos := _, after := _, guard := _ }) (v := ?vc3) rfl (by kernel_rfl) (by kernel_rfl) (by kernel_rfl) (fun _ _ _ h => h) (by decide) (Or.inl ⟨by rfl, ?hc3⟩) (.inr ⟨_, C1d⟩) ?_
      case hc3 => (intro w _; go_simp; try with_reducible rfl)
      (try simp only [Act.put, List.setIfInBounds_toArray, List.set_cons_zero, List.set_cons_succ])
      refine till_take_load (i := 4) (oi := { dst := some 16, op := _, type := _, pos := _, after := _, guard := _ }) (v := ?vc4) rfl (by kernel_rfl) (by kernel_rfl) (by kernel_rfl) (fun _ _ _ h => h) (by kernel_rfl) (by decide) (by kernel_rfl) (Or.inl ⟨by rfl, ?hc4⟩) ⟨_, C1d⟩ ?_
      case hc4 => (intro w hSw; (try dsimp only at hSw); obtain ⟨_, hSw⟩ := hSw; have q0 := cell_of_row w E 12 _ _ _ hSw.v; rw [hF12] at q0; go_simp; try with_reducible rfl)
      (try simp only [Act.put, List.setIfInBounds_toArray, List.set_cons_zero, List.set_cons_succ])
      refine till_one (i := 5) (o := { dst := some 17, op := _, type := _, pos := _, after := _, guard := _ }) (by kernel_rfl) rfl (fun K hK => ?_)
      have cP : w1.cell? ⟨PB, 0, none⟩ = some (xp b) := (cell_of_row w1 PB 0 _ _ _ C1.p)
      go_simp
      refine hK.out _ _ (.inr ⟨_, C1d⟩) ?_
      clear hK K cP
      (try simp only [Act.put, List.setIfInBounds_toArray, List.set_cons_zero, List.set_cons_succ])
      refine till_one (i := 6) (o := { dst := some 18, op := _, type := _, pos := _, after := _, guard := _ }) (by kernel_rfl) rfl (fun K hK => ?_)
      go_simp
      go_at_call 94
      refine (HI.out _ C1d.s).mono ?_
      rintro e2 w2 ⟨rfl, s2, g2⟩
      have C2 := C1d.call l1 l2 l3 s2 g2
      refine hK.out _ _ (.inr ⟨_, C2⟩) ?_
      clear hK K C1 C1d s2 g2
      (try simp only [Act.put, List.setIfInBounds_toArray, List.set_cons_zero, List.set_cons_succ])
      refine till_one (i := 7) (o := { dst := some 19, op := _, type := _, pos := _, after := _, guard := _ }) (by kernel_rfl) rfl (fun K hK => ?_)
      go_simp
      have C3 := C2.below (al1 w2 (.cells #[.string si] 9))
      refine hK.out _ _ (.inr ⟨_, C3⟩) ?_
      clear hK K
      (try simp only [Act.put, List.setIfInBounds_toArray, List.set_cons_zero, List.set_cons_succ])
      refine till_one (i := 8) (o := { dst := some 20, op := _, type := _, pos := _, after := _, guard := _ }) (by kernel_rfl) rfl (fun K hK => ?_)
      rw [if_pos (by rfl)]
      refine wp_append_lies _ _ _ 38 (by rfl) (g + 1) 9 i0 (.string ⟨#[]⟩) 1 16 Tryz.underlying38 hi0 hz0 hz1 hz2 rfl (by decide) vc co.length (co.map Value.string) (by rfl) C3.c ⟨w2.heap.size, 0, none⟩ 1 1 [.string si] (by rfl) (by rfl) (cell_one_new w2 (.string si) 9) (by simp [Value.oneCell']) (by decide) (by have := HX.out.1; unfold maxLen; omega) (by have := HX.out.1; omega) (by have := C3.z; have := C3.zD; omega) _ rfl ?_
      intro gN capN wz hown hgrow hnew hlt
      obtain ⟨C4, zE⟩ := C3.addc l1 l2 l3 lw tE tg hS12 hown hgrow hlt
      refine hK.out _ _ (.inl rfl) ?_
      clear hK K hown hgrow C3 C2 hnew hlt
      (try simp only [Act.put, List.setIfInBounds_toArray, List.set_cons_zero, List.set_cons_succ])
      refine till_take (i := 9) (oi := { dst := some 21, op := _, type := _, pos := _, after := _, guard := _ }) (v := ?vc9) rfl (by kernel_rfl) (by kernel_rfl) (by kernel_rfl) (fun _ _ _ h => h) (by decide) (Or.inl ⟨by rfl, ?hc9⟩) (.inl rfl) ?_
      case hc9 => (intro w _; go_simp; try with_reducible rfl)
      (try simp only [Act.put, List.setIfInBounds_toArray, List.set_cons_zero, List.set_cons_succ])
      refine till_take (i := 10) (oi := { dst := some 22, op := _, type := _, pos := _, after := _, guard := _ }) (v := ?vc10) rfl (by kernel_rfl) (by kernel_rfl) (by kernel_rfl) (fun _ _ _ h => h) (by decide) (Or.inl ⟨by rfl, ?hc10⟩) (.inl rfl) ?_
      case hc10 => (intro w _; go_simp; try with_reducible rfl)
      (try simp only [Act.put, List.setIfInBounds_toArray, List.set_cons_zero, List.set_cons_succ])
      have q0 : wz.cell? ⟨E, 12, none⟩ = some vc := (cell_of_row wz E 12 _ _ _ zE).trans (hF12 _ _)
      have q1 : wz.frozen? ⟨E, 12, none⟩ = false := frozen_of_row wz E 12 _ _ zE
      refine till_one (i := 11) (o := { dst := none, op := _, type := _, pos := _, after := _, guard := _ }) (by kernel_rfl) rfl (fun K hK => ?_)
      go_simp
      refine hK.out _ _ (.inl rfl) ?_
      clear hK K q0 q1 zE
      (try simp only [Act.put, List.setIfInBounds_toArray, List.set_cons_zero, List.set_cons_succ])
      refine till_done (by kernel_rfl) ?_ _
      go_wp2_with fail
      go_roundw
      case rel => exact ⟨false, x2, co ++ [si], [], _, _, _, n, rfl, Lib.hid ⟨C4, HX.out.2.2.1, by have h1 := HX.out.2.1; have h2 := HX.out.2.2.2.1; omega, by have := HL.out; rw [List.length_append]; simp only [List.length_cons, List.length_nil] at this ⊢; omega, fun _ => ⟨rfl, rfl⟩, HX.out.2.2.2.2⟩⟩
      case measure => rw [msW_is C4.s, msW_is HC.out.s]; exact HX.out.2.1
    · by_cases c1 : i = 1
      · subst c1
        rw [if_neg (by decide), if_pos rfl] at hM
        have hM2 : kOth n true co (om ++ [(yI S x1).1]) S (yI S x1).2 = M := hM
        have HI := Lib.hid (fun (u : World) (h : u.heap[b]? = some (scX S x1)) => HI0.out u x1 hk1 h)
        have hst := hst (by decide)
        have hk2 := (gd_I.le S x1 hk1).2
        generalize yI S x1 = q at *
        obtain ⟨si, x2⟩ := q
        have HX := Lib.hid (⟨by omega, hst, hk2, by omega, hM2⟩ : om.length + 1 ≤ 1000000 ∧ msr S x2 < msr S x ∧ x2.k ≤ S.size ∧ msr S x < n + 1 ∧ kOth n true co (om ++ [si]) S x2 = M)
        have HL := Lib.hid hl
        have hlen : (((lO t).length : Nat) : Int) = 2 ∨ (((lO t).length : Nat) : Int) = 3 := by omega
        clear hM hM2 hst hk2 hk1 hk hn hl ht hW3 c2
        go_wp2_with fail
        refine HW1.out.mono ?_
        rintro e1 w1 ⟨rfl, s1, g1⟩
        have C1 := HC.out.call l1 l2 l3 s1 g1
        clear s1 g1 HW1 cP
        go_wp2_with fail
        refine till_start (fun u => ∃ x, OS S b E PB g F w x co om vc vo D u) 8 (by kernel_rfl) ?_
        have C1d := C1.below (below_dn (Below.refl _ _) 1)
        refine till_take (i := 0) (oi := { dst := some 25, op := _, type := _, pos := _, after := _, guard := _ }) (v := ?vm0) rfl (by kernel_rfl) (by kernel_rfl) (by kernel_rfl) (fun _ _ _ h => h) (by decide) (Or.inl ⟨by rfl, ?hm0⟩) (.inr ⟨_, C1d⟩) ?_
        case hm0 => (intro w _; go_simp; try with_reducible rfl)
        (try simp only [Act.put, List.setIfInBounds_toArray, List.set_cons_zero, List.set_cons_succ])
        refine till_take (i := 1) (oi := { dst := some 26, op := _, type := _, pos := _, after := _, guard := _ }) (v := ?vm1) rfl (by kernel_rfl) (by kernel_rfl) (by kernel_rfl) (fun _ _ _ h => h) (by decide) (Or.inl ⟨by rfl, ?hm1⟩) (.inr ⟨_, C1d⟩) ?_
        case hm1 => (intro w _; go_simp; try with_reducible rfl)
        (try simp only [Act.put, List.setIfInBounds_toArray, List.set_cons_zero, List.set_cons_succ])
        refine till_take (i := 2) (oi := { dst := some 27, op := _, type := _, pos := _, after := _, guard := _ }) (v := ?vm2) rfl (by kernel_rfl) (by kernel_rfl) (by kernel_rfl) (fun _ _ _ h => h) (by decide) (Or.inl ⟨by rfl, ?hm2⟩) (.inr ⟨_, C1d⟩) ?_
        case hm2 => (intro w _; go_simp; try with_reducible rfl)
        (try simp only [Act.put, List.setIfInBounds_toArray, List.set_cons_zero, List.set_cons_succ])
        refine till_take (i := 3) (oi := { dst := some 28, op := _, type := _, pos := _, after := _, guard := _ }) (v := ?vm3) rfl (by kernel_rfl) (by kernel_rfl) (by kernel_rfl) (fun _ _ _ h => h) (by decide) (Or.inl ⟨by rfl, ?hm3⟩) (.inr ⟨_, C1d⟩) ?_
        case hm3 => (intro w _; go_simp; try with_reducible rfl)
        (try simp only [Act.put, List.setIfInBounds_toArray, List.set_cons_zero, List.set_cons_succ])
        refine till_take_load (i := 4) (oi := { dst := some 29, op := _, type := _, pos := _, after := _, guard := _ }) (v := ?vm4) rfl (by kernel_rfl) (by kernel_rfl) (by kernel_rfl) (fun _ _ _ h => h) (by kernel_rfl) (by decide) (by kernel_rfl) (Or.inl ⟨by rfl, ?hm4⟩) ⟨_, C1d⟩ ?_
        case hm4 => (intro w hSw; (try dsimp only at hSw); obtain ⟨_, hSw⟩ := hSw; have q0 := cell_of_row w E 13 _ _ _ hSw.v; rw [hF13] at q0; go_simp; try with_reducible rfl)
        (try simp only [Act.put, List.setIfInBounds_toArray, List.set_cons_zero, List.set_cons_succ])
        refine till_one (i := 5) (o := { dst := some 30, op := _, type := _, pos := _, after := _, guard := _ }) (by kernel_rfl) rfl (fun K hK => ?_)
        have cP : w1.cell? ⟨PB, 0, none⟩ = some (xp b) := (cell_of_row w1 PB 0 _ _ _ C1.p)
        go_simp
        refine hK.out _ _ (.inr ⟨_, C1d⟩) ?_
        clear hK K cP
        (try simp only [Act.put, List.setIfInBounds_toArray, List.set_cons_zero, List.set_cons_succ])
        refine till_one (i := 6) (o := { dst := some 31, op := _, type := _, pos := _, after := _, guard := _ }) (by kernel_rfl) rfl (fun K hK => ?_)
        go_simp
        go_at_call 94
        refine (HI.out _ C1d.s).mono ?_
        rintro e2 w2 ⟨rfl, s2, g2⟩
        have C2 := C1d.call l1 l2 l3 s2 g2
        refine hK.out _ _ (.inr ⟨_, C2⟩) ?_
        clear hK K C1 C1d s2 g2
        (try simp only [Act.put, List.setIfInBounds_toArray, List.set_cons_zero, List.set_cons_succ])
        refine till_one (i := 7) (o := { dst := some 32, op := _, type := _, pos := _, after := _, guard := _ }) (by kernel_rfl) rfl (fun K hK => ?_)
        go_simp
        have C3 := C2.below (al1 w2 (.cells #[.string si] 9))
        refine hK.out _ _ (.inr ⟨_, C3⟩) ?_
        clear hK K
        (try simp only [Act.put, List.setIfInBounds_toArray, List.set_cons_zero, List.set_cons_succ])
        refine till_one (i := 8) (o := { dst := some 33, op := _, type := _, pos := _, after := _, guard := _ }) (by kernel_rfl) rfl (fun K hK => ?_)
        rw [if_pos (by rfl)]
        refine wp_append_lies _ _ _ 38 (by rfl) (D) 9 i0 (.string ⟨#[]⟩) 1 16 Tryz.underlying38 hi0 hz0 hz1 hz2 rfl (by decide) vo om.length (om.map Value.string) (by rfl) C3.m ⟨w2.heap.size, 0, none⟩ 1 1 [.string si] (by rfl) (by rfl) (cell_one_new w2 (.string si) 9) (by simp [Value.oneCell']) (by decide) (by have := HX.out.1; unfold maxLen; omega) (by have := HX.out.1; omega) (by have := C3.z; have := C3.zD; omega) _ rfl ?_
        intro gN capN wz hown hgrow hnew hlt
        obtain ⟨C4, zE⟩ := C3.addm l1 l2 l3 lw tE tg hS13 hown hgrow
        refine hK.out _ _ (.inl rfl) ?_
        clear hK K hown hgrow C3 C2 hnew hlt
        (try simp only [Act.put, List.setIfInBounds_toArray, List.set_cons_zero, List.set_cons_succ])
        refine till_take (i := 9) (oi := { dst := some 34, op := _, type := _, pos := _, after := _, guard := _ }) (v := ?vm9) rfl (by kernel_rfl) (by kernel_rfl) (by kernel_rfl) (fun _ _ _ h => h) (by decide) (Or.inl ⟨by rfl, ?hm9⟩) (.inl rfl) ?_
        case hm9 => (intro w _; go_simp; try with_reducible rfl)
        (try simp only [Act.put, List.setIfInBounds_toArray, List.set_cons_zero, List.set_cons_succ])
        refine till_take (i := 10) (oi := { dst := some 35, op := _, type := _, pos := _, after := _, guard := _ }) (v := ?vm10) rfl (by kernel_rfl) (by kernel_rfl) (by kernel_rfl) (fun _ _ _ h => h) (by decide) (Or.inl ⟨by rfl, ?hm10⟩) (.inl rfl) ?_
        case hm10 => (intro w _; go_simp; try with_reducible rfl)
        (try simp only [Act.put, List.setIfInBounds_toArray, List.set_cons_zero, List.set_cons_succ])
        have q0 : wz.cell? ⟨E, 13, none⟩ = some vo := (cell_of_row wz E 13 _ _ _ zE).trans (hF13 _ _)
        have q1 : wz.frozen? ⟨E, 13, none⟩ = false := frozen_of_row wz E 13 _ _ zE
        refine till_one (i := 11) (o := { dst := none, op := _, type := _, pos := _, after := _, guard := _ }) (by kernel_rfl) rfl (fun K hK => ?_)
        go_simp
        refine hK.out _ _ (.inl rfl) ?_
        clear hK K q0 q1 zE
        (try simp only [Act.put, List.setIfInBounds_toArray, List.set_cons_zero, List.set_cons_succ])
        refine till_done (by kernel_rfl) ?_ _
        have hsl : ∀ u : World, (Instr.slice 38 (.slice (some ⟨g, 0, none⟩) (lO t).length 3) none (some (.int .i64 2)) none).run Tryz.prog u = .ok (.slice (some ⟨g, 0, none⟩) 2 3) u := fun u => by
          rcases hlo with e | e <;> (rw [e]; simp [go_sem])
        go_wp2_with fail
        go_roundw
        case rel => exact ⟨true, x2, co, om ++ [si], _, _, _, n, rfl, Lib.hid ⟨C4, HX.out.2.2.1, by have h1 := HX.out.2.1; have h2 := HX.out.2.2.2.1; omega, by have := HL.out; rw [List.length_append]; simp only [List.length_cons, List.length_nil]; omega, (fun (h : true = false) => absurd h (by decide)), HX.out.2.2.2.2⟩⟩
        case measure => rw [msW_is C4.s, msW_is HC.out.s]; exact HX.out.2.1
      · rw [if_neg c2, if_neg c1] at hM
        obtain rfl : M = ((co, om), x1) := hM.symm
        have b2 : (i == 2) = false := beq_eq_false_iff_ne.2 c2
        have b1 : (i == 1) = false := beq_eq_false_iff_ne.2 c1
        clear hM hst hk1 hk hn hl ht hW3 hlo c1 c2
        go_wp2_with fail
        refine HW1.out.mono ?_
        rintro e1 w1 ⟨rfl, s1, g1⟩
        have C1 := HC.out.call l1 l2 l3 s1 g1
        clear s1 g1 HW1 cP
        go_wp2_with fail
        refine bodyPost_ret (results_none rfl _ _ _) rfl ?_
        exact ⟨rfl, C1.s, vc, vo, C1.v, own_base C1.c (by omega), own_base C1.m (by have := C1.zD; omega), C1.bl⟩
end Go.Proofs.YtkhicgafhbecfaaGreatDoor
