/- Package cattext: Print. -/
import Derived.Test.YthmfhgehahpgbaaGreatDoorYr
import Derived.Test.YthmfhgehahpgbaaGreatDoorYs
namespace Go.Proofs.YthmfhgehahpgbaaGreatDoor
open Go.RowKit

/-! what Print's calls keep -/
structure PrS (w0 : World) (f : Int) (v1 v2 : Value) (t : ByteArray) (u : World) : Prop where
  row : u.heap[w0.heap.size]? = some (.cells #[.int .i64 f, v1, v2] 26 (0, 0))
  bl : Below w0.heap.size w0 u
  bu : Lib.IsBuilderF 67 5 (w0.heap.size + 1) (w0.heap.size + 1) (Lib.strCells t) u
theorem bu_on {T e : TypeId} {B b : Nat} {p : Value} {bs : List Value} {u u' : World} (h : Lib.BuilderAtF T e B b p bs u) (hb : Below u.heap.size u u') : Lib.BuilderAtF T e B b p bs u' := by
  obtain ⟨hB, v, hr, ho, hn⟩ := h
  exact ⟨hB, v, row_kept hr hb, ho.kept (grown_of_below hb none) (by cases v.ownBlock <;> simp), hn⟩
theorem PrS.on {w0 : World} {f : Int} {v1 v2 : Value} {t : ByteArray} {u u' : World} (h : PrS w0 f v1 v2 t u) (hb : Below u.heap.size u u') : PrS w0 f v1 v2 t u' :=
  ⟨row_kept h.row hb, below_on h.bl hb, h.bu.elim (fun x => .inl (bu_on x hb)) (fun x => .inr (bu_on x hb))⟩
theorem PrS.lt {w0 : World} {f : Int} {v1 v2 : Value} {t : ByteArray} {u : World} (h : PrS w0 f v1 v2 t u) : w0.heap.size + 1 < u.heap.size := by
  rcases h.bu with ⟨_, v, hr, _⟩ | ⟨_, v, hr, _⟩
  · exact row_lt hr
  · exact row_lt hr
theorem str_app (a b : ByteArray) : Lib.strCells (a ++ b) = Lib.strCells a ++ Lib.strCells b := by
  rw [Lib.strCells_eq, Lib.strCells_eq, Lib.strCells_eq, ByteArray.data_append, Array.toList_append, Lib.byteCells_append]
theorem prs_write {w0 : World} {f : Int} {v1 v2 : Value} {t s : ByteArray} {u : World} (h : PrS w0 f v1 v2 t u) (hl : t.size + s.size ≤ 140737488355328) :
    Calls Tryz.prog 29 #[.pointer (some ⟨w0.heap.size + 1, 0, none⟩), .string s] u fun e u' => e = .returned (.tuple #[.int .i64 s.size, .nilIface]) ∧ PrS w0 f v1 v2 (t ++ s) u' ∧ Lib.OthersKept 5 (some (w0.heap.size + 1)) u u' := by
  refine (sh_WriteString _ _ _ s u h.bu (by rw [Lib.strCells_length]; exact hl) (Nat.le_of_lt h.lt)).mono ?_
  rintro e u' ⟨rfl, h1, h2, h3⟩
  refine ⟨rfl, ⟨?_, h.bl.trans (h2.mono (Nat.le_succ _)), .inr (by rw [str_app]; exact h1)⟩, h3⟩
  rw [h2.block _ (Nat.lt_succ_self _)]
  exact h.row
theorem prs_string {w0 : World} {f : Int} {v1 v2 : Value} {t : ByteArray} {u : World} (h : PrS w0 f v1 v2 t u) :
    Calls Tryz.prog 34 #[.pointer (some ⟨w0.heap.size + 1, 0, none⟩)] u fun e u' => e = .returned (.string t) ∧ Below w0.heap.size w0 u' := by
  have hb := h.bu
  rw [Lib.strCells_eq] at hb
  refine (sh_String _ _ t.data.toList u hb (Nat.le_of_lt h.lt)).mono ?_
  rintro e u' ⟨rfl, h1, h2, h3⟩
  exact ⟨by rw [Lib.mk_data], h.bl.trans (h2.mono (Nat.le_succ _))⟩
theorem PrS.new (w : World) (f : Int) (v1 v2 : Value) : PrS w f v1 v2 ByteArray.empty ((w.alloc (.cells #[.int .i64 f, v1, v2] 26)).alloc (.cells #[.pointer none, .slice none 0 0] 67)) := by
  have e1 := heap_alloc_new (w.alloc (.cells #[.int .i64 f, v1, v2] 26)) (.cells #[.pointer none, .slice none 0 0] 67)
  have es : (w.alloc (.cells #[.int .i64 f, v1, v2] 26)).heap.size = w.heap.size + 1 := by simp
  rw [es] at e1
  exact ⟨row_kept (heap_alloc_new w _) (al1 _ _), below_on (al1 w _) (al1 _ _), .inl ⟨Nat.le_refl _, _, e1, World.ownsRowF_nil _ _ _ _, by simp [Value.ownBlock]⟩⟩
theorem oth_row {b : Nat} {u u' : World} (h : Lib.OthersKept 5 (some b) u u') {X : Nat} {cs : Array Value} {T : TypeId} (hr : u.heap[X]? = some (.cells cs T (0, 0))) (hb : b < X) (hT : T ≠ 5) : u'.heap[X]? = some (.cells cs T (0, 0)) :=
  h X _ hr (fun e => by injection e with e; omega) (fun c fz e => hT (by injection e))
/-! the lines -/
theorem txS_jn (t : Itm) : txS t = jn [wSe5, t.id, itB t.x, itB t.y, txJ t.anc] ++ wLf := by
  have e : wSea = wSe5 ++ wSp := rfl
  unfold txS
  rw [txA_J, e]
  simp only [jn, ByteArray.append_assoc]
theorem txF_jn (t : Itm) : txF t = jn [wFe5, t.id, itB t.x, txP t.y, txJ t.anc] ++ wLf := by
  have e : wFea = wFe5 ++ wSp := rfl
  unfold txF
  rw [txA_J, e]
  simp only [jn, ByteArray.append_assoc]
theorem txs_take (f : Itm → ByteArray) : ∀ (l : List Itm) (k : Nat) (t : Itm), l[k]? = some t → txs f (l.take (k + 1)) = txs f (l.take k) ++ f t
  | [], k, t, h => by simp at h
  | x :: l, 0, t, h => by
    simp at h; subst h
    simp [txs]
  | x :: l, k + 1, t, h => by
    have := txs_take f l k t (by simpa using h)
    rw [List.take_succ_cons, List.take_succ_cons]
    show f x ++ txs f (l.take (k + 1)) = f x ++ txs f (l.take k) ++ f t
    rw [this, ByteArray.append_assoc]
theorem txs_size (f : Itm → ByteArray) (n : Nat) : ∀ l : List Itm, (∀ t ∈ l, (f t).size ≤ n) → (txs f l).size ≤ l.length * n
  | [], _ => by simp [txs]
  | x :: l, h => by
    have h1 := h x (by simp)
    have h2 := txs_size f n l fun t ht => h t (by simp [ht])
    show (f x ++ txs f l).size ≤ _
    rw [ByteArray.size_append, List.length_cons, Nat.succ_mul]
    omega
theorem txP_size (y : Int) : (txP y).size ≤ 11 := by
  unfold txP
  split
  · decide
  · split <;> decide
/-- An item whose text is asked. -/
def gdS (t : Itm) : Bool := okS t && decide (t.id.size ≤ 500000)
def gdF (t : Itm) : Bool := okF t && decide (t.id.size ≤ 500000)
theorem gdS_parts {t : Itm} (h : gdS t = true) : inT t.x = true ∧ inT t.y = true ∧ ancB t.anc = true ∧ (jn [wSe5, t.id, itB t.x, itB t.y, txJ t.anc]).size ≤ 600000 := by
  unfold gdS okS at h
  simp only [Bool.and_eq_true, decide_eq_true_eq] at h
  obtain ⟨⟨_, hx, hy, ha⟩, hi⟩ := h
  have a1 := itB_size hx
  have a2 := itB_size hy
  have a3 := txJ_size ha
  refine ⟨hx, hy, ha, ?_⟩
  have e1 : wSe5.size = 6 := rfl
  have e2 : wSp.size = 1 := rfl
  simp only [jn, ByteArray.size_append]; omega
theorem gdF_parts {t : Itm} (h : gdF t = true) : inT t.x = true ∧ (1 ≤ t.y ∧ t.y ≤ 3) ∧ ancB t.anc = true ∧ (jn [wFe5, t.id, itB t.x, txP t.y, txJ t.anc]).size ≤ 600000 := by
  unfold gdF okF at h
  simp only [Bool.and_eq_true, decide_eq_true_eq] at h
  obtain ⟨⟨_, hx, hy, ha⟩, hi⟩ := h
  have a1 := itB_size hx
  have a2 := txP_size t.y
  have a3 := txJ_size ha
  refine ⟨hx, hy, ha, ?_⟩
  have e1 : wFe5.size = 5 := rfl
  have e2 : wSp.size = 1 := rfl
  simp only [jn, ByteArray.size_append]; omega
theorem txS_size {t : Itm} (h : gdS t = true) : (txS t).size ≤ 1000000 := by
  have h := (gdS_parts h).2.2.2
  rw [txS_jn, ByteArray.size_append]
  have e : wLf.size = 1 := rfl
  omega
theorem txF_size {t : Itm} (h : gdF t = true) : (txF t).size ≤ 1000000 := by
  have h := (gdF_parts h).2.2.2
  rw [txF_jn, ByteArray.size_append]
  have e : wLf.size = 1 := rfl
  omega
/-! an item's block -/
theorem nine_row {q : Nat} {T : TypeId} {id : ByteArray} {x y k m d o w c : Int} {u : World} (h : u.heap[q]? = some (.cells #[.string id, .int .i64 x, .int .i64 y, .int .i64 k, .int .i64 m, .int .i64 d, .int .i64 o, .int .i64 w, .int .i64 c] T (0, 0))) :
    u.cell? ⟨q, 0, none⟩ = some (.string id) ∧ u.cell? ⟨q, 1, none⟩ = some (.int .i64 x) ∧ u.cell? ⟨q, 2, none⟩ = some (.int .i64 y) ∧ u.cell? ⟨q, 3, none⟩ = some (.int .i64 k) ∧ u.cell? ⟨q, 4, none⟩ = some (.int .i64 m) ∧ u.cell? ⟨q, 5, none⟩ = some (.int .i64 d) ∧ u.cell? ⟨q, 6, none⟩ = some (.int .i64 o) ∧ u.cell? ⟨q, 7, none⟩ = some (.int .i64 w) ∧ u.cell? ⟨q, 8, none⟩ = some (.int .i64 c) := by
  refine ⟨?_, ?_, ?_, ?_, ?_, ?_, ?_, ?_, ?_⟩ <;> (rw [cell_of_row _ _ _ _ _ _ h]; rfl)
end Go.Proofs.YthmfhgehahpgbaaGreatDoor
