/- What earlier stages proved: Da Db Dd. -/
import Derived.Test.YtnfeihbkemgecaaDoorKc
import Derived.Test.YtnfeihbkemgecaaDoorKa
import Derived.Test.YtnfeihbkemgecaaDoorKr
import Derived.Test.YtnfeihbkemgecaaDoorKw
namespace Go.Proofs.YtnfeihbkemgecaaDoor

def inG (y : Int) : Bool := decide (1583 ≤ y) && decide (y ≤ 1000000000)
theorem inG_iff {y : Int} : inG y = true ↔ 1583 ≤ y ∧ y ≤ 1000000000 := by simp [inG]
def gold (y : Int) : Int := y % 19 + 1
def cent (y : Int) : Int := y / 100 + 1
def solr (y : Int) : Int := 3 * cent y / 4 - 12
def lunr (y : Int) : Int := (8 * cent y + 5) / 25 - 5
/-- 0 in range, 1 outside. -/
def eB (b : Bool) : Int := if b = true then 0 else 1
def vB (b : Bool) (n : Int) : Int := if b = true then n else 0
theorem cent_bd {y : Int} (h1 : 1 ≤ y) (h2 : y ≤ 1000000000) : 1 ≤ cent y ∧ cent y ≤ 10000001 := by unfold cent; omega
theorem gold_bd (y : Int) : 1 ≤ gold y ∧ gold y ≤ 19 := by unfold gold; omega
theorem solr_bd {y : Int} (h1 : 1583 ≤ y) (h2 : y ≤ 1000000000) : 0 ≤ solr y ∧ solr y ≤ 10000000 := by unfold solr cent; omega
theorem lunr_bd {y : Int} (h1 : 1583 ≤ y) (h2 : y ≤ 1000000000) : 0 ≤ lunr y ∧ lunr y ≤ 10000000 := by unfold lunr cent; omega

end Go.Proofs.YtnfeihbkemgecaaDoor

namespace Go.Proofs.YtnfeihbkemgecaaDoor
open Go.RowKit

theorem grem_pos (a b : Int) (w : World) (ha : inR a = true) (hbr : inR b = true) (hb : 0 < b) :
    Calls Tryd.prog 64 #[.int .i64 a, .int .i64 b] w fun e w' => e = .returned (.int .i64 (a % b)) ∧ Below w.heap.size w w' := by
  have H := fun w => mod_pos a b w ha hbr hb
  clear ha hbr hb
  generalize a % b = r at *
  go_enter Tryd.func64, Tryd.ntmps64
  go_wp2_with fail
  refine (H _).mono ?_
  rintro e w1 ⟨rfl, hb1⟩
  go_wp2_with fail
  go_ret
  exact ⟨rfl, hb1⟩
theorem gquo_pos (a b : Int) (w : World) (ha : inR a = true) (hb : 0 < b) :
    Calls Tryd.prog 96 #[.int .i64 a, .int .i64 b] w fun e w' => e = .returned (.int .i64 (a / b)) ∧ Below w.heap.size w w' := by
  have H := fun w => div_pos a b w ha hb
  clear ha hb
  generalize a / b = r at *
  go_enter Tryd.func96, Tryd.ntmps96
  go_wp2_with fail
  refine (H _).mono ?_
  rintro e w1 ⟨rfl, hb1⟩
  go_wp2_with fail
  go_ret
  exact ⟨rfl, hb1⟩
theorem gcof_any (y : Int) (w : World) (h1 : 1 ≤ y) (h2 : y ≤ 1000000000) :
    Calls Tryd.prog 97 #[.int .i64 y] w fun e w' => e = .returned (.int .i64 (cent y)) ∧ Below w.heap.size w w' := by
  have H := fun w => gquo_pos y 100 w (inR_iff.2 (by omega)) (by omega)
  have hv := Lib.hid (show 1 + y / 100 = cent y from by unfold cent; omega)
  have q1 : 0 ≤ y / 100 := by omega
  have q2 : y / 100 ≤ 10000000 := by omega
  generalize cent y = R at *
  generalize y / 100 = q at *
  go_enter Tryd.func97, Tryd.ntmps97
  go_wp2_with fail
  refine (H _).mono ?_
  rintro e w1 ⟨rfl, hb1⟩
  go_wp2_with fail
  go_ret
  exact ⟨ret_int hv.out, hb1⟩
theorem gold1_any (y : Int) (w : World) (h1 : 1 ≤ y) (h2 : y ≤ 1000000000) :
    Calls Tryd.prog 63 #[.int .i64 y] w fun e w' => e = .returned (.int .i64 (gold y)) ∧ Below w.heap.size w w' := by
  have H := fun w => grem_pos y 19 w (inR_iff.2 (by omega)) (by decide) (by omega)
  have hv := Lib.hid (show 1 + y % 19 = gold y from by unfold gold; omega)
  have q1 : 0 ≤ y % 19 := by omega
  have q2 : y % 19 ≤ 18 := by omega
  generalize gold y = R at *
  generalize y % 19 = q at *
  go_enter Tryd.func63, Tryd.ntmps63
  go_wp2_with fail
  refine (H _).mono ?_
  rintro e w1 ⟨rfl, hb1⟩
  go_wp2_with fail
  go_ret
  exact ⟨ret_int hv.out, hb1⟩
theorem solr1_any (y : Int) (w : World) (h1 : 1 ≤ y) (h2 : y ≤ 1000000000) :
    Calls Tryd.prog 95 #[.int .i64 y] w fun e w' => e = .returned (.int .i64 (solr y)) ∧ Below w.heap.size w w' := by
  have HC := fun w => gcof_any y w h1 h2
  obtain ⟨c1, c2⟩ := cent_bd h1 h2
  have H := fun w => gquo_pos (3 * cent y) 4 w (inR_iff.2 (by omega)) (by omega)
  have hv := Lib.hid (show 3 * cent y / 4 - 12 = solr y from rfl)
  generalize solr y = R at *
  have q1 : 0 ≤ 3 * cent y / 4 := by omega
  have q2 : 3 * cent y / 4 ≤ 10000000 := by omega
  generalize 3 * cent y / 4 = q at *
  generalize cent y = c at *
  go_enter Tryd.func95, Tryd.ntmps95
  go_wp2_with fail
  refine (HC _).mono ?_
  rintro e w1 ⟨rfl, hb1⟩
  go_wp2_with fail
  refine (H _).mono ?_
  rintro e w2 ⟨rfl, hb2⟩
  go_wp2_with fail
  go_ret
  exact ⟨ret_int hv.out, hb1.trans (hb2.mono hb1.size)⟩
theorem lunr1_any (y : Int) (w : World) (h1 : 1 ≤ y) (h2 : y ≤ 1000000000) :
    Calls Tryd.prog 98 #[.int .i64 y] w fun e w' => e = .returned (.int .i64 (lunr y)) ∧ Below w.heap.size w w' := by
  have HC := fun w => gcof_any y w h1 h2
  obtain ⟨c1, c2⟩ := cent_bd h1 h2
  have H := fun w => gquo_pos (8 * cent y + 5) 25 w (inR_iff.2 (by omega)) (by omega)
  have hv := Lib.hid (show (8 * cent y + 5) / 25 - 5 = lunr y from rfl)
  generalize lunr y = R at *
  have q1 : 0 ≤ (8 * cent y + 5) / 25 := by omega
  have q2 : (8 * cent y + 5) / 25 ≤ 10000000 := by omega
  generalize (8 * cent y + 5) / 25 = q at *
  generalize cent y = c at *
  go_enter Tryd.func98, Tryd.ntmps98
  go_wp2_with fail
  refine (HC _).mono ?_
  rintro e w1 ⟨rfl, hb1⟩
  go_wp2_with fail
  refine (H _).mono ?_
  rintro e w2 ⟨rfl, hb2⟩
  go_wp2_with fail
  go_ret
  exact ⟨ret_int hv.out, hb1.trans (hb2.mono hb1.size)⟩
theorem appg_in (y lo r : Int) (w : World) (h1 : ¬ y < lo) (h2 : ¬ 1000000000 < y) (H : ∀ w, Calls Tryd.prog 63 #[.int .i64 y] w fun e w' => e = .returned (.int .i64 r) ∧ Below w.heap.size w w') :
    Calls Tryd.prog 62 #[.int .i64 y, .int .i64 lo, .func (Fn.func 63) #[] #[]] w fun e w' => e = .returned (numv r 0) ∧ Below w.heap.size w w' := by
  go_enter Tryd.func62, Tryd.ntmps62
  go_wp2_with fail
  refine (H _).mono ?_
  rintro e w1 ⟨rfl, hb1⟩
  go_wp2_with fail
  go_ret2
  exact ⟨rfl, hb1⟩
theorem apps_in (y lo r : Int) (w : World) (h1 : ¬ y < lo) (h2 : ¬ 1000000000 < y) (H : ∀ w, Calls Tryd.prog 95 #[.int .i64 y] w fun e w' => e = .returned (.int .i64 r) ∧ Below w.heap.size w w') :
    Calls Tryd.prog 62 #[.int .i64 y, .int .i64 lo, .func (Fn.func 95) #[] #[]] w fun e w' => e = .returned (numv r 0) ∧ Below w.heap.size w w' := by
  go_enter Tryd.func62, Tryd.ntmps62
  go_wp2_with fail
  refine (H _).mono ?_
  rintro e w1 ⟨rfl, hb1⟩
  go_wp2_with fail
  go_ret2
  exact ⟨rfl, hb1⟩
theorem appl_in (y lo r : Int) (w : World) (h1 : ¬ y < lo) (h2 : ¬ 1000000000 < y) (H : ∀ w, Calls Tryd.prog 98 #[.int .i64 y] w fun e w' => e = .returned (.int .i64 r) ∧ Below w.heap.size w w') :
    Calls Tryd.prog 62 #[.int .i64 y, .int .i64 lo, .func (Fn.func 98) #[] #[]] w fun e w' => e = .returned (numv r 0) ∧ Below w.heap.size w w' := by
  go_enter Tryd.func62, Tryd.ntmps62
  go_wp2_with fail
  refine (H _).mono ?_
  rintro e w1 ⟨rfl, hb1⟩
  go_wp2_with fail
  go_ret2
  exact ⟨rfl, hb1⟩
theorem app_lo (y lo : Int) (f : Value) (w : World) (h1 : y < lo) :
    Calls Tryd.prog 62 #[.int .i64 y, .int .i64 lo, f] w fun e w' => e = .returned (numv 0 1) ∧ Below w.heap.size w w' := by
  go_enter Tryd.func62, Tryd.ntmps62
  go_wp2_with fail
  go_ret2
  exact ⟨rfl, Below.refl _ _⟩
theorem app_hi (y lo : Int) (f : Value) (w : World) (h1 : ¬ y < lo) (h2 : 1000000000 < y) :
    Calls Tryd.prog 62 #[.int .i64 y, .int .i64 lo, f] w fun e w' => e = .returned (numv 0 1) ∧ Below w.heap.size w w' := by
  go_enter Tryd.func62, Tryd.ntmps62
  go_wp2_with fail
  go_ret2
  exact ⟨rfl, Below.refl _ _⟩
theorem vB_no {b : Bool} (h : ¬ b = true) (n : Int) : vB b n = 0 ∧ eB b = 1 := by cases b <;> simp_all [vB, eB]
theorem vB_yes {b : Bool} (h : b = true) (n : Int) : vB b n = n ∧ eB b = 0 := by subst h; exact ⟨rfl, rfl⟩
theorem ggold_c (y n k : Int) (w : World) (H : ∀ w, Calls Tryd.prog 62 #[.int .i64 y, .int .i64 1, .func (Fn.func 63) #[] #[]] w fun e w' => e = .returned (numv n k) ∧ Below w.heap.size w w') :
    Calls Tryd.prog 51 #[.int .i64 y] w fun e w' => e = .returned (numv n k) ∧ Below w.heap.size w w' := by
  have hmf : ∀ (fn : Fn) (first cap : Array Value) (w : World), (Instr.makeFunc fn first cap).run Tryd.prog w = .ok (.func fn first cap) w := fun _ _ _ _ => rfl
  go_enter Tryd.func51, Tryd.ntmps51
  go_wp2_with fail
  refine (H _).mono ?_
  rintro e w1 ⟨rfl, hb1⟩
  go_wp2_with fail
  go_ret2
  exact ⟨rfl, hb1⟩
theorem ggold_any (y : Int) (w : World) :
    Calls Tryd.prog 51 #[.int .i64 y] w fun e w' => e = .returned (numv (vB (inY y) (gold y)) (eB (inY y))) ∧ Below w.heap.size w w' := by
  refine ggold_c y _ _ w fun w => ?_
  by_cases h : inY y = true
  · obtain ⟨h1, h2⟩ := inY_iff.1 h
    rw [(vB_yes h _).1, (vB_yes h 0).2]
    exact appg_in y 1 _ w (by omega) (by omega) (fun w => gold1_any y w (by omega) h2)
  · rw [(vB_no h _).1, (vB_no h 0).2]
    have hn : ¬ (1 ≤ y ∧ y ≤ 1000000000) := fun g => h (inY_iff.2 g)
    rcases Int.lt_or_le y 1 with g | g
    · exact app_lo y 1 _ w g
    · exact app_hi y 1 _ w (by omega) (by omega)
theorem gsolr_c (y n k : Int) (w : World) (H : ∀ w, Calls Tryd.prog 62 #[.int .i64 y, .int .i64 1583, .func (Fn.func 95) #[] #[]] w fun e w' => e = .returned (numv n k) ∧ Below w.heap.size w w') :
    Calls Tryd.prog 92 #[.int .i64 y] w fun e w' => e = .returned (numv n k) ∧ Below w.heap.size w w' := by
  have hmf : ∀ (fn : Fn) (first cap : Array Value) (w : World), (Instr.makeFunc fn first cap).run Tryd.prog w = .ok (.func fn first cap) w := fun _ _ _ _ => rfl
  go_enter Tryd.func92, Tryd.ntmps92
  go_wp2_with fail
  refine (H _).mono ?_
  rintro e w1 ⟨rfl, hb1⟩
  go_wp2_with fail
  go_ret2
  exact ⟨rfl, hb1⟩
theorem gsolr_any (y : Int) (w : World) :
    Calls Tryd.prog 92 #[.int .i64 y] w fun e w' => e = .returned (numv (vB (inG y) (solr y)) (eB (inG y))) ∧ Below w.heap.size w w' := by
  refine gsolr_c y _ _ w fun w => ?_
  by_cases h : inG y = true
  · obtain ⟨h1, h2⟩ := inG_iff.1 h
    rw [(vB_yes h _).1, (vB_yes h 0).2]
    exact apps_in y 1583 _ w (by omega) (by omega) (fun w => solr1_any y w (by omega) h2)
  · rw [(vB_no h _).1, (vB_no h 0).2]
    have hn : ¬ (1583 ≤ y ∧ y ≤ 1000000000) := fun g => h (inG_iff.2 g)
    rcases Int.lt_or_le y 1583 with g | g
    · exact app_lo y 1583 _ w g
    · exact app_hi y 1583 _ w (by omega) (by omega)
theorem glunr_c (y n k : Int) (w : World) (H : ∀ w, Calls Tryd.prog 62 #[.int .i64 y, .int .i64 1583, .func (Fn.func 98) #[] #[]] w fun e w' => e = .returned (numv n k) ∧ Below w.heap.size w w') :
    Calls Tryd.prog 93 #[.int .i64 y] w fun e w' => e = .returned (numv n k) ∧ Below w.heap.size w w' := by
  have hmf : ∀ (fn : Fn) (first cap : Array Value) (w : World), (Instr.makeFunc fn first cap).run Tryd.prog w = .ok (.func fn first cap) w := fun _ _ _ _ => rfl
  go_enter Tryd.func93, Tryd.ntmps93
  go_wp2_with fail
  refine (H _).mono ?_
  rintro e w1 ⟨rfl, hb1⟩
  go_wp2_with fail
  go_ret2
  exact ⟨rfl, hb1⟩
theorem glunr_any (y : Int) (w : World) :
    Calls Tryd.prog 93 #[.int .i64 y] w fun e w' => e = .returned (numv (vB (inG y) (lunr y)) (eB (inG y))) ∧ Below w.heap.size w w' := by
  refine glunr_c y _ _ w fun w => ?_
  by_cases h : inG y = true
  · obtain ⟨h1, h2⟩ := inG_iff.1 h
    rw [(vB_yes h _).1, (vB_yes h 0).2]
    exact appl_in y 1583 _ w (by omega) (by omega) (fun w => lunr1_any y w (by omega) h2)
  · rw [(vB_no h _).1, (vB_no h 0).2]
    have hn : ¬ (1583 ≤ y ∧ y ≤ 1000000000) := fun g => h (inG_iff.2 g)
    rcases Int.lt_or_le y 1583 with g | g
    · exact app_lo y 1583 _ w g
    · exact app_hi y 1583 _ w (by omega) (by omega)
end Go.Proofs.YtnfeihbkemgecaaDoor

namespace Go.Proofs.YtnfeihbkemgecaaDoor
open Go.RowKit

theorem rgre_any (y : Int) (w : World) : Calls Tryd.prog 12 #[.int .i64 y] w fun e w' => e = .returned (.bool (inG y)) ∧ w = w' := by
  cases h0 : decide (1583 ≤ y)
  all_goals
    go_enter Tryd.func12, Tryd.ntmps12
    go_wp2
    go_ret
    exact ⟨ret_bool (by simp [inG, h0]), rfl⟩
section
variable (c y f : Int) (w : World)
end
end Go.Proofs.YtnfeihbkemgecaaDoor
