/- What the rows' condition gives of the tables that package cattext reads. -/
import Derived.Test.YtaamdimgloblpaaGreatDoorKy
import Derived.Test.YtaamdimgloblpaaGreatDoorP5
namespace Go.Proofs.YtaamdimgloblpaaGreatDoor
theorem tPow : (Tryz.prog.globals[0]?).map (·.type) = some 97 := by kernel_rfl
theorem cellsU64 : Tryz.prog.cellsOf 85 = 1 := by kernel_rfl
theorem cellsU64s : Tryz.prog.cellsOf 97 = 20 := by kernel_rfl
theorem pow_of {l : List (String × DataW Unit)} {W : World} (h : laidMet Tryz.prog l W) (hm : ("internal/strconv.uint64pow10", Rows.laid_internal_strconv_uint64pow10) ∈ l) : ∃ t fr, W.heap[0]? = some (.cells (Lib.pow10Tab.map fun z => Value.int .u64 z).toArray t fr) := by
  obtain ⟨g, t, cs, fuel, p, hg, hty, hvar, hd⟩ := Lib.laidMet.reads h hm
  obtain rfl := Option.some.inj (gPow.symm.trans hg)
  obtain rfl := Option.some.inj (tPow.symm.trans hty)
  have hcs : cs = (Lib.pow10Tab.map fun z => Value.int .u64 z).toArray := by
    rw [← Array.toList_inj]
    exact ints_of_array (k := .u64) (bs := Lib.pow10Tab) Tryz.underlying85 Tryz.underlying97 cellsU64 cellsU64s rfl hd
  subst hcs
  exact row_of_var gPow hvar
theorem t26_of {l : List (String × DataW Unit)} {W : World} (h : laidMet Tryz.prog l W) (h1 : ("computus/weekday.names", Rows.laid_computus_weekday_names) ∈ l) (h2 : ("internal/strconv.uint64pow10", Rows.laid_internal_strconv_uint64pow10) ∈ l) : T26 W := ⟨wtab_of h h1, pow_of h h2⟩
end Go.Proofs.YtaamdimgloblpaaGreatDoor
