/- What the rows' condition gives of the tables that package cattext reads. -/
import Derived.Test.YtkhicgafhbecfaaGreatDoorKy
import Derived.Test.YtkhicgafhbecfaaGreatDoorP5
namespace Go.Proofs.YtkhicgafhbecfaaGreatDoor
theorem tPow : (Tryz.prog.globals[3]?).map (·.type) = some 137 := by kernel_rfl
theorem cellsU64 : Tryz.prog.cellsOf 123 = 1 := by kernel_rfl
theorem cellsU64s : Tryz.prog.cellsOf 137 = 20 := by kernel_rfl
theorem pow_of {l : List (String × DataW Unit)} {W : World} (h : laidMet Tryz.prog l W) (hm : ("internal/strconv.uint64pow10", Rows.laid_internal_strconv_uint64pow10) ∈ l) : ∃ t fr, W.heap[3]? = some (.cells (Lib.pow10Tab.map fun z => Value.int .u64 z).toArray t fr) := by
  obtain ⟨g, t, cs, fuel, p, hg, hty, hvar, hd⟩ := Lib.laidMet.reads h hm
  obtain rfl := Option.some.inj (gPow.symm.trans hg)
  obtain rfl := Option.some.inj (tPow.symm.trans hty)
  have hcs : cs = (Lib.pow10Tab.map fun z => Value.int .u64 z).toArray := by
    rw [← Array.toList_inj]
    exact ints_of_array (k := .u64) (bs := Lib.pow10Tab) Tryz.underlying123 Tryz.underlying137 cellsU64 cellsU64s rfl hd
  subst hcs
  exact row_of_var gPow hvar
theorem t26_of {l : List (String × DataW Unit)} {W : World} (h : laidMet Tryz.prog l W) (h1 : ("computus/weekday.names", Rows.laid_computus_weekday_names) ∈ l) (h2 : ("internal/strconv.uint64pow10", Rows.laid_internal_strconv_uint64pow10) ∈ l) : T26 W := ⟨wtab_of h h1, pow_of h h2⟩
end Go.Proofs.YtkhicgafhbecfaaGreatDoor
