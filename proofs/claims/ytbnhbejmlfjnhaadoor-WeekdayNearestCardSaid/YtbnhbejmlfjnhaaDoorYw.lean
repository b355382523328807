/- What the rows' condition gives of package weekday's table: the names read as the program's text lays them. -/
import Derived.Test.YtbnhbejmlfjnhaaDoorLy
import Derived.Test.YtbnhbejmlfjnhaaDoorWd
namespace Go.Proofs.YtbnhbejmlfjnhaaDoor
theorem gWNam : Tryd.prog.globalNamed "computus/weekday.names" = some 0 := by kernel_rfl
theorem tWNam : (Tryd.prog.globals[0]?).map (·.type) = some 43 := by kernel_rfl
theorem cellsS : Tryd.prog.cellsOf 9 = 1 := by kernel_rfl
theorem cellsSs : Tryd.prog.cellsOf 43 = 7 := by kernel_rfl
theorem wtab_of {l : List (String × DataW Unit)} {W : World} (h : laidMet Tryd.prog l W) (hm : ("computus/weekday.names", Rows.laid_computus_weekday_names) ∈ l) : WTab W := by
  obtain ⟨g, t, cs, fuel, p, hg, hty, hvar, hd⟩ := Lib.laidMet.reads h hm
  obtain rfl := Option.some.inj (gWNam.symm.trans hg)
  obtain rfl := Option.some.inj (tWNam.symm.trans hty)
  have hcs : cs = nms := by
    rw [← Array.toList_inj]
    exact strs_of_array (bs := [[115, 117, 110, 100, 97, 121], [109, 111, 110, 100, 97, 121], [116, 117, 101, 115, 100, 97, 121], [119, 101, 100, 110, 101, 115, 100, 97, 121], [116, 104, 117, 114, 115, 100, 97, 121], [102, 114, 105, 100, 97, 121], [115, 97, 116, 117, 114, 100, 97, 121]])
      Tryd.underlying9 Tryd.underlying43 cellsS cellsSs rfl hd
  subst hcs
  exact ⟨row_of_var gWNam hvar⟩
end Go.Proofs.YtbnhbejmlfjnhaaDoor
