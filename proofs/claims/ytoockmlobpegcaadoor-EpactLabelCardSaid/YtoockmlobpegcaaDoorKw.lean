/- What earlier stages proved: Wd. -/
import Derived.Test.YtoockmlobpegcaaDoorKa
namespace Go.Proofs.YtoockmlobpegcaaDoor
open Go.RowKit

theorem bytes_of {s : ByteArray} {l : List UInt8} (h : (s.toList == l) = true) : s = ⟨l.toArray⟩ := by
  have h := beq_iff_eq.1 h
  rw [ByteArray.toList_eq] at h
  obtain ⟨d⟩ := s
  rw [← h]
theorem bytes_ext {a b : ByteArray} (h : (a.toList == b.toList) = true) : a = b := by
  rw [bytes_of h, ByteArray.toList_eq]
end Go.Proofs.YtoockmlobpegcaaDoor
