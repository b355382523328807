/- What earlier stages proved: Ym. -/
import Derived.Test.YtaamdimgloblpaaGreatDoorP2
import Derived.Test.YtaamdimgloblpaaGreatDoorKv
namespace Go.Proofs.YtaamdimgloblpaaGreatDoor
open Go.RowKit

theorem al4 (w : World) (o1 o2 o3 o4 : Obj) : Below w.heap.size w ((((w.alloc o1).alloc o2).alloc o3).alloc o4) := (al3 w o1 o2 o3).alloc (by simp; omega) o4
end Go.Proofs.YtaamdimgloblpaaGreatDoor
