/- The deferred closures of package linescan's methods: each hands on what it recovers to caught; Word's and Err's store a result besides. -/
import Derived.Test.YtlodijncaojifaaDoorNb
namespace Go.Proofs.YtlodijncaojifaaDoor
open Go.RowKit

theorem mix25 : Tryd.prog.follows .mixedOrders = true := by kernel_rfl
theorem wpS_three {P : Program} {ops : Array Oper} {Q : Exit → Act → List Frame → World → Prop} {a : Act} {cs : List Frame} {w : World} {id : Nat} (hm : P.follows .mixedOrders = true)
    (hs : ops.size = 3) (h0 : Region.ready .any ops #[false, false, false] = [0, 1]) (h1 : Region.ready .any ops #[true, false, false] = [1]) (h2 : Region.ready .any ops #[false, true, false] = [0]) (h3 : Region.ready .any ops #[true, true, false] = [2])
    (hA : wpOpsS P ops Q [0, 1, 2] a cs w.drew) (hB : wpOpsS P ops Q [1, 0, 2] a cs w.drew) : (Code.region id ops true).wpS P Q a cs w := by
  refine wpS_region_draw fun t => ?_
  rw [hm]
  rcases sched3 hs h0 h1 h2 h3 t with e | e
  · rw [e]; exact hA
  · rw [e]; exact hB
theorem cells_drew {w : World} {b i : Nat} {v : Value} (h : w.cell? ⟨b, i, none⟩ = some v) : w.drew.cell? ⟨b, i, none⟩ = some v := h
set_option maxRecDepth 100000 in
theorem nuc25_cat {S : ByteArray} {b k : Nat} {bad : Bool} {p : Nat} {w : World} (hp : w.cell? ⟨p, 0, none⟩ = some (xp b)) (h : w.heap[b]? = some (scO S k bad)) (older : List PanicEntry) :
    CallsD Tryd.prog 29 #[xp p] (.panicking (sgP :: older)) w fun e u' w' => e = .returned (.tuple #[]) ∧ u' = .panicking ({ v := sgV, recovered := true } :: older) ∧ w' = (w.setCell ⟨b, 2, none⟩ (.bool true)).drew := by
  refine callsD_of_wpS Tryd.func29 rfl fun c₀ cs hu => ?_
  refine wpS_three mix25 rfl (by kernel_rfl) (by kernel_rfl) (by kernel_rfl) (by kernel_rfl) ?_ ?_
  all_goals
    simp [wpOpsS, go_sem, recoverD, hu, hp, Tryd.ntmps29]
    refine (cau_some (w := w.drew) h).mono ?_
    rintro e w' ⟨rfl, rfl⟩
    simp [bodyPostS, results, Tryd.results29] <;> rfl
set_option maxRecDepth 100000 in
theorem nuc25_cnil {p : Nat} {w : World} (hp : w.cell? ⟨p, 0, none⟩ = some (.pointer none)) (older : List PanicEntry) :
    CallsD Tryd.prog 29 #[xp p] (.panicking (sgP :: older)) w fun e u' w' => e = .returned (.tuple #[]) ∧ u' = .panicking ({ v := sgV, recovered := true } :: older) ∧ w' = (w).drew := by
  refine callsD_of_wpS Tryd.func29 rfl fun c₀ cs hu => ?_
  refine wpS_three mix25 rfl (by kernel_rfl) (by kernel_rfl) (by kernel_rfl) (by kernel_rfl) ?_ ?_
  all_goals
    simp [wpOpsS, go_sem, recoverD, hu, hp, Tryd.ntmps29]
    refine (cau_nil _).mono ?_
    rintro e w' ⟨rfl, rfl⟩
    simp [bodyPostS, results, Tryd.results29]
set_option maxRecDepth 100000 in
theorem nuc25_idl {p : Nat} {x : Value} {w : World} (hp : w.cell? ⟨p, 0, none⟩ = some x) :
    CallsD Tryd.prog 29 #[xp p] .returning w fun e u' w' => e = .returned (.tuple #[]) ∧ u' = .returning ∧ w' = w.drew := by
  refine callsD_of_wpS Tryd.func29 rfl fun c₀ cs hu => ?_
  refine wpS_three mix25 rfl (by kernel_rfl) (by kernel_rfl) (by kernel_rfl) (by kernel_rfl) ?_ ?_
  all_goals
    simp [wpOpsS, go_sem, recoverD, hu, hp, Tryd.ntmps29]
    refine (cau_idle _ _).mono ?_
    rintro e w' ⟨rfl, rfl⟩
    cases c₀
    simp_all [bodyPostS, results, Tryd.results29]
set_option maxRecDepth 100000 in
theorem idc25_cat {S : ByteArray} {b k : Nat} {bad : Bool} {p : Nat} {w : World} (hp : w.cell? ⟨p, 0, none⟩ = some (xp b)) (h : w.heap[b]? = some (scO S k bad)) (older : List PanicEntry) :
    CallsD Tryd.prog 33 #[xp p] (.panicking (sgP :: older)) w fun e u' w' => e = .returned (.tuple #[]) ∧ u' = .panicking ({ v := sgV, recovered := true } :: older) ∧ w' = (w.setCell ⟨b, 2, none⟩ (.bool true)).drew := by
  refine callsD_of_wpS Tryd.func33 rfl fun c₀ cs hu => ?_
  refine wpS_three mix25 rfl (by kernel_rfl) (by kernel_rfl) (by kernel_rfl) (by kernel_rfl) ?_ ?_
  all_goals
    simp [wpOpsS, go_sem, recoverD, hu, hp, Tryd.ntmps33]
    refine (cau_some (w := w.drew) h).mono ?_
    rintro e w' ⟨rfl, rfl⟩
    simp [bodyPostS, results, Tryd.results33] <;> rfl
set_option maxRecDepth 100000 in
theorem idc25_cnil {p : Nat} {w : World} (hp : w.cell? ⟨p, 0, none⟩ = some (.pointer none)) (older : List PanicEntry) :
    CallsD Tryd.prog 33 #[xp p] (.panicking (sgP :: older)) w fun e u' w' => e = .returned (.tuple #[]) ∧ u' = .panicking ({ v := sgV, recovered := true } :: older) ∧ w' = (w).drew := by
  refine callsD_of_wpS Tryd.func33 rfl fun c₀ cs hu => ?_
  refine wpS_three mix25 rfl (by kernel_rfl) (by kernel_rfl) (by kernel_rfl) (by kernel_rfl) ?_ ?_
  all_goals
    simp [wpOpsS, go_sem, recoverD, hu, hp, Tryd.ntmps33]
    refine (cau_nil _).mono ?_
    rintro e w' ⟨rfl, rfl⟩
    simp [bodyPostS, results, Tryd.results33]
set_option maxRecDepth 100000 in
theorem idc25_idl {p : Nat} {x : Value} {w : World} (hp : w.cell? ⟨p, 0, none⟩ = some x) :
    CallsD Tryd.prog 33 #[xp p] .returning w fun e u' w' => e = .returned (.tuple #[]) ∧ u' = .returning ∧ w' = w.drew := by
  refine callsD_of_wpS Tryd.func33 rfl fun c₀ cs hu => ?_
  refine wpS_three mix25 rfl (by kernel_rfl) (by kernel_rfl) (by kernel_rfl) (by kernel_rfl) ?_ ?_
  all_goals
    simp [wpOpsS, go_sem, recoverD, hu, hp, Tryd.ntmps33]
    refine (cau_idle _ _).mono ?_
    rintro e w' ⟨rfl, rfl⟩
    cases c₀
    simp_all [bodyPostS, results, Tryd.results33]
set_option maxRecDepth 100000 in
theorem pkc25_cat {S : ByteArray} {b k : Nat} {bad : Bool} {p : Nat} {w : World} (hp : w.cell? ⟨p, 0, none⟩ = some (xp b)) (h : w.heap[b]? = some (scO S k bad)) (older : List PanicEntry) :
    CallsD Tryd.prog 37 #[xp p] (.panicking (sgP :: older)) w fun e u' w' => e = .returned (.tuple #[]) ∧ u' = .panicking ({ v := sgV, recovered := true } :: older) ∧ w' = (w.setCell ⟨b, 2, none⟩ (.bool true)).drew := by
  refine callsD_of_wpS Tryd.func37 rfl fun c₀ cs hu => ?_
  refine wpS_three mix25 rfl (by kernel_rfl) (by kernel_rfl) (by kernel_rfl) (by kernel_rfl) ?_ ?_
  all_goals
    simp [wpOpsS, go_sem, recoverD, hu, hp, Tryd.ntmps37]
    refine (cau_some (w := w.drew) h).mono ?_
    rintro e w' ⟨rfl, rfl⟩
    simp [bodyPostS, results, Tryd.results37] <;> rfl
set_option maxRecDepth 100000 in
theorem pkc25_cnil {p : Nat} {w : World} (hp : w.cell? ⟨p, 0, none⟩ = some (.pointer none)) (older : List PanicEntry) :
    CallsD Tryd.prog 37 #[xp p] (.panicking (sgP :: older)) w fun e u' w' => e = .returned (.tuple #[]) ∧ u' = .panicking ({ v := sgV, recovered := true } :: older) ∧ w' = (w).drew := by
  refine callsD_of_wpS Tryd.func37 rfl fun c₀ cs hu => ?_
  refine wpS_three mix25 rfl (by kernel_rfl) (by kernel_rfl) (by kernel_rfl) (by kernel_rfl) ?_ ?_
  all_goals
    simp [wpOpsS, go_sem, recoverD, hu, hp, Tryd.ntmps37]
    refine (cau_nil _).mono ?_
    rintro e w' ⟨rfl, rfl⟩
    simp [bodyPostS, results, Tryd.results37]
set_option maxRecDepth 100000 in
theorem pkc25_idl {p : Nat} {x : Value} {w : World} (hp : w.cell? ⟨p, 0, none⟩ = some x) :
    CallsD Tryd.prog 37 #[xp p] .returning w fun e u' w' => e = .returned (.tuple #[]) ∧ u' = .returning ∧ w' = w.drew := by
  refine callsD_of_wpS Tryd.func37 rfl fun c₀ cs hu => ?_
  refine wpS_three mix25 rfl (by kernel_rfl) (by kernel_rfl) (by kernel_rfl) (by kernel_rfl) ?_ ?_
  all_goals
    simp [wpOpsS, go_sem, recoverD, hu, hp, Tryd.ntmps37]
    refine (cau_idle _ _).mono ?_
    rintro e w' ⟨rfl, rfl⟩
    cases c₀
    simp_all [bodyPostS, results, Tryd.results37]
set_option maxRecDepth 100000 in
theorem enc25_cat {S : ByteArray} {b k : Nat} {bad : Bool} {p : Nat} {w : World} (hp : w.cell? ⟨p, 0, none⟩ = some (xp b)) (h : w.heap[b]? = some (scO S k bad)) (older : List PanicEntry) :
    CallsD Tryd.prog 39 #[xp p] (.panicking (sgP :: older)) w fun e u' w' => e = .returned (.tuple #[]) ∧ u' = .panicking ({ v := sgV, recovered := true } :: older) ∧ w' = (w.setCell ⟨b, 2, none⟩ (.bool true)).drew := by
  refine callsD_of_wpS Tryd.func39 rfl fun c₀ cs hu => ?_
  refine wpS_three mix25 rfl (by kernel_rfl) (by kernel_rfl) (by kernel_rfl) (by kernel_rfl) ?_ ?_
  all_goals
    simp [wpOpsS, go_sem, recoverD, hu, hp, Tryd.ntmps39]
    refine (cau_some (w := w.drew) h).mono ?_
    rintro e w' ⟨rfl, rfl⟩
    simp [bodyPostS, results, Tryd.results39] <;> rfl
set_option maxRecDepth 100000 in
theorem enc25_cnil {p : Nat} {w : World} (hp : w.cell? ⟨p, 0, none⟩ = some (.pointer none)) (older : List PanicEntry) :
    CallsD Tryd.prog 39 #[xp p] (.panicking (sgP :: older)) w fun e u' w' => e = .returned (.tuple #[]) ∧ u' = .panicking ({ v := sgV, recovered := true } :: older) ∧ w' = (w).drew := by
  refine callsD_of_wpS Tryd.func39 rfl fun c₀ cs hu => ?_
  refine wpS_three mix25 rfl (by kernel_rfl) (by kernel_rfl) (by kernel_rfl) (by kernel_rfl) ?_ ?_
  all_goals
    simp [wpOpsS, go_sem, recoverD, hu, hp, Tryd.ntmps39]
    refine (cau_nil _).mono ?_
    rintro e w' ⟨rfl, rfl⟩
    simp [bodyPostS, results, Tryd.results39]
set_option maxRecDepth 100000 in
theorem enc25_idl {p : Nat} {x : Value} {w : World} (hp : w.cell? ⟨p, 0, none⟩ = some x) :
    CallsD Tryd.prog 39 #[xp p] .returning w fun e u' w' => e = .returned (.tuple #[]) ∧ u' = .returning ∧ w' = w.drew := by
  refine callsD_of_wpS Tryd.func39 rfl fun c₀ cs hu => ?_
  refine wpS_three mix25 rfl (by kernel_rfl) (by kernel_rfl) (by kernel_rfl) (by kernel_rfl) ?_ ?_
  all_goals
    simp [wpOpsS, go_sem, recoverD, hu, hp, Tryd.ntmps39]
    refine (cau_idle _ _).mono ?_
    rintro e w' ⟨rfl, rfl⟩
    cases c₀
    simp_all [bodyPostS, results, Tryd.results39]
set_option maxRecDepth 100000 in
theorem ofc25_cat {S : ByteArray} {b k : Nat} {bad : Bool} {p : Nat} {w : World} (hp : w.cell? ⟨p, 0, none⟩ = some (xp b)) (h : w.heap[b]? = some (scO S k bad)) (older : List PanicEntry) :
    CallsD Tryd.prog 40 #[xp p] (.panicking (sgP :: older)) w fun e u' w' => e = .returned (.tuple #[]) ∧ u' = .panicking ({ v := sgV, recovered := true } :: older) ∧ w' = (w.setCell ⟨b, 2, none⟩ (.bool true)).drew := by
  refine callsD_of_wpS Tryd.func40 rfl fun c₀ cs hu => ?_
  refine wpS_three mix25 rfl (by kernel_rfl) (by kernel_rfl) (by kernel_rfl) (by kernel_rfl) ?_ ?_
  all_goals
    simp [wpOpsS, go_sem, recoverD, hu, hp, Tryd.ntmps40]
    refine (cau_some (w := w.drew) h).mono ?_
    rintro e w' ⟨rfl, rfl⟩
    simp [bodyPostS, results, Tryd.results40] <;> rfl
set_option maxRecDepth 100000 in
theorem ofc25_cnil {p : Nat} {w : World} (hp : w.cell? ⟨p, 0, none⟩ = some (.pointer none)) (older : List PanicEntry) :
    CallsD Tryd.prog 40 #[xp p] (.panicking (sgP :: older)) w fun e u' w' => e = .returned (.tuple #[]) ∧ u' = .panicking ({ v := sgV, recovered := true } :: older) ∧ w' = (w).drew := by
  refine callsD_of_wpS Tryd.func40 rfl fun c₀ cs hu => ?_
  refine wpS_three mix25 rfl (by kernel_rfl) (by kernel_rfl) (by kernel_rfl) (by kernel_rfl) ?_ ?_
  all_goals
    simp [wpOpsS, go_sem, recoverD, hu, hp, Tryd.ntmps40]
    refine (cau_nil _).mono ?_
    rintro e w' ⟨rfl, rfl⟩
    simp [bodyPostS, results, Tryd.results40]
set_option maxRecDepth 100000 in
theorem ofc25_idl {p : Nat} {x : Value} {w : World} (hp : w.cell? ⟨p, 0, none⟩ = some x) :
    CallsD Tryd.prog 40 #[xp p] .returning w fun e u' w' => e = .returned (.tuple #[]) ∧ u' = .returning ∧ w' = w.drew := by
  refine callsD_of_wpS Tryd.func40 rfl fun c₀ cs hu => ?_
  refine wpS_three mix25 rfl (by kernel_rfl) (by kernel_rfl) (by kernel_rfl) (by kernel_rfl) ?_ ?_
  all_goals
    simp [wpOpsS, go_sem, recoverD, hu, hp, Tryd.ntmps40]
    refine (cau_idle _ _).mono ?_
    rintro e w' ⟨rfl, rfl⟩
    cases c₀
    simp_all [bodyPostS, results, Tryd.results40]
set_option maxRecDepth 100000 in
theorem woc25_cat {S : ByteArray} {b k : Nat} {bad : Bool} {v0 : Value} {p q : Nat} {w : World} (hp : w.cell? ⟨p, 0, none⟩ = some (xp b)) (h : w.heap[b]? = some (scO S k bad)) (hq : w.cell? ⟨q, 0, none⟩ = some v0) (hz : w.frozen? ⟨q, 0, none⟩ = false) (hqb : q ≠ b) (older : List PanicEntry) :
    CallsD Tryd.prog 23 #[xp p, xp q] (.panicking (sgP :: older)) w fun e u' w' => e = .returned (.tuple #[]) ∧ u' = .panicking ({ v := sgV, recovered := true } :: older) ∧ w' = ((w.setCell ⟨b, 2, none⟩ (.bool true)).setCell ⟨q, 0, none⟩ (.int .i64 (-1))).drew := by
  have C1 : (w.setCell ⟨b, 2, none⟩ (.bool true)).cell? ⟨q, 0, none⟩ = some v0 := (Bt.set b w 2 _).cell hqb hq
  refine callsD_of_wpS Tryd.func23 rfl fun c₀ cs hu => ?_
  apply wpS_seq
  refine wpS_three mix25 rfl (by kernel_rfl) (by kernel_rfl) (by kernel_rfl) (by kernel_rfl) ?_ ?_
  all_goals
    simp [wpOpsS, go_sem, recoverD, hu, hp, Tryd.ntmps23, Exit.thenS]
    refine (cau_some (w := w.drew) h).mono ?_
    rintro e w' ⟨rfl, rfl⟩
    refine wpS_cond (t := true) (by simp [Act.eval, Array.replicate]) ?_
    simp only [if_true]
    apply wpS_region
    simp [wpOpsS, go_sem, C1, hz, bodyPostS, results, Tryd.results23] <;> rfl
set_option maxRecDepth 100000 in
theorem woc25_cnil {v0 : Value} {p q : Nat} {w : World} (hp : w.cell? ⟨p, 0, none⟩ = some (.pointer none)) (hq : w.cell? ⟨q, 0, none⟩ = some v0) (hz : w.frozen? ⟨q, 0, none⟩ = false) (older : List PanicEntry) :
    CallsD Tryd.prog 23 #[xp p, xp q] (.panicking (sgP :: older)) w fun e u' w' => e = .returned (.tuple #[]) ∧ u' = .panicking ({ v := sgV, recovered := true } :: older) ∧ w' = ((w).setCell ⟨q, 0, none⟩ (.int .i64 (-1))).drew := by
  refine callsD_of_wpS Tryd.func23 rfl fun c₀ cs hu => ?_
  apply wpS_seq
  refine wpS_three mix25 rfl (by kernel_rfl) (by kernel_rfl) (by kernel_rfl) (by kernel_rfl) ?_ ?_
  all_goals
    simp [wpOpsS, go_sem, recoverD, hu, hp, Tryd.ntmps23, Exit.thenS]
    refine (cau_nil _).mono ?_
    rintro e w' ⟨rfl, rfl⟩
    refine wpS_cond (t := true) (by simp [Act.eval, Array.replicate]) ?_
    simp only [if_true]
    apply wpS_region
    simp [wpOpsS, go_sem, hq, hz, bodyPostS, results, Tryd.results23]
set_option maxRecDepth 100000 in
theorem woc25_idl {p q : Nat} {x : Value} {w : World} (hp : w.cell? ⟨p, 0, none⟩ = some x) :
    CallsD Tryd.prog 23 #[xp p, xp q] .returning w fun e u' w' => e = .returned (.tuple #[]) ∧ u' = .returning ∧ w' = w.drew := by
  refine callsD_of_wpS Tryd.func23 rfl fun c₀ cs hu => ?_
  apply wpS_seq
  refine wpS_three mix25 rfl (by kernel_rfl) (by kernel_rfl) (by kernel_rfl) (by kernel_rfl) ?_ ?_
  all_goals
    simp [wpOpsS, go_sem, recoverD, hu, hp, Tryd.ntmps23, Exit.thenS]
    refine (cau_idle _ _).mono ?_
    rintro e w' ⟨rfl, rfl⟩
    refine wpS_cond (t := false) (by simp [Act.eval, Array.replicate]) ?_
    simp only [Bool.false_eq_true, if_false]
    refine wpS_of_wp (wp_skip ?_)
    cases c₀
    simp_all [bodyPostS, results, Tryd.results23]
set_option maxRecDepth 100000 in
theorem erc25_cat {S : ByteArray} {b k : Nat} {bad : Bool} {v0 : Value} {p q : Nat} {w : World} (hp : w.cell? ⟨p, 0, none⟩ = some (xp b)) (h : w.heap[b]? = some (scO S k bad)) (hq : w.cell? ⟨q, 0, none⟩ = some v0) (hz : w.frozen? ⟨q, 0, none⟩ = false) (hqb : q ≠ b) (older : List PanicEntry) :
    CallsD Tryd.prog 42 #[xp p, xp q] (.panicking (sgP :: older)) w fun e u' w' => e = .returned (.tuple #[]) ∧ u' = .panicking ({ v := sgV, recovered := true } :: older) ∧ w' = ((w.setCell ⟨b, 2, none⟩ (.bool true)).setCell ⟨q, 0, none⟩ (.int .i64 6)).drew := by
  have C1 : (w.setCell ⟨b, 2, none⟩ (.bool true)).cell? ⟨q, 0, none⟩ = some v0 := (Bt.set b w 2 _).cell hqb hq
  refine callsD_of_wpS Tryd.func42 rfl fun c₀ cs hu => ?_
  apply wpS_seq
  refine wpS_three mix25 rfl (by kernel_rfl) (by kernel_rfl) (by kernel_rfl) (by kernel_rfl) ?_ ?_
  all_goals
    simp [wpOpsS, go_sem, recoverD, hu, hp, Tryd.ntmps42, Exit.thenS]
    refine (cau_some (w := w.drew) h).mono ?_
    rintro e w' ⟨rfl, rfl⟩
    refine wpS_cond (t := true) (by simp [Act.eval, Array.replicate]) ?_
    simp only [if_true]
    apply wpS_region
    simp [wpOpsS, go_sem, C1, hz, bodyPostS, results, Tryd.results42] <;> rfl
set_option maxRecDepth 100000 in
theorem erc25_cnil {v0 : Value} {p q : Nat} {w : World} (hp : w.cell? ⟨p, 0, none⟩ = some (.pointer none)) (hq : w.cell? ⟨q, 0, none⟩ = some v0) (hz : w.frozen? ⟨q, 0, none⟩ = false) (older : List PanicEntry) :
    CallsD Tryd.prog 42 #[xp p, xp q] (.panicking (sgP :: older)) w fun e u' w' => e = .returned (.tuple #[]) ∧ u' = .panicking ({ v := sgV, recovered := true } :: older) ∧ w' = ((w).setCell ⟨q, 0, none⟩ (.int .i64 6)).drew := by
  refine callsD_of_wpS Tryd.func42 rfl fun c₀ cs hu => ?_
  apply wpS_seq
  refine wpS_three mix25 rfl (by kernel_rfl) (by kernel_rfl) (by kernel_rfl) (by kernel_rfl) ?_ ?_
  all_goals
    simp [wpOpsS, go_sem, recoverD, hu, hp, Tryd.ntmps42, Exit.thenS]
    refine (cau_nil _).mono ?_
    rintro e w' ⟨rfl, rfl⟩
    refine wpS_cond (t := true) (by simp [Act.eval, Array.replicate]) ?_
    simp only [if_true]
    apply wpS_region
    simp [wpOpsS, go_sem, hq, hz, bodyPostS, results, Tryd.results42]
set_option maxRecDepth 100000 in
theorem erc25_idl {p q : Nat} {x : Value} {w : World} (hp : w.cell? ⟨p, 0, none⟩ = some x) :
    CallsD Tryd.prog 42 #[xp p, xp q] .returning w fun e u' w' => e = .returned (.tuple #[]) ∧ u' = .returning ∧ w' = w.drew := by
  refine callsD_of_wpS Tryd.func42 rfl fun c₀ cs hu => ?_
  apply wpS_seq
  refine wpS_three mix25 rfl (by kernel_rfl) (by kernel_rfl) (by kernel_rfl) (by kernel_rfl) ?_ ?_
  all_goals
    simp [wpOpsS, go_sem, recoverD, hu, hp, Tryd.ntmps42, Exit.thenS]
    refine (cau_idle _ _).mono ?_
    rintro e w' ⟨rfl, rfl⟩
    refine wpS_cond (t := false) (by simp [Act.eval, Array.replicate]) ?_
    simp only [Bool.false_eq_true, if_false]
    refine wpS_of_wp (wp_skip ?_)
    cases c₀
    simp_all [bodyPostS, results, Tryd.results42]
end Go.Proofs.YtlodijncaojifaaDoor
