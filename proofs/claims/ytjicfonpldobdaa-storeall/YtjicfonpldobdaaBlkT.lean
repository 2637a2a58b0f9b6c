/-
  The types that blocks are made of: how many cells, which zero.
-/
import Derived.Test.YtjicfonpldobdaaBlk
namespace Go.Proofs.Ytjicfonpldobdaa
set_option maxRecDepth 100000
open Go.RowKit Go.Sort

theorem row_cfg : Row Try.prog 24 5 := ⟨_, Try.underlying24, rfl, by kernel_rfl⟩

theorem row_rspot : Row Try.prog 29 2 := ⟨_, Try.underlying29, rfl, by kernel_rfl⟩

theorem row_rtch : Row Try.prog 31 6 := ⟨_, Try.underlying31, rfl, by kernel_rfl⟩

theorem row_rmem : Row Try.prog 33 13 := ⟨_, Try.underlying33, rfl, by kernel_rfl⟩

theorem row_spot : Row Try.prog 39 2 := ⟨_, Try.underlying39, rfl, by kernel_rfl⟩

theorem row_tch : Row Try.prog 87 6 := ⟨_, Try.underlying87, rfl, by kernel_rfl⟩

theorem row_op : Row Try.prog 38 5 := ⟨_, Try.underlying38, rfl, by kernel_rfl⟩

theorem one_int : One Try.prog 3 := ⟨_, Try.underlying3, rfl⟩

theorem one_u64 : One Try.prog 22 := ⟨_, Try.underlying22, rfl⟩

theorem one_bool : One Try.prog 4 := ⟨_, Try.underlying4, rfl⟩

theorem one_words : One Try.prog 25 := ⟨_, Try.underlying25, rfl⟩

theorem siz_cfg : (Try.prog.info? 24).map (·.size) = some 5 := by kernel_rfl

theorem siz_rspot : (Try.prog.info? 29).map (·.size) = some 2 := by kernel_rfl

theorem siz_rtch : (Try.prog.info? 31).map (·.size) = some 6 := by kernel_rfl

theorem siz_rmem : (Try.prog.info? 33).map (·.size) = some 13 := by kernel_rfl

theorem siz_spot : (Try.prog.info? 39).map (·.size) = some 2 := by kernel_rfl

theorem siz_tch : (Try.prog.info? 87).map (·.size) = some 6 := by kernel_rfl

theorem siz_int : (Try.prog.info? 3).map (·.size) = some 1 := by kernel_rfl

theorem siz_u64 : (Try.prog.info? 22).map (·.size) = some 1 := by kernel_rfl

theorem siz_bool : (Try.prog.info? 4).map (·.size) = some 1 := by kernel_rfl

theorem siz_words : (Try.prog.info? 25).map (·.size) = some 1 := by kernel_rfl

theorem zer_rspot : (Try.prog.info? 29).map (·.zero) = some (some (.agg #[.int .i64 0, .int .i64 0])) := by kernel_rfl

theorem zer_spot : (Try.prog.info? 39).map (·.zero) = some (some (.agg #[.int .i64 0, .int .i64 0])) := by kernel_rfl

theorem zer_cfg : (Try.prog.info? 24).map (·.zero) = some (some (.agg #[.int .i64 0, .int .i64 0, .int .i64 0, .int .i64 0, .int .u64 0])) := by kernel_rfl

theorem zer_rtch : (Try.prog.info? 31).map (·.zero) = some (some (.agg #[.int .i64 0, .int .i64 0, .int .i64 0, .int .u64 0, .int .u64 0, .bool false])) := by kernel_rfl

theorem zer_tch : (Try.prog.info? 87).map (·.zero) = some (some (.agg #[.int .i64 0, .int .i64 0, .int .i64 0, .int .u64 0, .int .u64 0, .bool false])) := by kernel_rfl

theorem zer_rmem : (Try.prog.info? 33).map (·.zero) = some (some (.agg #[.int .i64 0, .int .i64 0, .int .i64 0, .int .i64 0, .int .u64 0, .slice none 0 0, .int .i64 0, .int .i64 0, .int .i64 0, .int .i64 0, .int .u64 0, .int .u64 0, .bool false])) := by kernel_rfl

theorem look_mem {β : Type} {l : List (Nat × β)} {k : Nat} {v : β} (h : l.lookup k = some v) : (k, v) ∈ l := by
  induction l with
  | nil => cases h
  | cons x r ih =>
    obtain ⟨a, b⟩ := x
    simp only [List.lookup] at h
    split at h
    · rename_i e
      cases h
      rw [eq_of_beq e]
      exact List.mem_cons_self
    · exact List.mem_cons_of_mem _ (ih h)

def rowT : List (Nat × Nat) := [(33, 13), (31, 6), (29, 2), (24, 5), (39, 2), (87, 6), (38, 5)]

theorem row_all : ∀ p ∈ rowT, Row Try.prog p.1 p.2 := by
  intro p hp
  simp only [rowT, List.mem_cons, List.not_mem_nil, or_false] at hp
  rcases hp with rfl | rfl | rfl | rfl | rfl | rfl | rfl
  · exact row_rmem
  · exact row_rtch
  · exact row_rspot
  · exact row_cfg
  · exact row_spot
  · exact row_tch
  · exact row_op

theorem row_any {ty : Nat} {v : Nat} (h : rowT.lookup ty = some v) : Row Try.prog ty v := row_all (ty, v) (look_mem h)

def onuT : List (Nat × Unit) := [(3, ()), (22, ()), (4, ()), (25, ())]

theorem onu_all : ∀ p ∈ onuT, One Try.prog p.1 := by
  intro p hp
  simp only [onuT, List.mem_cons, List.not_mem_nil, or_false] at hp
  rcases hp with rfl | rfl | rfl | rfl
  · exact one_int
  · exact one_u64
  · exact one_bool
  · exact one_words

theorem onu_any {ty : Nat} {v : Unit} (h : onuT.lookup ty = some v) : One Try.prog ty := onu_all (ty, v) (look_mem h)

theorem one_any {ty : Nat} (h : onuT.lookup ty = some ()) : One Try.prog ty := onu_any h

def sizT : List (Nat × Nat) := [(33, 13), (31, 6), (29, 2), (24, 5), (39, 2), (87, 6), (3, 1), (22, 1), (4, 1), (25, 1)]

theorem siz_all : ∀ p ∈ sizT, (Try.prog.info? p.1).map (·.size) = some p.2 := by
  intro p hp
  simp only [sizT, List.mem_cons, List.not_mem_nil, or_false] at hp
  rcases hp with rfl | rfl | rfl | rfl | rfl | rfl | rfl | rfl | rfl | rfl
  · exact siz_rmem
  · exact siz_rtch
  · exact siz_rspot
  · exact siz_cfg
  · exact siz_spot
  · exact siz_tch
  · exact siz_int
  · exact siz_u64
  · exact siz_bool
  · exact siz_words

theorem siz_any {ty : Nat} {v : Nat} (h : sizT.lookup ty = some v) : (Try.prog.info? ty).map (·.size) = some v := siz_all (ty, v) (look_mem h)

def zerT : List (Nat × Value) := [(33, (.agg #[.int .i64 0, .int .i64 0, .int .i64 0, .int .i64 0, .int .u64 0, .slice none 0 0, .int .i64 0, .int .i64 0, .int .i64 0, .int .i64 0, .int .u64 0, .int .u64 0, .bool false])), (31, (.agg #[.int .i64 0, .int .i64 0, .int .i64 0, .int .u64 0, .int .u64 0, .bool false])), (29, (.agg #[.int .i64 0, .int .i64 0])), (24, (.agg #[.int .i64 0, .int .i64 0, .int .i64 0, .int .i64 0, .int .u64 0])), (39, (.agg #[.int .i64 0, .int .i64 0])), (87, (.agg #[.int .i64 0, .int .i64 0, .int .i64 0, .int .u64 0, .int .u64 0, .bool false]))]

theorem zer_all : ∀ p ∈ zerT, (Try.prog.info? p.1).map (·.zero) = some (some p.2) := by
  intro p hp
  simp only [zerT, List.mem_cons, List.not_mem_nil, or_false] at hp
  rcases hp with rfl | rfl | rfl | rfl | rfl | rfl
  · exact zer_rmem
  · exact zer_rtch
  · exact zer_rspot
  · exact zer_cfg
  · exact zer_spot
  · exact zer_tch

theorem zer_any {ty : Nat} {v : Value} (h : zerT.lookup ty = some v) : (Try.prog.info? ty).map (·.zero) = some (some v) := zer_all (ty, v) (look_mem h)


end Go.Proofs.Ytjicfonpldobdaa
