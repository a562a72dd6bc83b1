/- What is proved: take takes a span out of a tree that has it; the forest lies in memory. -/
import Derived.Test.YtaiaahcblohknaaYTkB
import Derived.Test.YtaiaahcblohknaaYTkC
namespace Go.Proofs.Ytaiaahcblohknaa
open Go.RowKit

theorem take14 (fb nb cap fr : Nat) (mv : Value) (c e : Int) (x : Sp) (T : PT) : ∀ (w : World) (N : List Nd), Ar w fb nb cap fr mv c e N → Lay N T → N[0]? = some nd0 → T.pl.Nodup → x ∈ T.tr.list → Srt T.tr.list → T.tr.sz < 4611686018427387904 →
    Calls Try.prog 33 #[.pointer (some ⟨fb, 0, none⟩), .int .i64 (T.root : Nat), spV x] w (TakeP w fb nb cap fr mv c e N T x) := by
  induction T with
  | nil => intro _ _ _ _ _ _ hx; simp [PT.tr, Tr.list] at hx
  | node p L s R ihl ihr =>
    intro w N h hT h0 hd hx hsr hz
    by_cases hxs : x = s
    · exact take_eq fb nb cap fr mv c e x p L s R w N h hT h0 hd hx hsr hz hxs
    · cases hsl : sl x s
      · exact take_right fb nb cap fr mv c e x p L s R w N h hT h0 hd hx hsr hz hxs hsl ihr
      · exact take_left fb nb cap fr mv c e x p L s R w N h hT h0 hd hx hsr hz hxs hsl ihl
end Go.Proofs.Ytaiaahcblohknaa
