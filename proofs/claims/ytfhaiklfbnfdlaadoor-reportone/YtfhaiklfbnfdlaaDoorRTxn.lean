/- What is proved: plain facts on a transaction in its box; no condition. -/
import Derived.Test.YtfhaiklfbnfdlaaDoorROps
import Derived.Deep.RegionHeld3
namespace Go.Proofs.YtfhaiklfbnfdlaaDoor
open Go.RowKit

def txz : Array Value := #[.int .i64 0, .int .i64 0, .int .i64 0, .int .i64 0, .int .i64 0, .int .i64 0, .int .i64 0, .slice none 0 0]
/-- A transaction is stored. -/
def put8 (w : World) (b : Nat) (v0 v1 v2 v3 v4 v5 v6 v7 : Value) : World := (((((((w.setCell ⟨b, 0, none⟩ v0).setCell ⟨b, 1, none⟩ v1).setCell ⟨b, 2, none⟩ v2).setCell ⟨b, 3, none⟩ v3).setCell ⟨b, 4, none⟩ v4).setCell ⟨b, 5, none⟩ v5).setCell ⟨b, 6, none⟩ v6).setCell ⟨b, 7, none⟩ v7
theorem put8_same (w : World) (b : Nat) (v0 v1 v2 v3 v4 v5 v6 v7 : Value) : Same (fun k => k = b) w (put8 w b v0 v1 v2 v3 v4 v5 v6 v7) :=
  ((((((((Same.refl (fun k => k = b) w).setCell _ (.inr rfl) _).setCell _ (.inr rfl) _).setCell _ (.inr rfl) _).setCell _ (.inr rfl) _).setCell _ (.inr rfl) _).setCell _ (.inr rfl) _).setCell _ (.inr rfl) _).setCell _ (.inr rfl) _
end Go.Proofs.YtfhaiklfbnfdlaaDoor
