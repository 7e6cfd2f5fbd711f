/- The law CnfMore, at every input. -/
import Derived.Test.YtpfoaaiedfidbaaGreatDoorHc
namespace Go.Proofs.YtpfoaaiedfidbaaGreatDoor
open Go Go.RowKit

theorem more_law (v u : Value) (l : List (List Int)) (is : List Int) (n : Int) (w : World) (hg : Grid w w.heap.size v l) (hf : Fits l) (hn : Nums w w.heap.size u is) (hp : Pow w) :
    Calls Tryz.prog 5 #[v, u, .int .i64 n] w (TruePost w) := by
  cases h : fewB l with
  | false => exact more_few v u l is n w hg hf hp h
  | true =>
    obtain ⟨A, c, rfl⟩ := hn.len
    by_cases hl : 30 < is.length
    · exact more_long v A c l is n w hg hf hp h hl
    · rcases checkC_or l with hc | hc
      · rcases checkC_or [is, [n]] with hc2 | hc2
        · exact more_main v A c l is n w hg hf hn hp h (by omega) hc hc2
        · exact more_wrong v A c l is n w hg hf hn hp h (by omega) hc hc2
      · exact more_bad v A c l is n w hg hf hp h (by omega) hc
end Go.Proofs.YtpfoaaiedfidbaaGreatDoor
