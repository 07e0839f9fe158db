import Derived.Test.YtlmdbcmaophhnaaDoorMR
import Derived.Test.YtlmdbcmaophhnaaDoorMS
import Derived.Test.YtlmdbcmaophhnaaDoorMT
namespace Go.Proofs.YtlmdbcmaophhnaaDoor
open Go.RowKit

theorem kinds_any (w : World) (m : Mg) (A : Option Addr) (c l : Nat) (z cut mm : Int) (hm : m.Ok) (hl : m.data.length = l) (hd : TK w w.heap.size A c m.data) (hz0 : 0 ≤ z) (hz1 : z ≤ 255) (hc0 : 0 ≤ cut) (hc1 : cut ≤ 65535) (hmm : w.cell? ⟨0, 0, none⟩ = some (.int .i64 mm)) :
    Calls Tryd.prog 7 #[.agg #[.int .i64 m.kind, .int .u32 m.chan, .int .u32 m.sender, .int .u32 m.window, .int .u32 m.packet, .int .u32 m.code, .string m.name, .string m.lang, .bool m.want, .slice A l c], .int .u8 z, .int .u16 cut] w fun e w' => e = .returned (.bool true) ∧ Below w.heap.size w w' := by
  cases hg : greatB m with
  | true => exact kinds_great w m A c l z cut mm hm hl hd hz0 hz1 hc0 hc1 hmm hg
  | false =>
    cases hk : knownZ z with
    | false => exact kinds_unknown w m A c l z cut mm hm hl hd hz0 hz1 hc0 hc1 hmm hg hk
    | true =>
      by_cases her : (encF (mk m z)).1 = 0
      · have hc : z = 1 ∨ z = 80 ∨ z = 81 ∨ z = 82 ∨ z = 90 ∨ z = 91 ∨ z = 98 ∨ ((92 ≤ z ∧ z ≤ 100) ∧ z ≠ 98) := by
          rcases known_cases hk with h | h | h | h | h | h | h | h | h | h | h | h | h | h | h <;> omega
        rcases hc with rfl | rfl | rfl | rfl | rfl | rfl | rfl | ⟨⟨h1, h2⟩, h3⟩
        · exact kinds_ok1 w m A c l cut mm hm hl hd hz0 hz1 hc0 hc1 hmm hg hk her
        · exact kinds_ok80 w m A c l cut mm hm hl hd hz0 hz1 hc0 hc1 hmm hg hk her
        · exact kinds_ok81 w m A c l cut mm hm hl hd hz0 hz1 hc0 hc1 hmm hg hk her
        · exact kinds_ok82 w m A c l cut mm hm hl hd hz0 hz1 hc0 hc1 hmm hg hk her
        · exact kinds_ok90 w m A c l cut mm hm hl hd hz0 hz1 hc0 hc1 hmm hg hk her
        · exact kinds_ok91 w m A c l cut mm hm hl hd hz0 hz1 hc0 hc1 hmm hg hk her
        · exact kinds_ok98 w m A c l cut mm hm hl hd hz0 hz1 hc0 hc1 hmm hg hk her
        · exact kinds_oks w m A c l z cut mm hm hl hd hz0 hz1 hc0 hc1 hmm hg hk her h1 h2 h3
      · by_cases h1 : z = 1
        · subst h1
          exact kinds_err1 w m A c l cut mm hm hl hd hz0 hz1 hc0 hc1 hmm hg hk her
        · exact kinds_err w m A c l z cut mm hm hl hd hz0 hz1 hc0 hc1 hmm hg hk her h1
end Go.Proofs.YtlmdbcmaophhnaaDoor
