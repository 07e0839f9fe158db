import Derived.Test.YtnodlpbmlfdijaaEL1
namespace Go.Proofs.Ytnodlpbmlfdijaa
open Go.RowKit

theorem lists_two (w : World) (A A2 : Option Addr) (c c2 n n2 : Nat) (ls ms : List (List UInt8)) (hn : ls.length = n) (hn2 : ms.length = n2) (he : ls = ms) (hx : Hid (LisV w w.heap.size A ls)) (hy : Hid (LisV w w.heap.size A2 ms)) (hl : n ≤ 1000000) (hs : Hid (∀ b ∈ ls, b.length ≤ 1000000)) :
    Calls Try.prog 16 #[.slice A n c, .slice A2 n2 c2] w fun e w' => e = .returned (.bool true) ∧ Hid (Below w.heap.size w w') := by
  subst he
  obtain rfl : n = n2 := by omega
  subst hn
  refine (lists_any w _ _ A A2 c c2 ls ls hx.out hy.out (by unfold maxLen; omega) (by unfold maxLen; omega) (fun b hb => by have := hs.out b hb; unfold maxLen; omega) (fun b hb => by have := hs.out b hb; unfold maxLen; omega)).mono ?_
  rintro e w' ⟨rfl, k, rfl⟩
  exact ⟨by simp, hid (bel_drewN (Below.refl _ _) k)⟩
theorem len_flat : ∀ {ps : List (List UInt8)}, (∀ x ∈ ps, chunkP x) → ps.length ≤ ps.flatten.length
  | [], _ => Nat.le_refl _
  | x :: ps, h => by
    have h1 := len_flat fun y hy => h y (List.mem_cons_of_mem x hy)
    obtain ⟨c, r, rfl, _⟩ := h x (by simp)
    simp only [List.flatten_cons, List.length_append, List.length_cons]
    omega
theorem TxS.small {w wr : World} {s : ByteArray} {pos k lc : Nat} {LA : Option Addr} {cs : List Value} {ps : List (List UInt8)} {t : Tm} {g : Nat} (h : TxS w wr s pos k lc LA cs ps t g) : k ≤ s.size := by
  have h1 := len_flat h.chunk
  rw [h.flat, h.len, List.length_take, sb_len] at h1
  omega
theorem chunk_le {x : List UInt8} (h : chunkP x) : x.length ≤ 4 := by
  obtain ⟨c, r, rfl, _, hr, _⟩ := h
  simp
  omega
set_option maxRecDepth 100000 in
/-- What the next rune is. -/
theorem rune_at (s : ByteArray) (pos r q : Nat) (ps : List (List UInt8)) (hp : pos < s.size) (h : Utf8.decode s pos = (r, q)) (hr : r ≠ 65533) (hf : ps.flatten = (sb s).take pos) (hc : ∀ x ∈ ps, chunkP x) :
    1 ≤ q ∧ pos + q ≤ s.size ∧ (Utf8.encode (r : Int)).size = q ∧ Hid ((ps ++ [sb (Utf8.encode (r : Int))]).flatten = (sb s).take (pos + q)) ∧ Hid (∀ x ∈ ps ++ [sb (Utf8.encode (r : Int))], chunkP x) := by
  obtain ⟨h1, h2, h3, h4⟩ := utf_step s pos hp h hr
  have e : sb (Utf8.encode (r : Int)) = ((sb s).drop pos).take q := h3
  have hl : (sb (Utf8.encode (r : Int))).length = q := by
    rw [e, List.length_take, List.length_drop, sb_len]
    omega
  refine ⟨h1, h2, by rw [← sb_len, hl], hid ?_, hid ?_⟩
  · rw [List.flatten_append, hf, List.take_add, e]
    simp
  · intro x hx
    rcases List.mem_append.1 hx with hx | hx
    · exact hc x hx
    · rw [List.mem_singleton.1 hx, e]
      exact h4
set_option maxRecDepth 100000 in
theorem run_rune (w : World) (r : Nat) : (convert 42 9 (.slice (some ⟨w.heap.size, 0, none⟩) 1 1)).run Try.prog (w.alloc (.cells #[.int .i32 (r : Int)] 21)) = .ok (.string (Utf8.encode (r : Int))) (w.alloc (.cells #[.int .i32 (r : Int)] 21)) := by
  have h := run_convert_runes (P := Try.prog) (w.alloc (.cells #[.int .i32 (r : Int)] 21)) 42 9 21 ⟨w.heap.size, 0, none⟩ 1 1 [(r : Int)] (Nat.le_refl _) Try.underlying42 Try.underlying21 Try.underlying9 (fun j hj => by
    obtain rfl : j = 0 := by simpa using hj
    exact (Box.new w 21 #[.int .i32 (r : Int)]).cell 0)
  rw [h]
  simp [runesBytes]
theorem tx_units {s : ByteArray} {ps : List (List UInt8)} (hf : ps.flatten = (sb s).take s.size) (hc : ∀ x ∈ ps, chunkP x) : units true (sb s) = ps := by
  rw [List.take_of_length_le (by rw [sb_len]; omega)] at hf
  rw [← hf]
  exact units_text _ ps rfl hc
set_option maxRecDepth 100000 in
set_option maxHeartbeats 8000000 in
theorem text_walk (w : World) (t : Tm) (ht : t.Ok) (s : ByteArray) :
    Calls Try.prog 6 #[.agg t.cs, .string s] w fun e w' => e = .returned (.bool true) ∧ Hid (Below w.heap.size w w') := by
  have hs := cs_size ht.len
  have K0 := old26 w t
  by_cases h1 : 600 < s.size
  · have k1 : (600 : Int) < (s.size : Int) := by omega
    go_enter Try.func6, Try.ntmps6
    go_wp2_with (first
      | (refine bx26 (by rfl) _ (by rfl) _ (by rfl) hs ?_
         intro G0)
      | (go_at_call 7
         (with_reducible refine (call_alive K0).mono ?_)
         rintro e u1 ⟨rfl, k, K1⟩))
    go_ret
    exact ⟨rfl, K1⟩
  · have k1 : ¬ (600 : Int) < (s.size : Int) := by omega
    have hm : s.size ≤ 1000000 := by omega
    obtain ⟨t0, ht0⟩ : ∃ x, setT t 42 false = x := ⟨_, rfl⟩
    obtain ⟨t1, ht1⟩ : ∃ x, setT t 42 true = x := ⟨_, rfl⟩
    have ok0 : t0.Ok := ht0 ▸ setT_ok ht _ _
    have ok1 : t1.Ok := ht1 ▸ setT_ok ht _ _
    have hu0 : Hid (hasN t0.f 42 = false) := hid (by rw [← ht0]; show hasN (setN t.f 42 false) 42 = false; rw [setN_has ht.f, if_pos ⟨by decide, rfl⟩])
    have hu1 : Hid (hasN t1.f 42 = true) := hid (by rw [← ht1]; show hasN (setN t.f 42 true) 42 = true; rw [setN_has ht.f, if_pos ⟨by decide, rfl⟩])
    have HT0 := hid ht0
    have HT1 := hid ht1
    clear ht0 ht1
    have hul : Hid ((units false (sb s)).length = s.size) := hid (by rw [units_one, List.length_map, sb_len])
    go_enter Try.func6, Try.ntmps6
    go_wp2_with (first
      | (refine bx26 (by rfl) _ (by rfl) _ (by rfl) hs ?_
         intro G0)
      | (refine ld26 (by rfl) _ (by rfl) _ (by rfl) t.cs G1.out hs ?_)
      | (go_at_call 7
         (with_reducible refine (call_alive K0).mono ?_)
         rintro e u1 ⟨rfl, k, K1⟩
         have G1 := hid (box_below G0.out k.out)
         clear k G0)
      | (go_at_call 20
         (with_reducible refine (set_b _ ht HT0.out).mono ?_)
         rintro e u2 ⟨rfl, k2⟩
         have G2 := hid (box_below G1.out k2.out)
         have K2 := bel_t K1 k2.out
         obtain ⟨cp, u3, hcv, B3, k3⟩ := conv_ex u2 s hm
         have G3 := hid (box_below G2.out k3.out)
         have K3 := bel_t K2 k3.out
         have S3 := hid B3.out.slb
         clear k2 G1 K1 G2 K2 k3 B3)
      | (go_at_call 14
         (with_reducible refine (units_any (u := false) _ t0 ok0 _ s.size cp (sb s) hu0 S3 (sb_len s) hm).mono ?_)
         rintro e v4 ⟨LA, k, lc, cs, rfl, hk, o4, _, k4⟩
         obtain rfl : s.size = k := hul.out.symm.trans hk.out
         have G4 := hid (box_below G3.out k4.out)
         have K4 := bel_t K3 k4.out
         clear o4 k4 G3 K3))
    have hgw : w.heap.size ≤ v4.heap.size := K4.out.size
    have HI0 : Hid (TxS w (v4.iter s 0) s 0 0 0 none [] [] t v4.heap.size) := hid ⟨rfl, rfl, fun x hx => (by cases hx), World.ownsRow_nil _ _ _ _, ⟨rfl, fun k hk => (by simp at hk)⟩, K4.out.alloc hgw _, box_below G4.out ((Below.refl _ v4).alloc (Nat.le_refl _) _), World.iter_heap v4 s 0⟩
    obtain ⟨g, hg⟩ : ∃ g, g = v4.heap.size := ⟨_, rfl⟩
    have HG := hid hg
    rw [← hg] at HI0
    have hgw2 : w.heap.size ≤ g := by omega
    clear hg hgw G4 K4
    go_loopw [6] (fun l wr => ∃ (pos k lc : Nat) (LA : Option Addr) (cs : List Value) (ps : List (List UInt8)), pos ≤ s.size ∧ l = .slice LA k lc ∧ Hid (TxS w wr s pos k lc LA cs ps t g)) (fun _ wr => s.size - wr.iterPos g)
    case atStart => exact ⟨0, 0, 0, none, [], [], Nat.zero_le _, rfl, HI0⟩
    case round =>
      obtain ⟨pos, k, lc, LA, cs, ps, hpos, rfl, HS⟩ := hrel
      have hit := HS.out.it
      have hk6 := HS.out.small
      rw [HG.out] at hit
      by_cases hp : pos < s.size
      · obtain ⟨r, q, hrq⟩ : ∃ r q, Utf8.decode s pos = (r, q) := ⟨_, _, rfl⟩
        have hnx : ∀ ty, (Instr.next (.pointer (some ⟨v4.heap.size, 0, none⟩)) true ty).run Try.prog wr = .ok (.tuple #[.bool true, .int .i64 pos, .int .i32 (r : Int)]) (wr.iterAt v4.heap.size s (pos + q)) := fun ty => by rw [Lib.run_next_any_at wr v4.heap.size s pos ty hit hp, hrq]
        have hmu : wr.iterPos g = pos := by rw [HG.out]; simp [World.iterPos, hit]
        obtain ⟨W1, hW1⟩ : ∃ W1, wr.iterAt v4.heap.size s (pos + q) = W1 := ⟨_, rfl⟩
        have HW1 := hid hW1
        have HSZ : Hid (W1.heap.size = wr.heap.size) := hid (by rw [← hW1]; exact Lib.iterAt_size _ _ _ _)
        rw [hW1] at hnx
        clear hW1
        by_cases hr : r = 65533
        · have kr : ((r : Int) == 65533) = true := by simp; omega
          have KE : Hid (Below w.heap.size w W1) := by
            have := HS.out.next (W3 := W1) (q := q) hgw2 (by rw [HG.out, HW1.out, HSZ.out.symm]; exact Below.refl _ _)
            exact hid this.2.2.1
          clear hit hrq hr HI0
          go_wp2
          go_ret
          exact ⟨rfl, KE⟩
        · have kr : ((r : Int) == 65533) = false := by simp; omega
          obtain ⟨q1, q2, q3, q4, q5⟩ := rune_at s pos r q ps hp hrq hr HS.out.flat HS.out.chunk
          have hcr := run_rune W1 r
          generalize Utf8.encode (r : Int) = es at hcr q3 q4 q5
          obtain ⟨cp, W3, hcb, B3, k3⟩ := conv_ex (W1.alloc (.cells #[.int .i32 (r : Int)] 21)) es (by omega)
          rw [q3] at hcb B3
          have k13 : Below W1.heap.size W1 W3 := ((Below.refl _ W1).alloc (Nat.le_refl _) _).trans (k3.out.mono (by simp))
          have HN := hid (HS.out.next (W3 := W3) (q := q) hgw2 (by rw [HG.out, HW1.out, HSZ.out.symm]; exact k13))
          have hw1 : (W1.alloc (.cells #[.int .i32 (r : Int)] 21)).heap.size = W1.heap.size + 1 := by simp
          rw [hw1] at hcb B3
          have HL := hid HS.out.len
          clear hit hrq hr HI0 k13 k3 hw1 HSZ
          go_wp2_with (first
            | (at_builtin
               (refine app_listw W3 rfl (.tmp 31) (.tmp 36) rfl w s (pos + q) k lc LA cs ps t g rfl HN _ rfl rfl _ q cp (sb es) B3 HL q4 q5 (by omega) ?_
                intro A5 c5 cs5 u5 HS5)))
          go_roundw
          case rel => exact ⟨pos + q, k + 1, c5, A5, cs5, ps ++ [sb es], by omega, rfl, HS5⟩
          case measure =>
            rw [hmu]
            have : u5.iterPos g = pos + q := by simp [World.iterPos, HS5.out.it]
            rw [this]
            omega
      · obtain rfl : pos = s.size := by omega
        have hnx : ∀ ty, (Instr.next (.pointer (some ⟨v4.heap.size, 0, none⟩)) true ty).run Try.prog wr = .ok (.tuple #[.bool false]) wr := fun ty => Lib.run_next_end_at wr v4.heap.size s s.size ty hit hp
        have HU := hid (tx_units HS.out.flat HS.out.chunk)
        have HL := hid HS.out.len
        have HV := hid (HS.out.rows.lis HS.out.own)
        have HBx := hid HS.out.box
        have HBl := hid HS.out.bel
        have HSm : Hid (∀ b ∈ units true (sb s), b.length ≤ 1000000) := hid fun b hb => by
          have := (units_each true (sb s) b hb).2
          omega
        clear hit HI0 HS hul hcv S3
        go_wp2_with (first
          | (refine ld26 (by rfl) _ (by rfl) _ (by rfl) t.cs HBx.out hs ?_)
          | (go_at_call 20
             (with_reducible refine (set_b _ ht HT1.out).mono ?_)
             rintro e u5 ⟨rfl, k5⟩
             obtain ⟨cp6, u6, hcv6, B6, k6⟩ := conv_ex u5 s hm
             have K6 := bel_t (bel_t HBl k5.out) k6.out
             have V6 := lis_at (lis_at HV k5.out) k6.out
             have S6 := hid B6.out.slb
             clear k5 k6 B6)
          | (go_at_call 14
             (with_reducible refine (units_any (u := true) _ t1 ok1 _ s.size cp6 (sb s) hu1 S6 (sb_len s) hm).mono ?_)
             rintro e u7 ⟨LA7, k7, lc7, cs7, rfl, hk7, o7, P7, b7⟩
             have V7 := lis_at V6 b7.out
             have W7 := hid (P7.out.lis o7.out)
             have K7 := bel_t K6 b7.out
             have hk77 : k7 ≤ 1000000 := by have := units_len true (sb s); rw [hk7.out, sb_len] at this; omega)
          | (go_at_call 16
             (with_reducible refine (lists_two _ LA7 LA lc7 lc k7 k (units true (sb s)) ps hk7.out HL.out HU.out W7 V7 hk77 HSm).mono ?_)
             rintro e u8 ⟨rfl, k8⟩
             have K8 := bel_t K7 k8.out))
        go_ret
        exact ⟨rfl, K8⟩
end Go.Proofs.Ytnodlpbmlfdijaa
