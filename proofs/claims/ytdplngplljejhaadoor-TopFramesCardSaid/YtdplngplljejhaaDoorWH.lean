import Derived.Test.YtdplngplljejhaaDoorWG
import Derived.Laws.BytesArg
namespace Go.Proofs.YtdplngplljejhaaDoor
open Go.RowKit

def spl (tx : List UInt8) : List ByteArray := Lib.splitB ⟨#[44]⟩ 0 (Lib.countB ⟨tx.toArray⟩ ⟨#[44]⟩) ⟨tx.toArray⟩
theorem spl_length (tx : List UInt8) : (spl tx).length = Lib.countB ⟨tx.toArray⟩ ⟨#[44]⟩ + 1 := Lib.splitB_all _ (by decide) 0 _ _ rfl
theorem splitB_size (sep : ByteArray) (N : Nat) : ∀ (k : Nat) (s : ByteArray), s.size ≤ N → ∀ p ∈ Lib.splitB sep 0 k s, p.size ≤ N
  | 0, s, h, p, hp => by
    simp only [Lib.splitB, List.mem_singleton] at hp
    subst hp; exact h
  | k + 1, s, h, p, hp => by
    unfold Lib.splitB at hp
    split at hp
    · simp only [List.mem_singleton] at hp
      subst hp; exact h
    · simp only [List.mem_cons] at hp
      rcases hp with rfl | hp
      · simp only [ByteArray.size_extract]; omega
      · exact splitB_size sep N k _ (by simp only [ByteArray.size_extract]; omega) p hp
theorem spl_size (tx : List UInt8) (N : Nat) (h : tx.length ≤ N) : ∀ p ∈ spl tx, p.size ≤ N := splitB_size _ N _ _ (by show tx.toArray.size ≤ N; simpa using h)

theorem split_any (tx : List UInt8) (w : World) (m : Int) (hm : w.cell? ⟨0, 0, none⟩ = some (.int .i64 m)) (hl : tx.length ≤ 32768) :
    Calls Tryd.prog 98 #[.string ⟨tx.toArray⟩, .string ⟨#[44]⟩] w fun e w' => e = .returned (.slice (some ⟨w.heap.size, 0, none⟩) (spl tx).length (spl tx).length) ∧ w' = w.alloc (.cells ((spl tx).map Value.string).toArray 9) := by
  rw [spl_length]
  have hs : (⟨tx.toArray⟩ : ByteArray).size = tx.length := by simp [ByteArray.size]
  exact Tryd.strings_Split ⟨tx.toArray⟩ ⟨#[44]⟩ m w (by rw [hs]; omega) hm (by decide)

theorem conv_any (w : World) (b o c : Nat) (tx : List UInt8) (hc : ∀ j u, (bv tx)[j]? = some u → w.cell? ⟨b, o + j, none⟩ = some u) :
    (convert 22 9 (.slice (some ⟨b, o, none⟩) tx.length c)).run Tryd.prog w = .ok (.string ⟨tx.toArray⟩) w := by
  have e : strOfNums (tx.map fun c => (c.toNat : Int)) = ⟨tx.toArray⟩ := by
    apply ByteArray.ext
    apply Array.ext'
    rw [strOfNums_data]
    simp [Function.comp_def]
  have h := run_convert_bytes_arg (P := Tryd.prog) w 22 5 Tryd.underlying22 Tryd.underlying5 b o tx.length c (tx.map fun c => (c.toNat : Int)) (by simp) (fun i hi => by
    rw [hc i (.int .u8 (tx[i].toNat)) (by simp [bv, hi])]
    simp [List.getD, hi]) 9 Tryd.underlying9
  rw [e] at h
  exact h

def namesF (left : List UInt8) : Int × Fd × List UInt8 :=
  if (textF left).1 = 0 then
    (if (textF left).2.1 = [] then (0, zf, (textF left).2.2) else if 64 < (spl (textF left).2.1).length then (6, zf, []) else if (spl (textF left).2.1).all nameOk then (0, ⟨0, 0, [], spl (textF left).2.1⟩, (textF left).2.2) else (4, zf, []))
  else ((textF left).1, zf, [])

set_option maxHeartbeats 2000000 in
set_option maxRecDepth 100000 in
theorem getNames_any (B g : Nat) (left : List UInt8) (w : World) (hs : RSt w B g left) (hB : B ≤ w.heap.size) (hB0 : 0 < B) (m : Int) (hm : w.cell? ⟨0, 0, none⟩ = some (.int .i64 m)) :
    Calls Tryd.prog 68 #[.pointer (some ⟨g, 0, none⟩)] w (GetR B g (namesF left) w) := by
  have hs0 := hs.alloc hB
  have hk0 : ∀ o, Kept B [111] w (w.alloc o) := fun o => (Kept.refl _ _ _).alloc o
  have hB1 : ∀ o, B ≤ (w.alloc o).heap.size := fun o => by simp; omega
  obtain ⟨⟨er, tx, rs⟩, HX⟩ : ∃ x, Hid (textF left = x) := ⟨_, rfl⟩
  have htx : tx.length ≤ 32768 := by have := textF_len left; rw [HX.out] at this; exact this
  have HM := hid hm
  clear hm
  by_cases her : er = 0
  · subst her
    by_cases he : tx = []
    · subst he
      have hS : namesF left = (0, zf, rs) := by simp [namesF, HX.out]
      have HS := hid hS
      clear hS htx
      go_enter Tryd.func68, Tryd.ntmps68
      go_wp2_with (
        go_at_call 96
        refine (text_any B g left _ (hs0 _) (hB1 _)).mono ?_
        rw [HX.out]
        rintro e w1 ⟨_, h1⟩
        obtain ⟨A, c, rfl, hsl, hr, hk⟩ : ∃ A c, e = .returned (.tuple #[.slice A 0 c, .int .i64 0]) ∧ SlB w1 B A c [] ∧ RSt w1 B g rs ∧ Kept B [111] _ w1 := h1 rfl
        clear h1
        have hbx : Box w1 w.heap.size 80 #[.int .i64 0, .int .u32 0, .slice none 0 0, .slice none 0 0] := hk.box (Box.new w 80 _) (by decide)
        have hblt := hbx.lt
        have d0 : w1.cell? ⟨w.heap.size, 0, none⟩ = some (.int .i64 0) := hbx.cell 0
        have d1 : w1.cell? ⟨w.heap.size, 1, none⟩ = some (.int .u32 0) := hbx.cell 1
        have d2 : w1.cell? ⟨w.heap.size, 2, none⟩ = some (.slice none 0 0) := hbx.cell 2
        have d3 : w1.cell? ⟨w.heap.size, 3, none⟩ = some (.slice none 0 0) := hbx.cell 3
        have f0 : w1.frozen? ⟨w.heap.size, 0, none⟩ = false := hbx.frozen 0
        have f1 : w1.frozen? ⟨w.heap.size, 1, none⟩ = false := hbx.frozen 1
        have f2 : w1.frozen? ⟨w.heap.size, 2, none⟩ = false := hbx.frozen 2
        have f3 : w1.frozen? ⟨w.heap.size, 3, none⟩ = false := hbx.frozen 3)
      refine bodyPost_ret (v := .tuple #[Z, .int .i64 0]) (by simp [results, Tryd.results68, go_sem, d0, d1, d2, d3, Z]) rfl ?_
      rw [HS.out]
      refine ⟨fun h => by simp at h, fun _ => ⟨none, 0, none, 0, rfl, World.ownsRow_nil _ _ _ _, World.ownsRow_nil _ _ _ _, ?_, ?_⟩⟩
      · exact hr.four hB (Nat.ne_of_lt hs.lt) _ _ _ _
      · exact ((hk0 _).trans hk).four (Nat.le_refl _) _ _ _ _
    · have hl0 : ((tx.length : Int) == 0) = false := by
        have : tx.length ≠ 0 := fun h => he (List.eq_nil_of_length_eq_zero h)
        simp; exact he
      have HE := hid he
      clear he
      have hlen : ((spl tx).length : Int) = (spl tx).length := rfl
      have HN : Hid (namesF left = if 64 < (spl tx).length then (6, zf, []) else if (spl tx).all nameOk then (0, ⟨0, 0, [], spl tx⟩, rs) else (4, zf, [])) := by
        show _ = _
        simp [namesF, HX.out, HE.out]
      have hsz := spl_size tx maxLen (by unfold maxLen; omega)
      have HSZ := hid hsz
      clear hsz hlen
      generalize hL : spl tx = L at *
      have HLL := hid hL
      clear hL
      go_enter Tryd.func68, Tryd.ntmps68
      go_wp2_with (first
        | (go_at_call 96
           refine (text_any B g left _ (hs0 _) (hB1 _)).mono ?_
           rw [HX.out]
           rintro e w1 ⟨_, h1⟩
           obtain ⟨A, c, rfl, hsl, hr, hk⟩ := h1 rfl
           obtain ⟨b, o, rfl, hbl, hcells⟩ := hsl.2.2.2 (by intro e; exact HE.out (by simpa [bv] using e))
           have hcv := conv_any w1 b o c tx hcells
           have HM1 : Hid (w1.cell? ⟨0, 0, none⟩ = some (.int .i64 m)) := ((((hk0 _).trans hk).below hB).cell (p := ⟨0, 0, none⟩) hB0).trans HM.out
           clear h1 hcells)
        | (go_at_call 98
           refine (split_any tx _ m HM1.out htx).mono ?_
           rw [HLL.out]
           rintro e w2 ⟨rfl, hw2⟩
           have hk2 := hk.alloc (Obj.cells (L.map Value.string).toArray 9)
           rw [← hw2] at hk2
           have hrow : Box w2 w1.heap.size 9 (L.map Value.string).toArray := by rw [hw2]; exact Box.new w1 9 _
           have hr2 : RSt w2 B g rs := by rw [hw2]; exact hr.alloc (Nat.le_trans (hB1 _) hk.size) _
           have hown2 : w2.ownsRow w1.heap.size 9 1 (.slice (some ⟨w1.heap.size, 0, none⟩) L.length L.length) L.length (L.map Value.string) := by
             rw [hw2]
             have hlL : L.length ≤ maxLen := by
               have := Lib.countB_le ⟨#[44]⟩ (by decide) (⟨tx.toArray⟩ : ByteArray).size ⟨tx.toArray⟩ (Nat.le_refl _)
               have h2 := spl_length tx
               have h3 : (⟨tx.toArray⟩ : ByteArray).size = tx.length := by simp [ByteArray.size]
               rw [HLL.out] at h2
               unfold maxLen; omega
             have := World.ownsRow_lit (base := w1.heap.size) (e := 9) (size := 1) w1 (L.map Value.string).toArray L.length (Nat.le_refl _) hlL (by simp)
             simpa using this
           have hbx : Box w2 w.heap.size 80 #[.int .i64 0, .int .u32 0, .slice none 0 0, .slice none 0 0] := hk2.box (Box.new w 80 _) (by decide)
           have hblt := hbx.lt
           have d0 : w2.cell? ⟨w.heap.size, 0, none⟩ = some (.int .i64 0) := hbx.cell 0
           have d1 : w2.cell? ⟨w.heap.size, 1, none⟩ = some (.int .u32 0) := hbx.cell 1
           have d2 : w2.cell? ⟨w.heap.size, 2, none⟩ = some (.slice none 0 0) := hbx.cell 2
           have d3 : w2.cell? ⟨w.heap.size, 3, none⟩ = some (.slice none 0 0) := hbx.cell 3
           have f0 : w2.frozen? ⟨w.heap.size, 0, none⟩ = false := hbx.frozen 0
           have f1 : w2.frozen? ⟨w.heap.size, 1, none⟩ = false := hbx.frozen 1
           have f2 : w2.frozen? ⟨w.heap.size, 2, none⟩ = false := hbx.frozen 2
           have f3 : w2.frozen? ⟨w.heap.size, 3, none⟩ = false := hbx.frozen 3
           clear hw2))
      · have h64 : 64 < L.length := by omega
        have hE : namesF left = (6, zf, []) := by rw [HN.out, if_pos h64]
        refine bodyPost_ret (v := .tuple #[Z, .int .i64 6]) (by simp [results, Tryd.results68, go_sem, d0, d1, d2, d3, Z]) rfl ?_
        rw [hE]
        refine ⟨fun _ => ⟨rfl, ?_⟩, fun h => by simp at h⟩
        exact ((hk0 _).trans hk2).four (Nat.le_refl _) _ _ _ _
      · have h64 : ¬ 64 < L.length := by omega
        have HN2 : Hid (namesF left = if L.all nameOk then (0, ⟨0, 0, [], L⟩, rs) else (4, zf, [])) := by show _ = _; rw [HN.out, if_neg h64]
        have hrc : ∀ j (h : j < L.length), w2.cell? ⟨w1.heap.size, j, none⟩ = some (.string L[j]) := fun j hj => by
          have h := hrow.cell j
          rw [h]
          simp [hj]
        have HRC := hid hrc
        have HR2 := hid hr2
        have HO2 := hid hown2
        have HK2 := hid hk2
        have HK := hid hk
        clear hrc hrow hr2 hown2 hk hcv hr
        clear hk2
        go_loop [31] (fun i => ∃ k : Nat, k ≤ L.length ∧ i = .int .i64 k ∧ (L.take k).all nameOk = true) (fun i => L.length - (intOf i).toNat)
        case atStart => exact ⟨0, Nat.zero_le _, rfl, rfl⟩
        case round =>
          obtain ⟨k, hk, rfl, hal⟩ := hrel
          have HA := hid hal; clear hal
          by_cases hlt : k < L.length
          · have hck := HRC.out k hlt
            have hszk := HSZ.out L[k] (List.getElem_mem hlt)
            by_cases hb : nameOk L[k] = true
            · have hS : (L.take (k + 1)).all nameOk = true := by rw [take_snoc _ _ hlt, List.all_append, HA.out]; simp [hb]
              have HS' := hid hS; clear hS
              have HB := hid hb; clear hb
              go_wp2_with (go_at_call 99; refine (nameRight_any _ _ hszk).mono ?_; rintro e w' ⟨he, rfl⟩; rw [HB.out] at he; subst he)
              go_round
              case rel => exact ⟨k + 1, by omega, by go_num, HS'.out⟩
              case measure => simp [intOf]; omega
            · have hbf : nameOk L[k] = false := by simpa using hb
              have hall : L.all nameOk = false := by rw [List.all_eq_false]; exact ⟨_, List.getElem_mem hlt, hb⟩
              have hE : namesF left = (4, zf, []) := by rw [HN2.out, hall]; rfl
              have HB := hid hbf
              have HF := hid hE
              clear hb hbf hall hE
              go_wp2_with (go_at_call 99; refine (nameRight_any _ _ hszk).mono ?_; rintro e w' ⟨he, rfl⟩; rw [HB.out] at he; subst he)
              refine bodyPost_ret (v := .tuple #[Z, .int .i64 4]) (by simp [results, Tryd.results68, go_sem, d0, d1, d2, d3, Z]) rfl ?_
              rw [HF.out]
              refine ⟨fun _ => ⟨rfl, ?_⟩, fun h => by simp at h⟩
              exact ((hk0 _).trans HK2.out).four (Nat.le_refl _) _ _ _ _
          · have hks : k = L.length := by omega
            have hall : L.all nameOk = true := by have h := HA.out; rw [hks, List.take_length] at h; exact h
            have hE : namesF left = (0, ⟨0, 0, [], L⟩, rs) := by rw [HN2.out, hall]; rfl
            have HF := hid hE
            clear hks hall hE
            go_wp2
            refine bodyPost_ret (v := .tuple #[.agg #[.int .i64 0, .int .u32 0, .slice none 0 0, .slice (some ⟨w1.heap.size, 0, none⟩) L.length L.length], .int .i64 0]) (by simp [results, Tryd.results68, go_sem, d0, d1, d2, d3]) rfl ?_
            rw [HF.out]
            refine ⟨fun h => by simp at h, fun _ => ⟨none, 0, _, L.length, rfl, World.ownsRow_nil _ _ _ _, ?_, ?_, ?_⟩⟩
            · exact own_mono (own_four HO2.out (own_ne HO2.out hbx (by decide)) _ _ _ _) (by have := HK.out.size; simp at this; omega)
            · exact HR2.out.four hB (Nat.ne_of_lt hs.lt) _ _ _ _
            · exact ((hk0 _).trans HK2.out).four (Nat.le_refl _) _ _ _ _
  · have hz : (er == 0) = false := by simpa using her
    have hS : namesF left = (er, zf, []) := by simp [namesF, HX.out, her]
    have HS := hid hS
    have HER := hid her
    clear her hS
    go_enter Tryd.func68, Tryd.ntmps68
    go_wp2_with (
      go_at_call 96
      refine (text_any B g left _ (hs0 _) (hB1 _)).mono ?_
      rw [HX.out]
      rintro e w1 ⟨h1, _⟩
      obtain ⟨rfl, hk⟩ := h1 HER.out
      clear h1
      have hbx : Box w1 w.heap.size 80 #[.int .i64 0, .int .u32 0, .slice none 0 0, .slice none 0 0] := hk.box (Box.new w 80 _) (by decide)
      have hblt := hbx.lt
      have d0 : w1.cell? ⟨w.heap.size, 0, none⟩ = some (.int .i64 0) := hbx.cell 0
      have d1 : w1.cell? ⟨w.heap.size, 1, none⟩ = some (.int .u32 0) := hbx.cell 1
      have d2 : w1.cell? ⟨w.heap.size, 2, none⟩ = some (.slice none 0 0) := hbx.cell 2
      have d3 : w1.cell? ⟨w.heap.size, 3, none⟩ = some (.slice none 0 0) := hbx.cell 3
      have f0 : w1.frozen? ⟨w.heap.size, 0, none⟩ = false := hbx.frozen 0
      have f1 : w1.frozen? ⟨w.heap.size, 1, none⟩ = false := hbx.frozen 1
      have f2 : w1.frozen? ⟨w.heap.size, 2, none⟩ = false := hbx.frozen 2
      have f3 : w1.frozen? ⟨w.heap.size, 3, none⟩ = false := hbx.frozen 3)
    refine bodyPost_ret (v := .tuple #[Z, .int .i64 er]) (by simp [results, Tryd.results68, go_sem, d0, d1, d2, d3, Z]) rfl ?_
    rw [HS.out]
    refine ⟨fun _ => ⟨rfl, ?_⟩, fun h => absurd h HER.out⟩
    exact ((hk0 _).trans hk).four (Nat.le_refl _) _ _ _ _
end Go.Proofs.YtdplngplljejhaaDoor
