import Derived.Test.YtlmdbcmaophhnaaDoorSA
namespace Go.Proofs.YtlmdbcmaophhnaaDoor
open Go.RowKit

/-- Fields in memory whose kinds are these. -/
def FKind (w : World) (B : Nat) (A : Option Addr) (ks : List Int) : Prop :=
  ks ≠ [] → ∃ b o, A = some ⟨b, o, none⟩ ∧ b < B ∧ ∀ k (h : k < ks.length), ∃ (n tn tc ln lc : Nat) (tA lA : Option Addr), w.cell? ⟨b, o + k * 4, none⟩ = some (.int .i64 ks[k]) ∧ w.cell? ⟨b, o + k * 4 + 1, none⟩ = some (.int .u32 n) ∧
    w.cell? ⟨b, o + k * 4 + 2, none⟩ = some (.slice tA tn tc) ∧ w.cell? ⟨b, o + k * 4 + 3, none⟩ = some (.slice lA ln lc)
theorem fkind_of {w : World} {B base : Nat} {A : Option Addr} {fs : List Fd} {cs : List Value} (hl : Lies w B A cs) (hf : FlatK w base fs cs) : FKind w B A (fs.map Fd.kind) := fun hn => by
  have hcs : cs ≠ [] := by
    intro e
    have h := hf.length
    rw [e] at h
    have : fs = [] := List.eq_nil_of_length_eq_zero (by simp at h; omega)
    subst this
    exact hn rfl
  obtain ⟨b, o, rfl, hb, hc⟩ := hl hcs
  refine ⟨b, o, rfl, hb, fun k hk => ?_⟩
  have hk' : k < fs.length := by simpa using hk
  obtain ⟨tA, tc, q0, q1, q2, q3, _⟩ := flatK_at fs cs hf k hk'
  refine ⟨_, _, tc, _, _, tA, none, ?_, hc _ _ q1, hc _ _ q2, hc _ _ q3⟩
  rw [List.getElem_map]
  exact hc _ _ q0
theorem FKind.below {w w' : World} {B : Nat} {A : Option Addr} {ks : List Int} (h : FKind w B A ks) (hb : Below B w w') : FKind w' B A ks := fun hn => by
  obtain ⟨b, o, e, hlt, hc⟩ := h hn
  refine ⟨b, o, e, hlt, fun k hk => ?_⟩
  obtain ⟨n, tn, tc, ln, lc, tA, lA, h0, h1, h2, h3⟩ := hc k hk
  exact ⟨n, tn, tc, ln, lc, tA, lA, (hb.cell (p := ⟨b, _, none⟩) hlt).trans h0, (hb.cell (p := ⟨b, _, none⟩) hlt).trans h1, (hb.cell (p := ⟨b, _, none⟩) hlt).trans h2, (hb.cell (p := ⟨b, _, none⟩) hlt).trans h3⟩
theorem own_at {w : World} {base n c s : Nat} {t : TypeId} {A : Option Addr} {xs : List Value} (h : w.ownsRow base t s (.slice A n c) n xs) (hn : 0 < n) :
    ∃ g, A = some ⟨g, 0, none⟩ ∧ base ≤ g ∧ g < w.heap.size ∧ n ≤ c ∧ c ≤ maxLen ∧ ∀ j u, xs[j]? = some u → w.cell? ⟨g, j, none⟩ = some u := by
  have hc := own_caps h
  rcases h.2 with ⟨_, h0⟩ | ⟨g, cap, cur, hv, hb, hh, _⟩
  · omega
  · have hA : A = some ⟨g, 0, none⟩ := by injection hv
    subst hA
    refine ⟨g, rfl, hb, (Array.getElem?_eq_some_iff.1 hh).1, hc.1, hc.2, fun j u hu => ?_⟩
    have := h.cells (g := g) rfl j u hu
    rw [Addr.add_lit] at this
    simpa using this
theorem rread_x (W : World) (kA : Option Addr) (kc kn : Nat) (ks : List Int) (A : Option Addr) (c n : Nat) (bs : List UInt8) (er : Int) (fs : List Fd) (fn : Nat) (hX : Hid (readF ks bs = (er, fs))) (hfn : fs.length = fn) (hkn : ks.length = kn) (hn : Hid (bs.length = n))
    (hk : Hid (Lies W W.heap.size kA (ks.map (Value.int .i64)))) (hkl : kn ≤ 1000) (hb : Hid (SlB W W.heap.size A c bs)) (hbl : n ≤ 100000) :
    Calls Tryd.prog 24 #[.slice kA kn kc, .slice A n c] W fun e w2 => ∃ A1 c1, e = .returned (.tuple #[.slice A1 fn c1, .int .i64 er]) ∧ Hid (∃ cs, w2.ownsRow W.heap.size 50 4 (.slice A1 fs.length c1) fs.length cs ∧ FlatF w2 W.heap.size fs cs) ∧ Hid (Below W.heap.size W w2) := by
  have hn := hn.out
  subst hfn; subst hkn; subst hn
  refine (rread_any W kA kc ks A c bs hk.out hkl hb.out hbl).mono ?_
  rw [hX.out]
  rintro e w2 ⟨A1, c1, cs, rfl, ho, hf, hb⟩
  exact ⟨A1, c1, rfl, ⟨cs, ho, hf⟩, hb⟩
theorem lies_l2 (w : World) (o : Obj) (cs : Array Value) (t : TypeId) : Lies ((w.alloc o).alloc (.cells cs t)) (w.heap.size + 1 + 1) (some ⟨w.heap.size + 1, 0, none⟩) cs.toList := by
  have h := lies_lit (w.alloc o) cs t
  have e : (w.alloc o).heap.size = w.heap.size + 1 := by simp
  rw [e] at h
  exact h
theorem conv_own {w : World} {base n c : Nat} {A : Option Addr} {tx : List UInt8} {s : ByteArray} (h : w.ownsRow base 5 1 (.slice A tx.length c) tx.length (bv tx)) (hn : tx.length = n) (hs : (⟨tx.toArray⟩ : ByteArray) = s) :
    (convert 23 9 (.slice A n c)).run Tryd.prog w.drew = .ok (.string s) w.drew := by
  subst hn; subst hs
  exact str_back w.drew w.drew.heap.size A c tx (Lies.own (own_keep h (Below.refl _ _).drew))
theorem data_own {w : World} {base base' n c : Nat} {A : Option Addr} {tx : List UInt8} (h : w.ownsRow base' 5 1 (.slice A tx.length c) tx.length (bv tx)) (hn : tx.length = n) (hb : base ≤ base') : w.ownsRow base 5 1 (.slice A n c) n (bv tx) := by
  subst hn
  exact own_mono h hb
theorem size_own {w : World} {base c : Nat} {A : Option Addr} {tx : List UInt8} {s : ByteArray} (h : w.ownsRow base 5 1 (.slice A tx.length c) tx.length (bv tx)) (hs : (⟨tx.toArray⟩ : ByteArray) = s) : s.size ≤ maxLen := by
  subst hs
  rw [txt_size]
  exact Nat.le_trans (own_caps h).1 (own_caps h).2
theorem box_dr {w : World} {g : Nat} {t : TypeId} {cs : Array Value} (h : Box w g t cs) : Box w.drew g t cs := h
/-- Some cells of one block, written one behind the other. -/
def sets (g : Nat) : List (Nat × Value) → World → World
  | [], w => w
  | x :: r, w => sets g r (w.setCell ⟨g, x.1, none⟩ x.2)
def setsC : List (Nat × Value) → Array Value → Array Value
  | [], cs => cs
  | x :: r, cs => setsC r (cs.setIfInBounds x.1 x.2)
theorem sets_box {g : Nat} {t : TypeId} : ∀ (l : List (Nat × Value)) {w : World} {cs : Array Value}, Box w g t cs → Box (sets g l w) g t (setsC l cs)
  | [], _, _, h => h
  | x :: r, _, _, h => sets_box r (h.store x.1 x.2)
theorem sets_kept {g B : Nat} {t : TypeId} {T : List TypeId} (hB : B ≤ g) (ht : t ∈ T) : ∀ (l : List (Nat × Value)) {w : World} {cs : Array Value}, Box w g t cs → Kept B T w (sets g l w)
  | [], _, _, _ => Kept.refl _ _ _
  | x :: r, w, _, h => ((Kept.refl B T w).store h hB ht x.2).trans (sets_kept hB ht r (h.store x.1 x.2))
theorem rd_tail {w w6 w8 : World} {z cs : Array Value} (l : List (Nat × Value)) (h0 : Box w6 w.heap.size 25 z) (h1 : Box w6 (w.heap.size + 1) 25 cs) (hb : Below (sets (w.heap.size + 1) l w6).drew.heap.size (sets (w.heap.size + 1) l w6).drew w8) :
    Kept (w.heap.size + 1) [25] w6 w8 ∧ Box w8 w.heap.size 25 z ∧ Box w8 (w.heap.size + 1) 25 (setsC l cs) := by
  have k : Kept (w.heap.size + 1) [25] w6 w8 := (sets_kept (Nat.le_refl _) (by simp) l h1).drew.trans (Kept.of_below hb _ _)
  exact ⟨k, h0.same (k.block _ h0.lt (.inl (by omega))), box_below (box_dr (sets_box l h1)) hb⟩
theorem rd_tail0 {w w6 w8 : World} {z cs : Array Value} (l : List (Nat × Value)) (h0 : Box w6 w.heap.size 25 z) (h1 : Box w6 (w.heap.size + 1) 25 cs) (hb : Below (sets (w.heap.size + 1) l w6).heap.size (sets (w.heap.size + 1) l w6) w8) :
    Kept (w.heap.size + 1) [25] w6 w8 ∧ Box w8 w.heap.size 25 z ∧ Box w8 (w.heap.size + 1) 25 (setsC l cs) := by
  have k : Kept (w.heap.size + 1) [25] w6 w8 := (sets_kept (Nat.le_refl _) (by simp) l h1).trans (Kept.of_below hb _ _)
  exact ⟨k, h0.same (k.block _ h0.lt (.inl (by omega))), box_below (sets_box l h1) hb⟩
theorem conv_sets {w : World} {base n c g : Nat} {A : Option Addr} {tx : List UInt8} {s : ByteArray} {cs : Array Value} (l : List (Nat × Value)) (hx : Box w g 25 cs) (h : w.ownsRow base 5 1 (.slice A tx.length c) tx.length (bv tx)) (hn : tx.length = n) (hs : (⟨tx.toArray⟩ : ByteArray) = s) :
    (convert 23 9 (.slice A n c)).run Tryd.prog (sets g l w).drew = .ok (.string s) (sets g l w).drew :=
  conv_own ((sets_kept (T := [25]) (Nat.zero_le _) (by simp) l hx).own h (by decide)) hn hs
theorem decodeR_ok {w w9 : World} (m : Mg) (A : Option Addr) (c n : Nat) (hn : m.data.length = n) (ho : w9.ownsRow w.heap.size 5 1 (.slice A n c) n (bv m.data)) (hb : Below w.heap.size w w9) :
    DecodeR (0, m) w (.returned (.tuple #[.agg #[.int .i64 m.kind, .int .u32 m.chan, .int .u32 m.sender, .int .u32 m.window, .int .u32 m.packet, .int .u32 m.code, .string m.name, .string m.lang, .bool m.want, .slice A n c], .int .i64 0])) w9 := by
  subst hn
  exact ⟨A, c, rfl, ho, hb⟩
theorem bel2_h (w : World) (o o' : Obj) : Hid (Below w.heap.size w ((w.alloc o).alloc o')) := bel2 w o o'
theorem fz_1 (w : World) :
    Calls Tryd.prog 20 #[.agg #[.int .i64 1, .int .u32 0, .int .u32 0, .int .u32 0, .int .u32 0, .int .u32 0, .string ⟨#[]⟩, .string ⟨#[]⟩, .bool false, .slice none 0 0]] w fun e w' => Hid (Below w.heap.size w w') ∧ ∃ A', e = .returned (.tuple #[.slice A' 3 3, .bool true]) ∧ Hid (FKind w' w'.heap.size A' [3, 4, 4]) := by
  refine (fields20_1 w.heap.size 0 0 0 0 0 0 0 0 0 0 ⟨#[]⟩ ⟨#[]⟩ false none [] w rfl rfl rfl rfl (Nat.zero_le _) (Nat.zero_le _) (Nat.le_refl _) (TK.nil_ _ _)).mono ?_
  rintro e w' ⟨hb, A', rfl, hcs⟩
  obtain ⟨cs, hl, hf⟩ := hcs.out
  exact ⟨hb, A', rfl, fkind_of hl hf⟩
theorem fz_80 (w : World) :
    Calls Tryd.prog 20 #[.agg #[.int .i64 80, .int .u32 0, .int .u32 0, .int .u32 0, .int .u32 0, .int .u32 0, .string ⟨#[]⟩, .string ⟨#[]⟩, .bool false, .slice none 0 0]] w fun e w' => Hid (Below w.heap.size w w') ∧ ∃ A', e = .returned (.tuple #[.slice A' 3 3, .bool true]) ∧ Hid (FKind w' w'.heap.size A' [4, 2, 6]) := by
  refine (fields20_80 w.heap.size 0 0 0 0 0 0 0 0 0 0 ⟨#[]⟩ ⟨#[]⟩ false none [] w rfl rfl rfl rfl (Nat.zero_le _) (Nat.zero_le _) (Nat.le_refl _) (TK.nil_ _ _)).mono ?_
  rintro e w' ⟨hb, A', rfl, hcs⟩
  obtain ⟨cs, hl, hf⟩ := hcs.out
  exact ⟨hb, A', rfl, fkind_of hl hf⟩
theorem fz_81 (w : World) :
    Calls Tryd.prog 20 #[.agg #[.int .i64 81, .int .u32 0, .int .u32 0, .int .u32 0, .int .u32 0, .int .u32 0, .string ⟨#[]⟩, .string ⟨#[]⟩, .bool false, .slice none 0 0]] w fun e w' => Hid (Below w.heap.size w w') ∧ ∃ A', e = .returned (.tuple #[.slice A' 1 1, .bool true]) ∧ Hid (FKind w' w'.heap.size A' [6]) := by
  refine (fields20_81 w.heap.size 0 0 0 0 0 0 0 0 0 0 ⟨#[]⟩ ⟨#[]⟩ false none [] w rfl rfl rfl rfl (Nat.zero_le _) (Nat.zero_le _) (Nat.le_refl _) (TK.nil_ _ _)).mono ?_
  rintro e w' ⟨hb, A', rfl, hcs⟩
  obtain ⟨cs, hl, hf⟩ := hcs.out
  exact ⟨hb, A', rfl, fkind_of hl hf⟩
theorem fz_82 (w : World) :
    Calls Tryd.prog 20 #[.agg #[.int .i64 82, .int .u32 0, .int .u32 0, .int .u32 0, .int .u32 0, .int .u32 0, .string ⟨#[]⟩, .string ⟨#[]⟩, .bool false, .slice none 0 0]] w fun e w' => Hid (Below w.heap.size w w') ∧ ∃ A', e = .returned (.tuple #[.slice A' 0 0, .bool true]) ∧ Hid (FKind w' w'.heap.size A' []) := by
  refine (fields20_82 w.heap.size 0 0 0 0 0 0 0 0 0 0 ⟨#[]⟩ ⟨#[]⟩ false none [] w rfl rfl rfl rfl (Nat.zero_le _) (Nat.zero_le _) (Nat.le_refl _) (TK.nil_ _ _)).mono ?_
  rintro e w' ⟨hb, A', rfl, hcs⟩
  obtain ⟨cs, hl, hf⟩ := hcs.out
  exact ⟨hb, A', rfl, fkind_of hl hf⟩
theorem fz_90 (w : World) :
    Calls Tryd.prog 20 #[.agg #[.int .i64 90, .int .u32 0, .int .u32 0, .int .u32 0, .int .u32 0, .int .u32 0, .string ⟨#[]⟩, .string ⟨#[]⟩, .bool false, .slice none 0 0]] w fun e w' => Hid (Below w.heap.size w w') ∧ ∃ A', e = .returned (.tuple #[.slice A' 5 5, .bool true]) ∧ Hid (FKind w' w'.heap.size A' [4, 3, 3, 3, 6]) := by
  refine (fields20_90 w.heap.size 0 0 0 0 0 0 0 0 0 0 ⟨#[]⟩ ⟨#[]⟩ false none [] w rfl rfl rfl rfl (Nat.zero_le _) (Nat.zero_le _) (Nat.le_refl _) (TK.nil_ _ _)).mono ?_
  rintro e w' ⟨hb, A', rfl, hcs⟩
  obtain ⟨cs, hl, hf⟩ := hcs.out
  exact ⟨hb, A', rfl, fkind_of hl hf⟩
theorem fz_91 (w : World) :
    Calls Tryd.prog 20 #[.agg #[.int .i64 91, .int .u32 0, .int .u32 0, .int .u32 0, .int .u32 0, .int .u32 0, .string ⟨#[]⟩, .string ⟨#[]⟩, .bool false, .slice none 0 0]] w fun e w' => Hid (Below w.heap.size w w') ∧ ∃ A', e = .returned (.tuple #[.slice A' 5 5, .bool true]) ∧ Hid (FKind w' w'.heap.size A' [3, 3, 3, 3, 6]) := by
  refine (fields20_91 w.heap.size 0 0 0 0 0 0 0 0 0 0 ⟨#[]⟩ ⟨#[]⟩ false none [] w rfl rfl rfl rfl (Nat.zero_le _) (Nat.zero_le _) (Nat.le_refl _) (TK.nil_ _ _)).mono ?_
  rintro e w' ⟨hb, A', rfl, hcs⟩
  obtain ⟨cs, hl, hf⟩ := hcs.out
  exact ⟨hb, A', rfl, fkind_of hl hf⟩
theorem fz_92 (w : World) :
    Calls Tryd.prog 20 #[.agg #[.int .i64 92, .int .u32 0, .int .u32 0, .int .u32 0, .int .u32 0, .int .u32 0, .string ⟨#[]⟩, .string ⟨#[]⟩, .bool false, .slice none 0 0]] w fun e w' => Hid (Below w.heap.size w w') ∧ ∃ A', e = .returned (.tuple #[.slice A' 4 4, .bool true]) ∧ Hid (FKind w' w'.heap.size A' [3, 3, 4, 4]) := by
  refine (fields20_92 w.heap.size 0 0 0 0 0 0 0 0 0 0 ⟨#[]⟩ ⟨#[]⟩ false none [] w rfl rfl rfl rfl (Nat.zero_le _) (Nat.zero_le _) (Nat.le_refl _) (TK.nil_ _ _)).mono ?_
  rintro e w' ⟨hb, A', rfl, hcs⟩
  obtain ⟨cs, hl, hf⟩ := hcs.out
  exact ⟨hb, A', rfl, fkind_of hl hf⟩
theorem fz_93 (w : World) :
    Calls Tryd.prog 20 #[.agg #[.int .i64 93, .int .u32 0, .int .u32 0, .int .u32 0, .int .u32 0, .int .u32 0, .string ⟨#[]⟩, .string ⟨#[]⟩, .bool false, .slice none 0 0]] w fun e w' => Hid (Below w.heap.size w w') ∧ ∃ A', e = .returned (.tuple #[.slice A' 2 2, .bool true]) ∧ Hid (FKind w' w'.heap.size A' [3, 3]) := by
  refine (fields20_93 w.heap.size 0 0 0 0 0 0 0 0 0 0 ⟨#[]⟩ ⟨#[]⟩ false none [] w rfl rfl rfl rfl (Nat.zero_le _) (Nat.zero_le _) (Nat.le_refl _) (TK.nil_ _ _)).mono ?_
  rintro e w' ⟨hb, A', rfl, hcs⟩
  obtain ⟨cs, hl, hf⟩ := hcs.out
  exact ⟨hb, A', rfl, fkind_of hl hf⟩
theorem fz_94 (w : World) :
    Calls Tryd.prog 20 #[.agg #[.int .i64 94, .int .u32 0, .int .u32 0, .int .u32 0, .int .u32 0, .int .u32 0, .string ⟨#[]⟩, .string ⟨#[]⟩, .bool false, .slice none 0 0]] w fun e w' => Hid (Below w.heap.size w w') ∧ ∃ A', e = .returned (.tuple #[.slice A' 2 2, .bool true]) ∧ Hid (FKind w' w'.heap.size A' [3, 4]) := by
  refine (fields20_94 w.heap.size 0 0 0 0 0 0 0 0 0 0 ⟨#[]⟩ ⟨#[]⟩ false none [] w rfl rfl rfl rfl (Nat.zero_le _) (Nat.zero_le _) (Nat.le_refl _) (TK.nil_ _ _)).mono ?_
  rintro e w' ⟨hb, A', rfl, hcs⟩
  obtain ⟨cs, hl, hf⟩ := hcs.out
  exact ⟨hb, A', rfl, fkind_of hl hf⟩
theorem fz_95 (w : World) :
    Calls Tryd.prog 20 #[.agg #[.int .i64 95, .int .u32 0, .int .u32 0, .int .u32 0, .int .u32 0, .int .u32 0, .string ⟨#[]⟩, .string ⟨#[]⟩, .bool false, .slice none 0 0]] w fun e w' => Hid (Below w.heap.size w w') ∧ ∃ A', e = .returned (.tuple #[.slice A' 3 3, .bool true]) ∧ Hid (FKind w' w'.heap.size A' [3, 3, 4]) := by
  refine (fields20_95 w.heap.size 0 0 0 0 0 0 0 0 0 0 ⟨#[]⟩ ⟨#[]⟩ false none [] w rfl rfl rfl rfl (Nat.zero_le _) (Nat.zero_le _) (Nat.le_refl _) (TK.nil_ _ _)).mono ?_
  rintro e w' ⟨hb, A', rfl, hcs⟩
  obtain ⟨cs, hl, hf⟩ := hcs.out
  exact ⟨hb, A', rfl, fkind_of hl hf⟩
theorem fz_96 (w : World) :
    Calls Tryd.prog 20 #[.agg #[.int .i64 96, .int .u32 0, .int .u32 0, .int .u32 0, .int .u32 0, .int .u32 0, .string ⟨#[]⟩, .string ⟨#[]⟩, .bool false, .slice none 0 0]] w fun e w' => Hid (Below w.heap.size w w') ∧ ∃ A', e = .returned (.tuple #[.slice A' 1 1, .bool true]) ∧ Hid (FKind w' w'.heap.size A' [3]) := by
  refine (fields20_96 w.heap.size 0 0 0 0 0 0 0 0 0 0 ⟨#[]⟩ ⟨#[]⟩ false none [] w rfl rfl rfl rfl (Nat.zero_le _) (Nat.zero_le _) (Nat.le_refl _) (TK.nil_ _ _)).mono ?_
  rintro e w' ⟨hb, A', rfl, hcs⟩
  obtain ⟨cs, hl, hf⟩ := hcs.out
  exact ⟨hb, A', rfl, fkind_of hl hf⟩
theorem fz_97 (w : World) :
    Calls Tryd.prog 20 #[.agg #[.int .i64 97, .int .u32 0, .int .u32 0, .int .u32 0, .int .u32 0, .int .u32 0, .string ⟨#[]⟩, .string ⟨#[]⟩, .bool false, .slice none 0 0]] w fun e w' => Hid (Below w.heap.size w w') ∧ ∃ A', e = .returned (.tuple #[.slice A' 1 1, .bool true]) ∧ Hid (FKind w' w'.heap.size A' [3]) := by
  refine (fields20_97 w.heap.size 0 0 0 0 0 0 0 0 0 0 ⟨#[]⟩ ⟨#[]⟩ false none [] w rfl rfl rfl rfl (Nat.zero_le _) (Nat.zero_le _) (Nat.le_refl _) (TK.nil_ _ _)).mono ?_
  rintro e w' ⟨hb, A', rfl, hcs⟩
  obtain ⟨cs, hl, hf⟩ := hcs.out
  exact ⟨hb, A', rfl, fkind_of hl hf⟩
theorem fz_98 (w : World) :
    Calls Tryd.prog 20 #[.agg #[.int .i64 98, .int .u32 0, .int .u32 0, .int .u32 0, .int .u32 0, .int .u32 0, .string ⟨#[]⟩, .string ⟨#[]⟩, .bool false, .slice none 0 0]] w fun e w' => Hid (Below w.heap.size w w') ∧ ∃ A', e = .returned (.tuple #[.slice A' 4 4, .bool true]) ∧ Hid (FKind w' w'.heap.size A' [3, 4, 2, 6]) := by
  refine (fields20_98 w.heap.size 0 0 0 0 0 0 0 0 0 0 ⟨#[]⟩ ⟨#[]⟩ false none [] w rfl rfl rfl rfl (Nat.zero_le _) (Nat.zero_le _) (Nat.le_refl _) (TK.nil_ _ _)).mono ?_
  rintro e w' ⟨hb, A', rfl, hcs⟩
  obtain ⟨cs, hl, hf⟩ := hcs.out
  exact ⟨hb, A', rfl, fkind_of hl hf⟩
theorem fz_99 (w : World) :
    Calls Tryd.prog 20 #[.agg #[.int .i64 99, .int .u32 0, .int .u32 0, .int .u32 0, .int .u32 0, .int .u32 0, .string ⟨#[]⟩, .string ⟨#[]⟩, .bool false, .slice none 0 0]] w fun e w' => Hid (Below w.heap.size w w') ∧ ∃ A', e = .returned (.tuple #[.slice A' 1 1, .bool true]) ∧ Hid (FKind w' w'.heap.size A' [3]) := by
  refine (fields20_99 w.heap.size 0 0 0 0 0 0 0 0 0 0 ⟨#[]⟩ ⟨#[]⟩ false none [] w rfl rfl rfl rfl (Nat.zero_le _) (Nat.zero_le _) (Nat.le_refl _) (TK.nil_ _ _)).mono ?_
  rintro e w' ⟨hb, A', rfl, hcs⟩
  obtain ⟨cs, hl, hf⟩ := hcs.out
  exact ⟨hb, A', rfl, fkind_of hl hf⟩
theorem fz_100 (w : World) :
    Calls Tryd.prog 20 #[.agg #[.int .i64 100, .int .u32 0, .int .u32 0, .int .u32 0, .int .u32 0, .int .u32 0, .string ⟨#[]⟩, .string ⟨#[]⟩, .bool false, .slice none 0 0]] w fun e w' => Hid (Below w.heap.size w w') ∧ ∃ A', e = .returned (.tuple #[.slice A' 1 1, .bool true]) ∧ Hid (FKind w' w'.heap.size A' [3]) := by
  refine (fields20_100 w.heap.size 0 0 0 0 0 0 0 0 0 0 ⟨#[]⟩ ⟨#[]⟩ false none [] w rfl rfl rfl rfl (Nat.zero_le _) (Nat.zero_le _) (Nat.le_refl _) (TK.nil_ _ _)).mono ?_
  rintro e w' ⟨hb, A', rfl, hcs⟩
  obtain ⟨cs, hl, hf⟩ := hcs.out
  exact ⟨hb, A', rfl, fkind_of hl hf⟩
theorem fz_none (w : World) (kd : Int) (hk : ∀ k : Int, k ∈ tab.map Prod.fst → ¬ kd = k) :
    Calls Tryd.prog 20 #[.agg #[.int .i64 kd, .int .u32 0, .int .u32 0, .int .u32 0, .int .u32 0, .int .u32 0, .string ⟨#[]⟩, .string ⟨#[]⟩, .bool false, .slice none 0 0]] w fun e w' => e = .returned (.tuple #[.slice none 0 0, .bool false]) ∧ Hid (Below w.heap.size w w') :=
  fields20_none kd hk 0 0 0 0 0 0 0 ⟨#[]⟩ ⟨#[]⟩ false none w
set_option maxHeartbeats 4000000 in
set_option maxRecDepth 100000 in
theorem rdec_none (w : World) (A : Option Addr) (c n : Nat) (b0 : UInt8) (r : List UInt8) (hn : (b0 :: r).length = n) (hX : look b0.toNat tab = none) (hb : SlB w w.heap.size A c (b0 :: r)) (hl : n ≤ 100000) :
    Calls Tryd.prog 16 #[.slice A n c] w (DecodeR (decF (b0 :: r)) w) := by
  obtain ⟨bk, o, rfl, hbk, hcells⟩ := hb.2.2.2 (by simp [bv])
  have cb : w.cell? ⟨bk, o, none⟩ = some (.int .u8 b0.toNat) := hcells 0 _ rfl
  have cb1 : ∀ ob, (w.alloc ob).cell? ⟨bk, o, none⟩ = some (.int .u8 b0.toNat) := fun ob => ((bel1 w ob).cell (p := ⟨bk, o, none⟩) hbk).trans cb
  have hn1 : 0 < n := by rw [← hn]; simp
  have hn2 : (0 : Int) < n := by omega
  have hn3 : ((n : Int) == 0) = false := by simp; omega
  have HE : Hid (decF (b0 :: r) = (8, zeroM)) := by show _ = _; rw [decF, hX]
  have HN := hid (look_none hX)
  have hlo : (-9223372036854775808 : Int) ≤ (b0.toNat : Int) := by omega
  have hhi : (b0.toNat : Int) ≤ 9223372036854775807 := by have := b0.toNat_lt; omega
  clear hcells hb hn hX
  go_enter Tryd.func16, Tryd.ntmps16
  go_wp2_with (
    go_at_call 20
    ((with_reducible refine (fz_none _ b0.toNat HN.out).mono ?_); rintro e w1 ⟨rfl, HB1⟩)
    have hx : Box w1 w.heap.size 25 #[.int .i64 0, .int .u32 0, .int .u32 0, .int .u32 0, .int .u32 0, .int .u32 0, .string ⟨#[]⟩, .string ⟨#[]⟩, .bool false, .slice none 0 0] := box_below (box_below (Box.new w 25 _) (bel1 _ _)) HB1.out
    have rc0 : w1.cell? ⟨w.heap.size, 0, none⟩ = some (.int .i64 0) := hx.cell 0
    have rf0 : w1.frozen? ⟨w.heap.size, 0, none⟩ = false := hx.frozen 0
    have rc1 : w1.cell? ⟨w.heap.size, 1, none⟩ = some (.int .u32 0) := hx.cell 1
    have rf1 : w1.frozen? ⟨w.heap.size, 1, none⟩ = false := hx.frozen 1
    have rc2 : w1.cell? ⟨w.heap.size, 2, none⟩ = some (.int .u32 0) := hx.cell 2
    have rf2 : w1.frozen? ⟨w.heap.size, 2, none⟩ = false := hx.frozen 2
    have rc3 : w1.cell? ⟨w.heap.size, 3, none⟩ = some (.int .u32 0) := hx.cell 3
    have rf3 : w1.frozen? ⟨w.heap.size, 3, none⟩ = false := hx.frozen 3
    have rc4 : w1.cell? ⟨w.heap.size, 4, none⟩ = some (.int .u32 0) := hx.cell 4
    have rf4 : w1.frozen? ⟨w.heap.size, 4, none⟩ = false := hx.frozen 4
    have rc5 : w1.cell? ⟨w.heap.size, 5, none⟩ = some (.int .u32 0) := hx.cell 5
    have rf5 : w1.frozen? ⟨w.heap.size, 5, none⟩ = false := hx.frozen 5
    have rc6 : w1.cell? ⟨w.heap.size, 6, none⟩ = some (.string ⟨#[]⟩) := hx.cell 6
    have rf6 : w1.frozen? ⟨w.heap.size, 6, none⟩ = false := hx.frozen 6
    have rc7 : w1.cell? ⟨w.heap.size, 7, none⟩ = some (.string ⟨#[]⟩) := hx.cell 7
    have rf7 : w1.frozen? ⟨w.heap.size, 7, none⟩ = false := hx.frozen 7
    have rc8 : w1.cell? ⟨w.heap.size, 8, none⟩ = some (.bool false) := hx.cell 8
    have rf8 : w1.frozen? ⟨w.heap.size, 8, none⟩ = false := hx.frozen 8
    have rc9 : w1.cell? ⟨w.heap.size, 9, none⟩ = some (.slice none 0 0) := hx.cell 9
    have rf9 : w1.frozen? ⟨w.heap.size, 9, none⟩ = false := hx.frozen 9
    have HB2 := bel_trans (bel2_h w _ _) HB1
    clear hx)
  refine bodyPost_ret (v := .tuple #[.agg (zeroM.cells none 0), .int .i64 8]) (by simp [results, Tryd.results16, go_sem, zeroM, Mg.cells, rc0, rc1, rc2, rc3, rc4, rc5, rc6, rc7, rc8, rc9]) rfl ?_
  rw [HE.out]
  exact decodeR_err _ _ _ (bel_ten HB2.out (Nat.le_refl _) _ _ _ _ _ _ _ _ _ _)

end Go.Proofs.YtlmdbcmaophhnaaDoor
