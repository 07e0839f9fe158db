import Derived.Test.YtdplngplljejhaaDoorQZ
namespace Go.Proofs.YtdplngplljejhaaDoor
open Go.RowKit

/-- A request as the program has it. -/
structure Rq where
  kind : Int
  text : ByteArray
  value : ByteArray
  lang : ByteArray
  cols : Nat
  rows : Nat
  width : Nat
  height : Nat
  modes : List UInt8
  on : Bool
  code : Nat
def Rq.cells (r : Rq) (A : Option Addr) (c : Nat) : Array Value :=
  #[.int .i64 r.kind, .string r.text, .string r.value, .string r.lang, .int .u32 r.cols, .int .u32 r.rows, .int .u32 r.width, .int .u32 r.height, .slice A r.modes.length c, .bool r.on, .int .u32 r.code]
def zeroR : Rq := ⟨0, ⟨#[]⟩, ⟨#[]⟩, ⟨#[]⟩, 0, 0, 0, 0, [], false, 0⟩
structure Rq.Ok (r : Rq) : Prop where
  kind : -9223372036854775808 ≤ r.kind ∧ r.kind ≤ 9223372036854775807
  text : r.text.size ≤ maxLen
  value : r.value.size ≤ maxLen
  lang : r.lang.size ≤ maxLen
  cols : r.cols < 4294967296
  rows : r.rows < 4294967296
  width : r.width < 4294967296
  height : r.height < 4294967296
  code : r.code < 4294967296

/-- What a writer has: the fields that were written, and what is wrong with them. -/
structure Ws where
  fs : List Fd
  bad : Bool
  long : Bool
namespace Ws
def zero : Ws := ⟨[], false, false⟩
def num (n : Nat) (s : Ws) : Ws := ⟨s.fs ++ [⟨3, n, [], []⟩], s.bad, s.long⟩
def txt (t : List UInt8) (s : Ws) : Ws := ⟨s.fs ++ [⟨4, 0, t, []⟩], s.bad, s.long || decide (1024 < t.length)⟩
def wrd (least : Nat) (t : ByteArray) (s : Ws) : Ws := ⟨s.fs ++ [⟨4, 0, t.data.toList, []⟩], s.bad || !wordOk least t, s.long⟩
def flg (b : Bool) (s : Ws) : Ws := ⟨s.fs ++ [⟨2, if b then 1 else 0, [], []⟩], s.bad, s.long⟩
def eqs (t : ByteArray) (s : Ws) : Ws := ⟨s.fs, s.bad || t.data.toList.contains 61, s.long⟩
def size (r : Rq) (s : Ws) : Ws := (((s.num r.cols).num r.rows).num r.width).num r.height
def fault (s : Ws) : Int := if s.bad then 4 else if s.long then 6 else 0
end Ws

/-- The ten rows. -/
inductive Rw where
  | pty | env | shell | exec | subsystem | change | xon | signal | status | ends
namespace Rw
def all : List Rw := [pty, env, shell, exec, subsystem, change, xon, signal, status, ends]
def kind : Rw → Int
  | pty => 1 | env => 2 | shell => 3 | exec => 4 | subsystem => 5 | change => 6 | xon => 7 | signal => 8 | status => 9 | ends => 10
def put (r : Rq) (s : Ws) : Rw → Ws
  | pty => ((s.wrd 0 r.text).size r).txt r.modes
  | env => ((s.wrd 1 r.text).eqs r.text).txt r.value.data.toList
  | shell => s
  | exec => s.txt r.text.data.toList
  | subsystem => s.wrd 1 r.text
  | change => s.size r
  | xon => s.flg r.on
  | signal => s.wrd 1 r.text
  | status => s.num r.code
  | ends => (((s.wrd 1 r.text).flg r.on).txt r.value.data.toList).wrd 0 r.lang
/-- The kinds of a row's fields. -/
def kinds : Rw → List Int
  | pty => [4, 3, 3, 3, 3, 4]
  | env => [4, 4]
  | shell => []
  | exec => [4]
  | subsystem => [4]
  | change => [3, 3, 3, 3]
  | xon => [2]
  | signal => [4]
  | status => [3]
  | ends => [4, 2, 4, 4]
def str (f : Fd) : ByteArray := ⟨f.text.toArray⟩
def get (x : List Fd) (r : Rq) : Rw → Rq
  | pty => match x with
    | [a, b, c, d, e, f] => { r with text := str a, cols := b.n, rows := c.n, width := d.n, height := e.n, modes := f.text }
    | _ => r
  | env => match x with
    | [a, b] => { r with text := str a, value := str b }
    | _ => r
  | shell => r
  | exec => match x with
    | [a] => { r with text := str a }
    | _ => r
  | subsystem => match x with
    | [a] => { r with text := str a }
    | _ => r
  | change => match x with
    | [b, c, d, e] => { r with cols := b.n, rows := c.n, width := d.n, height := e.n }
    | _ => r
  | xon => match x with
    | [a] => { r with on := decide (a.n = 1) }
    | _ => r
  | signal => match x with
    | [a] => { r with text := str a }
    | _ => r
  | status => match x with
    | [a] => { r with code := a.n }
    | _ => r
  | ends => match x with
    | [a, b, c, d] => { r with text := str a, on := decide (b.n = 1), value := str c, lang := str d }
    | _ => r
def bytes : Rw → Array UInt8
  | pty => #[112, 116, 121, 45, 114, 101, 113]
  | env => #[101, 110, 118]
  | shell => #[115, 104, 101, 108, 108]
  | exec => #[101, 120, 101, 99]
  | subsystem => #[115, 117, 98, 115, 121, 115, 116, 101, 109]
  | change => #[119, 105, 110, 100, 111, 119, 45, 99, 104, 97, 110, 103, 101]
  | xon => #[120, 111, 110, 45, 120, 111, 102, 102]
  | signal => #[115, 105, 103, 110, 97, 108]
  | status => #[101, 120, 105, 116, 45, 115, 116, 97, 116, 117, 115]
  | ends => #[101, 120, 105, 116, 45, 115, 105, 103, 110, 97, 108]
def name (k : Rw) : ByteArray := ⟨k.bytes⟩
end Rw
/-- The row of a kind, and of a name. -/
def rowK (k : Int) : List Rw → Option Rw
  | [] => none
  | a :: r => if a.kind = k then some a else rowK k r
def rowN (s : ByteArray) : List Rw → Option Rw
  | [] => none
  | a :: r => if a.name = s then some a else rowN s r
theorem put_kinds (k : Rw) : (k.put zeroR .zero).fs.map Fd.kind = k.kinds := by cases k <;> rfl
theorem put_kinds_any (k : Rw) (r : Rq) : (k.put r .zero).fs.map Fd.kind = k.kinds := by cases k <;> rfl
theorem kinds_len (k : Rw) : k.kinds.length ≤ 6 := by cases k <;> simp [Rw.kinds]

end Go.Proofs.YtdplngplljejhaaDoor
