/-
  What comes in for layer 7's laws: a session, acts, bools.
-/
import Derived.Test.YtnmmokdkngccjaaSesA
import Derived.Test.YtnmmokdkngccjaaOpenLn
namespace Go.Proofs.Ytnmmokdkngccjaa
open Go.RowKit
namespace Ses
open Num
open Msg (I64)

/-- a session that came in -/
structure Se.Fits (s : Se) : Prop where
  state : I64 s.state
  next : I64 s.inn.next
  out : I64 s.out
  every : I64 s.every
  heard : I64 s.heard
  said : I64 s.said
  asked : I64 s.asked
  when : I64 s.when
def IsSe (w : World) (s : Se) (a : Option Addr) (n cap : Nat) : Prop := s.Fits ∧ Rsq.IsIts w a n cap s.inn.held

/-- an act -/
structure Ac where
  k : Int
  m : Msg.Ms
  more : Int
def Ac.arr (x : Ac) : Array Value := #[.int .u8 x.k, .int .i64 x.m.kind, .int .i64 x.m.seq, .int .i64 x.m.time, .bool x.m.copy, .int .i64 x.m.a, .int .i64 x.m.b, .bool x.m.gap, .string x.m.text,
  .string x.m.exec.id, .string x.m.exec.ref, .string x.m.exec.order, .string x.m.exec.account, .string x.m.exec.symbol, .int .i64 x.m.exec.kind, .bool x.m.exec.buy, .int .i64 x.m.exec.qty, .int .i64 x.m.exec.price, .int .i64 x.m.exec.time, .int .u8 x.more]
structure Ac.Fits (x : Ac) : Prop where
  k : 0 ≤ x.k ∧ x.k ≤ 255
  m : x.m.Fits
  more : 0 ≤ x.more ∧ x.more ≤ 255
theorem Ac.arr_list (x : Ac) : x.arr.toList = .int .u8 x.k :: (x.m.cells.toList ++ [.int .u8 x.more]) := rfl
def encA : Enc Ac := ⟨fun x => x.arr.toList, 20, fun _ => rfl, fun x u hu => by
  rw [Ac.arr_list] at hu
  rcases List.mem_cons.1 hu with rfl | hu
  · rfl
  · rcases List.mem_append.1 hu with hu | hu
    · exact encM.one x.m u hu
    · obtain rfl := List.mem_singleton.1 hu
      rfl⟩
def IsAcs (w : World) (a : Option Addr) (len cap : Nat) (l : List Ac) : Prop := l.length = len ∧ len ≤ maxLen ∧ RowAt encA w a cap l ∧ ∀ x ∈ l, x.Fits
def encB : Enc Bool := ⟨fun b => [.bool b], 1, fun _ => rfl, fun b u hu => by
  obtain rfl := List.mem_singleton.1 hu
  rfl⟩
def IsBls (w : World) (a : Option Addr) (len cap : Nat) (l : List Bool) : Prop := l.length = len ∧ len ≤ maxLen ∧ RowAt encB w a cap l

end Ses
end Go.Proofs.Ytnmmokdkngccjaa
