/- TLBs, plainly: entries, what takes them away, which are found. -/
import Derived.Test.YtjohnpbfdpmajaaPa
import Derived.Test.YtjohnpbfdpmajaaRow
set_option linter.all false
namespace Go.Proofs.Ytjohnpbfdpmajaa
open Go.ChangeShapes Go.WideShapes Go.ChangeAt Go.RowKit Go.Deep

/-- What is remembered. -/
structure Ety where
  k : Int
  vm : Int
  sp : Int
  al : Bool
  pg : Int
  lv : Int
  fr : Int
  mi : Int
  t : Atr
deriving DecidableEq
/-- What takes away. -/
structure Inv where
  k : Int
  vm : Int
  sp : Int
  pg : Int
deriving DecidableEq
def entC (e : Ety) : Array Value := #[.int .i64 e.k, .int .i64 e.vm, .int .i64 e.sp, .bool e.al, .int .i64 e.pg, .int .i64 e.lv, .int .i64 e.fr, .int .i64 e.mi, .bool e.t.r, .bool e.t.w, .bool e.t.x, .bool e.t.a, .bool e.t.n, .int .i64 e.t.s]
def entV (e : Ety) : Value := .agg (entC e)
def invC (i : Inv) : Array Value := #[.int .i64 i.k, .int .i64 i.vm, .int .i64 i.sp, .int .i64 i.pg]
def invV (i : Inv) : Value := .agg (invC i)
def ent0 : Ety := ⟨0, 0, 0, false, 0, 0, 0, 0, atr0⟩
def inv0 : Inv := ⟨0, 0, 0, 0⟩
def eqE (a b : Ety) : Bool := decide (a = b)
def eqI (a b : Inv) : Bool := decide (a = b)
theorem eqE_self (a : Ety) : eqE a a = true := by simp [eqE]
theorem eqI_self (a : Inv) : eqI a a = true := by simp [eqI]
def KE : RowK Ety where
  ts := 24
  t := 36
  N := 14
  B := 80
  z := .agg (entC ent0)
  V := entC
  pos := by decide
  small := by decide
  size := fun _ => rfl
  one := fun q v hv => by
    simp only [entC, List.mem_cons, List.not_mem_nil, or_false] at hv
    rcases hv with rfl | rfl | rfl | rfl | rfl | rfl | rfl | rfl | rfl | rfl | rfl | rfl | rfl | rfl <;> rfl
  under := Try.underlying24
  info := by kernel_rfl
  zs := rfl
def KI : RowK Inv where
  ts := 23
  t := 32
  N := 4
  B := 32
  z := .agg (invC inv0)
  V := invC
  pos := by decide
  small := by decide
  size := fun _ => rfl
  one := fun q v hv => by
    simp only [invC, List.mem_cons, List.not_mem_nil, or_false] at hv
    rcases hv with rfl | rfl | rfl | rfl <;> rfl
  under := Try.underlying23
  info := by kernel_rfl
  zs := rfl

/-- A page without the bits that a table of a level tells itself. -/
def abvP (lv p : Int) : Int := p - p % cov (lv - 1)
def mayEn (e : Ety) : Bool := numB e.vm 15 && (numB e.sp 15 && (numB e.pg 4095 && (numB e.fr 4095 && (numB e.mi 4095 && (decide (e.t.s = 0) &&
  (if e.k = 1 then decide (e.lv = 0) else if e.k = 2 then decide (e.sp = 0) && (e.al && (decide (e.lv = 0) && (decide (e.mi = 0) && !e.t.n)))
    else if e.k = 3 then decide (1 ≤ e.lv) && (decide (e.lv ≤ 3) && (decide (abvP e.lv e.pg = e.pg) && (decide (e.mi = 0) && eqA e.t atr0))) else false))))))
def mayIn (i : Inv) : Bool := decide (1 ≤ i.k) && (decide (i.k ≤ 6) && (numB i.vm 15 && (numB i.sp 15 && numB i.pg 4095)))
/-- A place of the first that is so; -1: there is none. -/
def placeE (p : Ety → Bool) : List Ety → Int → Int
  | [], _ => -1
  | x :: L, k => if p x then k else placeE p L (k + 1)
def inE (L : List Ety) (e : Ety) : Int := placeE (fun x => eqE x e) L 0
def allE (L : List Ety) : Bool := (List.range L.length).all fun j => mayEn (L.getD j ent0) && decide (inE L (L.getD j ent0) = j)
def allI (D : List Inv) : Bool := D.all mayIn
def mayTl (E : List Ety) (D : List Inv) : Bool := allE E && (allI D && (decide (E.length ≤ 8) && decide (D.length ≤ 8)))
def ofE (e : Ety) (vm sp : Int) : Bool := decide (e.vm = vm) && (e.al || decide (e.sp = sp))
def isWh (vm sp pg acc : Int) (e : Ety) : Bool := decide (e.k = 1) && (ofE e vm sp && (decide (e.pg = pg) && mayA e.t acc))
def isMd (vm pg acc : Int) (e : Ety) : Bool := decide (e.k = 2) && (decide (e.vm = vm) && (decide (e.pg = pg) && mayA e.t acc))
def isWk (vm sp pg : Int) (e : Ety) : Bool := decide (e.k = 3) && (ofE e vm sp && decide (e.pg = abvP e.lv pg))
def whole9 (E : List Ety) (vm sp pg acc : Int) : Int := placeE (isWh vm sp pg acc) E 0
def mid9 (E : List Ety) (vm pg acc : Int) : Int := placeE (isMd vm pg acc) E 0
/-- The deepest one: a place, and its level. -/
def walkF (p : Ety → Bool) : List Ety → Int → Int → Int → Int
  | [], _, at', _ => at'
  | x :: L, k, at', lv => if p x && (decide (at' < 0) || decide (lv < x.lv)) then walkF p L (k + 1) k x.lv else walkF p L (k + 1) at' lv
def walk9 (E : List Ety) (vm sp pg : Int) : Int := walkF (isWk vm sp pg) E 0 (-1) 0
def fill9 (E : List Ety) (e : Ety) : List Ety := if inE E e < 0 ∧ E.length < 8 then E ++ [e] else E
def drop9 (E : List Ety) (i : Nat) : List Ety := E.take i ++ E.drop (i + 1)
end Go.Proofs.Ytjohnpbfdpmajaa
