/- A text as a list of bytes: what the program's functions of words tell of it. -/
namespace Go.Proofs.YtcnmghkmognhoaaDoor

/-- how many bytes of a kind a text begins with -/
def runF (p : UInt8 → Bool) : List UInt8 → Nat
  | [] => 0
  | x :: t => if p x = true then runF p t + 1 else 0
theorem runF_le (p : UInt8 → Bool) : ∀ l, runF p l ≤ l.length
  | [] => Nat.le_refl _
  | x :: t => by rw [runF]; have := runF_le p t; split <;> simp <;> omega
def betP (a b : Nat) (x : UInt8) : Bool := decide (a ≤ x.toNat ∧ x.toNat ≤ b)
def setP (S : List UInt8) (x : UInt8) : Bool := S.contains x
def headP (p : UInt8 → Bool) : List UInt8 → Bool
  | [] => false
  | x :: _ => p x
def digP : UInt8 → Bool := betP 48 57
def letP (x : UInt8) : Bool := betP 97 122 x || betP 65 90 x
def fstP (x : UInt8) : Bool := letP x || setP [95, 36] x
def wrdP (x : UInt8) : Bool := letP x || digP x || setP [95, 46, 36] x
def afterF (l : List UInt8) (at' : Nat) (p : UInt8 → Bool) : List UInt8 := if headP p (l.drop at') = true then l.drop (at' + 1) else []
/-- the size of the number ahead, without its power -/
def numA (l : List UInt8) : Nat :=
  let n0 := runF digP l
  let m := runF digP (afterF l n0 (setP [46]))
  if 0 < m then n0 + 1 + m else n0
def numF (l : List UInt8) : Nat :=
  let n1 := numA l
  if n1 = 0 ∨ headP (setP [69, 101]) (l.drop n1) = false then n1 else
    let rest := l.drop (n1 + 1)
    let sg := runF (setP [43, 45]) (rest.take 1)
    let m2 := runF digP (rest.drop sg)
    if 0 < m2 then n1 + 1 + sg + m2 else n1
def wordF (l : List UInt8) : Nat := if headP fstP l = true then runF wrdP l else 0
def isRowF (l : List UInt8) : Bool := decide (1 ≤ l.length ∧ l.length ≤ 7) && !(headP (fun x => x == 48) l) && decide (runF digP l = l.length)
/-- without a $ ahead -/
def cutD (l : List UInt8) : List UInt8 := if headP (fun x => x == 36) l = true then l.drop 1 else l
def isMarkF (l : List UInt8) : Bool :=
  let fx := headP (fun x => x == 36) l
  let r := cutD l
  let n := runF letP r
  let rest := r.drop n
  if 3 < n then false else if n = 0 then fx && isRowF rest else if rest = [] then fx else isRowF (cutD rest)
/-- the text in quotes: how many bytes, from a place on -/
def tszF : List UInt8 → Nat → Nat
  | [], _ => 0
  | [x], k => if x = 34 then k + 1 else 0
  | x :: y :: u, k => if x = 34 then (if y = 34 then tszF u (k + 2) else k + 1) else tszF (y :: u) (k + 1)
theorem tsz_ne {x : UInt8} (h : x ≠ 34) (l : List UInt8) (k : Nat) : tszF (x :: l) k = tszF l (k + 1) := by
  cases l with
  | nil => simp [tszF, h]
  | cons y u => rw [tszF, if_neg h]
theorem tsz_two (l : List UInt8) (k : Nat) : tszF (34 :: 34 :: l) k = tszF l (k + 2) := by rw [tszF, if_pos rfl, if_pos rfl]
theorem tsz_one {y : UInt8} (h : y ≠ 34) (l : List UInt8) (k : Nat) : tszF (34 :: y :: l) k = k + 1 := by rw [tszF, if_pos rfl, if_neg h]
def textF (l : List UInt8) : Nat := tszF (l.drop 1) 1
/-- each two quotes as one -/
def meantF : List UInt8 → List UInt8
  | [] => []
  | [x] => [x]
  | x :: y :: u => if x = 34 ∧ y = 34 then 34 :: meantF u else x :: meantF (y :: u)
def foldB (x : UInt8) : UInt8 := if 97 ≤ x.toNat ∧ x.toNat ≤ 122 then x - 97 + 65 else x
def faultL : List (List UInt8) := [[], [35, 68, 73, 86, 47, 48, 33], [35, 86, 65, 76, 85, 69, 33], [35, 82, 69, 70, 33], [35, 78, 65, 77, 69, 63], [35, 78, 85, 77, 33], [35, 78, 47, 65], [35, 83, 80, 73, 76, 76, 33], [35, 67, 73, 82, 67, 33], [35, 67, 65, 76, 67, 33]]
def faultT (k : Nat) : List UInt8 := faultL.getD k []
/-- the fault of a text: its number; 0: none -/
def faultOfF (l : List UInt8) : Nat := ((List.range 10).find? fun k => decide (0 < k) && (l.map foldB == faultT k)).getD 0
def faultAt (l : List UInt8) (k : Nat) : Bool := decide ((faultT k).length ≤ l.length) && (faultOfF (l.take (faultT k).length) == k)
def faultF (l : List UInt8) : List UInt8 := if headP (setP [35]) l = true then (((List.range' 1 9).find? (faultAt l)).map faultT).getD [] else []
def signS : List UInt8 := [43, 45, 42, 47, 94, 38, 61, 60, 62, 37, 40, 41, 123, 125, 44, 59, 58, 35]
def signF (l : List UInt8) : Nat := if [60, 62].isPrefixOf l || [60, 61].isPrefixOf l || [62, 61].isPrefixOf l then 2 else runF (setP signS) (l.take 1)

structure Tok where
  kind : Int
  text : List UInt8
  at' : Int
deriving DecidableEq
/-- the token that a text begins with, and its size -/
def firstF (l : List UInt8) : Tok × Nat :=
  if 0 < numF l then (⟨1, l.take (numF l), 0⟩, numF l)
  else if 0 < wordF l then
    let w := l.take (wordF l)
    if isMarkF w = true then (⟨4, w, 0⟩, w.length) else if w.contains 36 then (⟨0, [], 0⟩, 0) else (⟨3, w, 0⟩, w.length)
  else if headP (fun x => x == 34) l = true then
    if textF l = 0 then (⟨0, [], 0⟩, 0) else (⟨2, meantF ((l.take (textF l - 1)).drop 1), 0⟩, textF l)
  else if faultF l ≠ [] then (⟨6, faultF l, 0⟩, (faultF l).length)
  else (⟨5, l.take (signF l), 0⟩, signF l)
/-- the tokens from a place on: done so many, or the place where none begins -/
def lexF (s : List UInt8) : Nat → Nat → List Tok ⊕ Nat
  | 0, k => .inl [⟨0, [], k⟩]
  | f + 1, k =>
    match s.drop k with
    | [] => .inl [⟨0, [], k⟩]
    | x :: t =>
      if x = 32 then lexF s f (k + 1) else
        let (tk, n) := firstF (x :: t)
        if n = 0 then .inr k else
          match lexF s f (k + n) with
          | .inl l => .inl ({ tk with at' := k } :: l)
          | .inr b => .inr b
end Go.Proofs.YtcnmghkmognhoaaDoor
