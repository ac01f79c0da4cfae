import PyProof.Rows.All
import HandS.ForMost
import HandS.ForExc
import HandS.Evl
import HandS.Wide
import HandS.IsInst
import HandS.Small
import HandS.Flow
import HandS.Conv
import HandS.TupAny
import HandS.ExcValue
import HandS.ExcField
import HandS.ExcIs
import HandS.Rev
import HandS.Zip
import HandS.SortInts
import HandS.ListItems
import HandS.ExcInit
import PyProof.ReprRoads
import HandS.HeadEnd
import KE.KDictPairs
import HandS.More
import HandS.Style
import HandS.TupMul
import KE.GoesMore
import KE.GoesZip
import HandS.Defaults
import HandS.MakeKwOnly
import HandS.WordsExc
import HandS.DictTup
import HandS.SortOrd
import HandS.SortRule
import PyProof.ReprLen
import PyProof.Rows.ReprOcc
import HandS.SortKw
import KE.KMinKey
import KE.DataEq
import HandS.Text
import HandS.Strs
import PySem.Challenge.RW_blindtill_k49_tills_in_every_company
set_option Elab.async false
set_option linter.all false
set_option maxRecDepth 100000
set_option maxHeartbeats 2000000
/-! Pv: defs over data. What a piece of the text does is told by a plain function of the slots' data; lists and dicts that are changed in place are owned by one slot. -/
namespace Pv
open PySem PySem.Spec PyProof.Rows L2

/-- data: exc k is an exception of the k-th class, excF k x one with a field; tupW: a tuple of which nothing more is known, as iterators yield them -/
inductive D where
  | non | bl (b : Bool) | int (i : Int) | str (s : Str) | tup (xs : List D) | lst (xs : List D) | exc (k : Nat) | excF (k : Nat) (x : D) | tupW (xs : List D)
/-- what a slot holds: data, or what it owns: a list, a dict, a list of owned lists -/
inductive W where
  | d (x : D) | ml (xs : List D) | md (kvs : List (Key × D)) | mm (xss : List (List D))
abbrev St := L2.St
abbrev Env := List (Option W)
/-- how a piece ends, with the state S behind it -/
inductive R (S : Type) (α : Type) where
  | ok (a : α) (s : S) | exc (k : Nat) (f : Option D) (s : S) | bad
/-- what a program's classes of exceptions are: where they stand, their field's name -/
structure Cls where
  at_ : Nat → Addr
  fld : Nat → Str
  /-- the class above all of them -/
  top : Addr

/-- an exception object, held as a value -/
def ExV (cls : Value) (d : Option Addr) (a : Addr) : HO := .ext fun h => ∃ oe vs, h.get? a = some oe ∧ Zc cls d oe ∧ oe.data = .fields vs

/-- a tuple that is plain: known to its object, which has no dict of its own -/
def Tp (K : PySem.W.Frag) (G : Hp) (a : Addr) (vs : List V) : Prop := (∃ o, G a = some (.frz o (.tup vs)) ∧ o.dict = none) ∨
  ∃ (o : Obj) (its : Array Value) (n : Nat), K.lookup a = some o ∧ o.cls = .type "tuple" ∧ o.data = .seq its n ∧ its.size ≤ sizeLine ∧ Vals vs its.toList ∧ o.dict = none
theorem Tp.sq {K : PySem.W.Frag} {G : Hp} {a : Addr} {vs : List V} (h : Tp K G a vs) : SqT K G a vs := by
  rcases h with ⟨o, h, _⟩ | ⟨o, its, n, h1, h2, h3, h4, h5, _⟩
  · exact .inl (.inr ⟨o, h⟩)
  · exact .inr ⟨o, its, n, h1, h2, h3, h4, h5⟩
theorem Tp.new {K : PySem.W.Frag} {G : Hp} {a : Addr} {vs : List V} {o : Obj} (h : o.dict = none) : Tp K (upd G a (.frz o (.tup vs))) a vs := .inl ⟨o, upd_same, h⟩
theorem Tp.mono {K : PySem.W.Frag} {G G' : Hp} {a : Addr} {vs : List V} (e : Evl.Ex G G') (h : Tp K G a vs) : Tp K G' a vs := by
  rcases h with ⟨o, h, d⟩ | h
  · exact .inl ⟨o, e _ _ h, d⟩
  · exact .inr h
section
variable (K : PySem.W.Frag) (κ : Cls)
mutual
inductive Rp (G : Hp) : V → D → Prop
  | non : Rp G .non .non
  | bl (b : Bool) : Rp G (.bl b) (.bl b)
  | int (i : Int) : Rp G (.int i) (.int i)
  | str (x : Str) : Rp G (.str x) (.str x)
  | tup {a : Addr} {vs : List V} {xs : List D} : Tp K G a vs → RpAll G vs xs → Rp G (.ref a) (.tup xs)
  | lst {a : Addr} {vs : List V} {xs : List D} : SqL K G a vs → RpAll G vs xs → Rp G (.ref a) (.lst xs)
  | tupW {a : Addr} {vs : List V} {xs : List D} : SqT K G a vs → RpAll G vs xs → Rp G (.ref a) (.tupW xs)
  | exc {a : Addr} {k : Nat} : G a = some (ExV (.ref (κ.at_ k)) none a) → Rp G (.ref a) (.exc k)
  | excF {a p : Addr} {k : Nat} {v : V} {x : D} : G a = some (ExV (.ref (κ.at_ k)) (some p) a) → G p = some (.xd [(κ.fld k, v)]) → Rp G v x → Rp G (.ref a) (.excF k x)
inductive RpAll (G : Hp) : List V → List D → Prop
  | nil : RpAll G [] []
  | cons {v : V} {vs : List V} {x : D} {xs : List D} : Rp G v x → RpAll G vs xs → RpAll G (v :: vs) (x :: xs)
end
end

abbrev Ex := Evl.Ex
theorem ex_l {K : PySem.W.Frag} {H H' : Hp} {a : Addr} {xs : List V} (e : Ex H H') (h : SqL K H a xs) : SqL K H' a xs := Evl.ex_l e h
theorem ex_t {K : PySem.W.Frag} {H H' : Hp} {a : Addr} {xs : List V} (e : Ex H H') (h : SqT K H a xs) : SqT K H' a xs := Evl.ex_t e h
section
variable {K : PySem.W.Frag} {κ : Cls} {G H G' H' : Hp}
mutual
theorem Rp.mono (e : Ex G G') : ∀ {v : V} {x : D}, Rp K κ G v x → Rp K κ G' v x
  | _, _, .non => .non
  | _, _, .bl b => .bl b
  | _, _, .int i => .int i
  | _, _, .str x => .str x
  | _, _, .tup h r => .tup (h.mono e) (RpAll.mono e r)
  | _, _, .lst h r => .lst (ex_l e h) (RpAll.mono e r)
  | _, _, .exc h => .exc (e _ _ h)
  | _, _, .excF h h2 r => .excF (e _ _ h) (e _ _ h2) (Rp.mono e r)
  | _, _, .tupW h r => .tupW (ex_t e h) (RpAll.mono e r)
theorem RpAll.mono (e : Ex G G') : ∀ {vs : List V} {xs : List D}, RpAll K κ G vs xs → RpAll K κ G' vs xs
  | _, _, .nil => .nil
  | _, _, .cons h r => .cons (Rp.mono e h) (RpAll.mono e r)
end
theorem RpAll.length : ∀ {vs : List V} {xs : List D}, RpAll K κ G vs xs → vs.length = xs.length
  | _, _, .nil => rfl
  | _, _, .cons _ r => congrArg (· + 1) (RpAll.length r)
theorem RpAll.get : ∀ {vs : List V} {xs : List D} {i : Nat} {x : D}, RpAll K κ G vs xs → xs[i]? = some x → ∃ v, vs[i]? = some v ∧ Rp K κ G v x
  | _, _, 0, _, .cons h r, e => by
    simp only [List.getElem?_cons_zero, Option.some.injEq] at e
    subst e
    exact ⟨_, rfl, h⟩
  | _, _, i + 1, x, .cons h r, e => by
    simp only [List.getElem?_cons_succ] at e
    obtain ⟨v, e', q⟩ := RpAll.get r e
    exact ⟨v, by simpa using e', q⟩
theorem RpAll.get' : ∀ {vs : List V} {xs : List D} {i : Nat} {v : V}, RpAll K κ G vs xs → vs[i]? = some v → ∃ x, xs[i]? = some x ∧ Rp K κ G v x
  | _, _, 0, _, .cons h r, e => by
    simp only [List.getElem?_cons_zero, Option.some.injEq] at e
    subst e
    exact ⟨_, rfl, h⟩
  | _, _, i + 1, x, .cons h r, e => by
    simp only [List.getElem?_cons_succ] at e
    obtain ⟨v, e', q⟩ := RpAll.get' r e
    exact ⟨v, by simpa using e', q⟩
theorem RpAll.append : ∀ {vs us : List V} {xs ys : List D}, RpAll K κ G vs xs → RpAll K κ G us ys → RpAll K κ G (vs ++ us) (xs ++ ys)
  | _, _, _, _, .nil, s => s
  | _, _, _, _, .cons h r, s => .cons h (RpAll.append r s)
theorem RpAll.take : ∀ {vs : List V} {xs : List D} (n : Nat), RpAll K κ G vs xs → RpAll K κ G (vs.take n) (xs.take n)
  | _, _, 0, _ => .nil
  | _, _, _ + 1, .nil => .nil
  | _, _, n + 1, .cons h r => .cons h (RpAll.take n r)
theorem RpAll.drop : ∀ {vs : List V} {xs : List D} (n : Nat), RpAll K κ G vs xs → RpAll K κ G (vs.drop n) (xs.drop n)
  | _, _, 0, r => r
  | _, _, _ + 1, .nil => .nil
  | _, _, n + 1, .cons _ r => RpAll.drop n r
theorem RpAll.set {v : V} {x : D} (h : Rp K κ G v x) : ∀ {vs : List V} {xs : List D} (n : Nat), RpAll K κ G vs xs → RpAll K κ G (vs.set n v) (xs.set n x)
  | _, _, _, .nil => .nil
  | _, _, 0, .cons _ r => .cons h r
  | _, _, n + 1, .cons q r => .cons q (RpAll.set h n r)
theorem RpAll.eraseIdx : ∀ {vs : List V} {xs : List D} (n : Nat), RpAll K κ G vs xs → RpAll K κ G (vs.eraseIdx n) (xs.eraseIdx n)
  | _, _, _, .nil => .nil
  | _, _, 0, .cons _ r => r
  | _, _, n + 1, .cons q r => .cons q (RpAll.eraseIdx n r)
theorem RpAll.reverse {vs : List V} {xs : List D} (r : RpAll K κ G vs xs) : RpAll K κ G vs.reverse xs.reverse := by
  induction vs generalizing xs with
  | nil => cases r; exact .nil
  | cons v vs ih =>
    cases r with
    | cons h r =>
      rw [List.reverse_cons, List.reverse_cons]
      exact (ih r).append (.cons h .nil)
end

/-- the pairs of an owned dict -/
def KvAll (K : PySem.W.Frag) (κ : Cls) (G : Hp) : List (Key × V) → List (Key × D) → Prop
  | [], [] => True
  | (k, v) :: ks, (j, x) :: kvs => k = j ∧ Rp K κ G v x ∧ KvAll K κ G ks kvs
  | _, _ => False

/-- lists of one's own, one at each address -/
def MLs (K : PySem.W.Frag) (κ : Cls) (G H : Hp) : List (List D) → List Addr → Prop
  | [], [] => True
  | xs :: xss, b :: bs => (G b = none ∧ ∃ vs, H b = some (.lst vs) ∧ RpAll K κ G vs xs) ∧ MLs K κ G H xss bs
  | _, _ => False

/-- a slot's value stands for w; L: the addresses that it owns -/
def Rw (K : PySem.W.Frag) (κ : Cls) (G H : Hp) : W → V → List Addr → Prop
  | .d x, v, L => L = [] ∧ Rp K κ G v x
  | .ml xs, v, L => ∃ a vs, v = .ref a ∧ L = [a] ∧ G a = none ∧ H a = some (.lst vs) ∧ RpAll K κ G vs xs
  | .md kvs, v, L => ∃ a ks, v = .ref a ∧ L = [a] ∧ G a = none ∧ H a = some (.dK ks) ∧ KvAll K κ G ks kvs
  | .mm xss, v, L => ∃ a bs, v = .ref a ∧ L = a :: bs ∧ G a = none ∧ H a = some (.lst (bs.map V.ref)) ∧ MLs K κ G H xss bs

def EnvR (K : PySem.W.Frag) (κ : Cls) (G H : Hp) : Env → St → List Addr → Prop
  | [], [], L => L = []
  | none :: ρ, _ :: σ, L => EnvR K κ G H ρ σ L
  | some w :: ρ, some v :: σ, L => ∃ L1 L2, L = L1 ++ L2 ∧ Rw K κ G H w v L1 ∧ EnvR K κ G H ρ σ L2
  | _, _, _ => False
def RwAll (K : PySem.W.Frag) (κ : Cls) (G H : Hp) : List W → List V → List Addr → Prop
  | [], [], L => L = []
  | w :: ws, v :: vs, L => ∃ L1 L2, L = L1 ++ L2 ∧ Rw K κ G H w v L1 ∧ RwAll K κ G H ws vs L2
  | _, _, _ => False

/-- from (G, H, L) to (G', H', L'): G the known part, L what is owned -/
structure Stp (G H : Hp) (L : List Addr) (G' H' : Hp) (L' : List Addr) : Prop where
  g : Ex G G'
  h : ∀ a o, H a = some o → a ∉ L → H' a = some o
  t : ∀ a, H' a = none → H a = none
  gn : ∀ a, H a ≠ none → a ∉ L → G a = none → G' a = none
  ln : ∀ a ∈ L', a ∈ L ∨ H a = none
  gh : Ex G' H'

section
variable {K : PySem.W.Frag} {κ : Cls} {G H G' H' G1 H1 G2 H2 : Hp} {L L' L1 L2 A B C : List Addr} {ρ ρ' : Env} {σ σ' : St}
theorem Stp.refl (e : Ex G H) : Stp G H L G H L := ⟨Evl.Ex.refl G, fun _ _ h _ => h, fun _ h => h, fun _ _ _ h => h, fun _ h => .inl h, e⟩
theorem Stp.trans (s : Stp G H L G1 H1 L1) (u : Stp G1 H1 L1 G2 H2 L2) : Stp G H L G2 H2 L2 where
  g := s.g.trans u.g
  h := fun a o e n => u.h a o (s.h a o e n) fun z => (s.ln a z).elim n fun q => by rw [e] at q; cases q
  t := fun a e => s.t a (u.t a e)
  gn := fun a e n q => by
    have n1 : a ∉ L1 := fun z => (s.ln a z).elim n e
    refine u.gn a ?_ n1 (s.gn a e n q)
    intro z
    exact e (s.t a z)
  ln := fun a z => (u.ln a z).elim (fun q => s.ln a q) fun q => .inr (s.t a q)
  gh := u.gh
/-- only the part B of what is owned is touched -/
theorem Stp.part (u : Stp G H B G' H' C) (hA : ∀ a ∈ A, H a ≠ none) : Stp G H (A ++ B) G' H' (A ++ C) where
  g := u.g
  h := fun a o e n => u.h a o e fun z => n (List.mem_append_right _ z)
  t := u.t
  gn := fun a e n q => u.gn a e (fun z => n (List.mem_append_right _ z)) q
  ln := fun a z => (List.mem_append.mp z).elim (fun q => .inl (List.mem_append_left _ q)) fun q => (u.ln a q).elim (fun r => .inl (List.mem_append_right _ r)) .inr
  gh := u.gh
theorem Stp.sub (u : Stp G H L G' H' L') (h : ∀ a ∈ L2, a ∈ L') : Stp G H L G' H' L2 := ⟨u.g, u.h, u.t, u.gn, fun a z => u.ln a (h a z), u.gh⟩
/-- what a part that is not touched holds stays -/
theorem KvAll.mono (e : Ex G G') : ∀ {ks : List (Key × V)} {kvs : List (Key × D)}, KvAll K κ G ks kvs → KvAll K κ G' ks kvs
  | [], [], _ => trivial
  | (_, _) :: _, (_, _) :: _, ⟨a, b, c⟩ => ⟨a, b.mono e, KvAll.mono e c⟩
theorem MLs.there : ∀ {xss : List (List D)} {bs : List Addr}, MLs K κ G H xss bs → ∀ b ∈ bs, H b ≠ none ∧ G b = none
  | [], [], _, _, z => by cases z
  | xs :: xss, c :: bs, ⟨⟨g, vs, h, _⟩, m⟩, b, z => by
    rcases List.mem_cons.mp z with rfl | z
    · exact ⟨by rw [h]; exact Option.some_ne_none _, g⟩
    · exact MLs.there m b z
theorem MLs.keep : ∀ {xss : List (List D)} {bs : List Addr}, MLs K κ G H xss bs → Ex G G' → (∀ b ∈ bs, G' b = none) → (∀ b ∈ bs, ∀ o, H b = some o → H' b = some o) → MLs K κ G' H' xss bs
  | [], [], _, _, _, _ => trivial
  | xs :: xss, c :: bs, ⟨⟨g, vs, p, r⟩, m⟩, e, h, k => ⟨⟨h c (by simp), vs, k c (by simp) _ p, r.mono e⟩, MLs.keep m e (fun b z => h b (by simp [z])) fun b z => k b (by simp [z])⟩
theorem MLs.len : ∀ {xss : List (List D)} {bs : List Addr}, MLs K κ G H xss bs → xss.length = bs.length
  | [], [], _ => rfl
  | _ :: _, _ :: _, ⟨_, m⟩ => congrArg (· + 1) (MLs.len m)
theorem MLs.at : ∀ {xss : List (List D)} {bs : List Addr} {n : Nat} {b : Addr}, MLs K κ G H xss bs → bs[n]? = some b → ∃ xs vs, xss[n]? = some xs ∧ G b = none ∧ H b = some (.lst vs) ∧ RpAll K κ G vs xs
  | [], [], n, b, _, e => by simp at e
  | xs :: xss, c :: bs, 0, b, ⟨⟨g, vs, h, r⟩, m⟩, e => by
    simp only [List.getElem?_cons_zero, Option.some.injEq] at e
    subst e
    exact ⟨xs, vs, rfl, g, h, r⟩
  | xs :: xss, c :: bs, n + 1, b, ⟨_, m⟩, e => by
    obtain ⟨ys, vs, q, r⟩ := MLs.at m (by simpa using e)
    exact ⟨ys, vs, by simpa using q, r⟩
/-- one of them changed -/
theorem MLs.put : ∀ {xss : List (List D)} {bs : List Addr} {n : Nat} {b : Addr} {vs : List V} {ys : List D}, MLs K κ G H xss bs → bs.Nodup → bs[n]? = some b → RpAll K κ G vs ys → MLs K κ G (upd H b (.lst vs)) (xss.set n ys) bs
  | [], [], n, b, _, _, _, _, e, _ => by simp at e
  | xs :: xss, c :: bs, 0, b, ws, ys, ⟨⟨g, vs, h, r⟩, m⟩, nd, e, ra => by
    simp only [List.getElem?_cons_zero, Option.some.injEq] at e
    subst e
    have n1 := List.nodup_cons.mp nd
    exact ⟨⟨g, ws, upd_same, ra⟩, m.keep (Evl.Ex.refl G) (fun d z => (m.there d z).2) fun d z o q => by rw [upd_ne (fun w => n1.1 (by rw [← w]; exact z))]; exact q⟩
  | xs :: xss, c :: bs, n + 1, b, ws, ys, ⟨⟨g, vs, h, r⟩, m⟩, nd, e, ra => by
    have n1 := List.nodup_cons.mp nd
    have e : bs[n]? = some b := by simpa using e
    have hb : b ∈ bs := List.mem_of_getElem? e
    exact ⟨⟨g, vs, by rw [upd_ne (fun w => n1.1 (by rw [w]; exact hb))]; exact h, r⟩, MLs.put m n1.2 e ra⟩
theorem MLs.snoc : ∀ {xss : List (List D)} {bs : List Addr} {b : Addr} {vs : List V} {ys : List D}, MLs K κ G H xss bs → G b = none → H b = some (.lst vs) → RpAll K κ G vs ys → MLs K κ G H (xss ++ [ys]) (bs ++ [b])
  | [], [], b, vs, ys, _, g, h, r => ⟨⟨g, vs, h, r⟩, trivial⟩
  | _ :: _, _ :: _, _, _, _, ⟨x, m⟩, g, h, r => ⟨x, MLs.snoc m g h r⟩
theorem Rw.there {w : W} {v : V} (r : Rw K κ G H w v L) : ∀ a ∈ L, H a ≠ none ∧ G a = none := by
  cases w with
  | d x => obtain ⟨rfl, _⟩ := r; intro a z; cases z
  | ml xs =>
    obtain ⟨a, vs, _, rfl, g, h, _⟩ := r
    intro b z
    simp only [List.mem_singleton] at z
    subst z
    exact ⟨by rw [h]; exact Option.some_ne_none _, g⟩
  | md xs =>
    obtain ⟨a, vs, _, rfl, g, h, _⟩ := r
    intro b z
    simp only [List.mem_singleton] at z
    subst z
    exact ⟨by rw [h]; exact Option.some_ne_none _, g⟩
  | mm xss =>
    obtain ⟨a, bs, _, rfl, g, h, m⟩ := r
    intro b z
    rcases List.mem_cons.mp z with rfl | z
    · exact ⟨by rw [h]; exact Option.some_ne_none _, g⟩
    · exact m.there b z
theorem Rw.keep {w : W} {v : V} (r : Rw K κ G H w v A) (g : Ex G G') (h : ∀ a ∈ A, G' a = none) (k : ∀ a ∈ A, ∀ o, H a = some o → H' a = some o) : Rw K κ G' H' w v A := by
  cases w with
  | d x => exact ⟨r.1, r.2.mono g⟩
  | ml xs =>
    obtain ⟨a, vs, e, rfl, q, p, z⟩ := r
    exact ⟨a, vs, e, rfl, h a (by simp), k a (by simp) _ p, z.mono g⟩
  | md xs =>
    obtain ⟨a, vs, e, rfl, q, p, z⟩ := r
    exact ⟨a, vs, e, rfl, h a (by simp), k a (by simp) _ p, KvAll.mono g z⟩
  | mm xss =>
    obtain ⟨a, bs, e, rfl, q, p, m⟩ := r
    exact ⟨a, bs, e, rfl, h a (by simp), k a (by simp) _ p, m.keep g (fun b z => h b (List.mem_cons_of_mem _ z)) fun b z => k b (List.mem_cons_of_mem _ z)⟩
theorem Rw.stp {w : W} {v : V} (r : Rw K κ G H w v A) (u : Stp G H B G' H' C) (n : ∀ a ∈ A, a ∉ B) : Rw K κ G' H' w v A :=
  r.keep u.g (fun a z => u.gn a (r.there a z).1 (n a z) (r.there a z).2) fun a z o e => u.h a o e (n a z)
theorem EnvR.there : ∀ {ρ : Env} {σ : St} {L : List Addr}, EnvR K κ G H ρ σ L → ∀ a ∈ L, H a ≠ none ∧ G a = none
  | [], [], L, r => by
    have e : L = [] := r
    subst e
    intro a z; cases z
  | none :: ρ, _ :: σ, L, r => EnvR.there (ρ := ρ) (σ := σ) r
  | some w :: ρ, some v :: σ, L, ⟨L1, L2, e, h, q⟩ => by
    subst e
    intro a z
    exact (List.mem_append.mp z).elim (h.there a) (EnvR.there q a)
theorem EnvR.keep : ∀ {ρ : Env} {σ : St} {A : List Addr}, EnvR K κ G H ρ σ A → Ex G G' → (∀ a ∈ A, G' a = none) → (∀ a ∈ A, ∀ o, H a = some o → H' a = some o) → EnvR K κ G' H' ρ σ A
  | [], [], L, r, _, _, _ => r
  | none :: ρ, _ :: σ, L, r, g, h, k => EnvR.keep (ρ := ρ) (σ := σ) r g h k
  | some w :: ρ, some v :: σ, L, ⟨L1, L2, e, r, q⟩, g, h, k => by
    subst e
    exact ⟨L1, L2, rfl, r.keep g (fun a z => h a (List.mem_append_left _ z)) fun a z => k a (List.mem_append_left _ z), q.keep g (fun a z => h a (List.mem_append_right _ z)) fun a z => k a (List.mem_append_right _ z)⟩
theorem EnvR.stp (r : EnvR K κ G H ρ σ A) (u : Stp G H B G' H' C) (n : ∀ a ∈ A, a ∉ B) : EnvR K κ G' H' ρ σ A :=
  r.keep u.g (fun a z => u.gn a (r.there a z).1 (n a z) (r.there a z).2) fun a z o e => u.h a o e (n a z)
theorem EnvR.length : ∀ {ρ : Env} {σ : St} {L : List Addr}, EnvR K κ G H ρ σ L → ρ.length = σ.length
  | [], [], _, _ => rfl
  | none :: ρ, _ :: σ, _, r => congrArg (· + 1) (EnvR.length (ρ := ρ) (σ := σ) r)
  | some w :: ρ, some v :: σ, _, ⟨_, _, _, _, q⟩ => congrArg (· + 1) (EnvR.length q)
/-- a slot: what it holds, and anything else put there (same address or not) -/
theorem EnvR.at : ∀ {ρ : Env} {σ : St} {L : List Addr} {i : Nat} {w : W}, EnvR K κ G H ρ σ L → ρ[i]? = some (some w) →
    ∃ v A B C, σ[i]? = some (some v) ∧ L = A ++ B ++ C ∧ Rw K κ G H w v B ∧
      ∀ G' H' w' v' B', Ex G G' → (∀ a ∈ A ++ C, G' a = none) → (∀ a ∈ A ++ C, ∀ o, H a = some o → H' a = some o) → Rw K κ G' H' w' v' B' → EnvR K κ G' H' (ρ.set i (some w')) (σ.set i (some v')) (A ++ B' ++ C)
  | none :: ρ, v :: σ, L, i + 1, w, r, e => by
    obtain ⟨u, A, B, C, h1, h2, h3, h4⟩ := EnvR.at (ρ := ρ) (σ := σ) (i := i) r (by simpa using e)
    exact ⟨u, A, B, C, by simpa using h1, h2, h3, fun G' H' w' v' B' g a k q => h4 G' H' w' v' B' g a k q⟩
  | some x :: ρ, some v :: σ, L, 0, w, ⟨L1, L2, e', r, q⟩, e => by
    have e1 : x = w := by simpa using e
    subst e1
    subst e'
    refine ⟨v, [], L1, L2, rfl, rfl, r, fun G' H' w' v' B' g a k r' => ?_⟩
    exact ⟨B', L2, rfl, r', q.keep g (fun b z => a b (by simpa using z)) fun b z => k b (by simpa using z)⟩
  | some x :: ρ, some v :: σ, L, i + 1, w, ⟨L1, L2, e', r, q⟩, e => by
    subst e'
    obtain ⟨u, A, B, C, h1, h2, h3, h4⟩ := EnvR.at q (i := i) (by simpa using e)
    subst h2
    refine ⟨u, L1 ++ A, B, C, by simpa using h1, by simp only [List.append_assoc], h3, fun G' H' w' v' B' g a k r' => ?_⟩
    refine ⟨L1, A ++ B' ++ C, by simp only [List.append_assoc], r.keep g (fun b z => a b (by simp [z])) (fun b z => k b (by simp [z])), h4 G' H' w' v' B' g (fun b z => a b ?_) (fun b z => k b ?_) r'⟩
    · rcases List.mem_append.mp z with z | z <;> simp [z]
    · rcases List.mem_append.mp z with z | z <;> simp [z]
/-- any slot stored anew, what it held forgotten -/
theorem EnvR.put : ∀ {ρ : Env} {σ : St} {L : List Addr} (i : Nat) {w : W} {v : V} {B : List Addr}, EnvR K κ G H ρ σ L → Rw K κ G H w v B → (B ++ L).Nodup → i < ρ.length →
    ∃ L', EnvR K κ G H (ρ.set i (some w)) (σ.set i (some v)) L' ∧ L'.Nodup ∧ ∀ a ∈ L', a ∈ B ++ L
  | none :: ρ, u :: σ, L, 0, w, v, B, r, q, nd, _ => ⟨B ++ L, ⟨B, L, rfl, q, r⟩, nd, fun _ z => z⟩
  | some x :: ρ, some u :: σ, L, 0, w, v, B, ⟨L1, L2, e, _, r⟩, q, nd, _ => by
    subst e
    refine ⟨B ++ L2, ⟨B, L2, rfl, q, r⟩, nd.sublist (List.Sublist.append_left (List.sublist_append_right _ _) _), fun a z => ?_⟩
    rcases List.mem_append.mp z with z | z <;> simp [z]
  | none :: ρ, u :: σ, L, i + 1, w, v, B, r, q, nd, hi => by
    obtain ⟨L', h1, h2, h3⟩ := EnvR.put (ρ := ρ) (σ := σ) i r q nd (by simpa using hi)
    exact ⟨L', h1, h2, h3⟩
  | some x :: ρ, some u :: σ, L, i + 1, w, v, B, ⟨L1, L2, e, rx, r⟩, q, nd, hi => by
    subst e
    have nd2 : (B ++ L2).Nodup := nd.sublist (List.Sublist.append_left (List.sublist_append_right _ _) _)
    obtain ⟨L', h1, h2, h3⟩ := EnvR.put (ρ := ρ) (σ := σ) i r q nd2 (by simpa using hi)
    have nda := List.nodup_append.mp nd
    have ndb := List.nodup_append.mp nda.2.1
    refine ⟨L1 ++ L', ⟨L1, L', rfl, rx, h1⟩, List.nodup_append.mpr ⟨ndb.1, h2, fun a ha b hb e => ?_⟩, fun a z => ?_⟩
    · subst e
      rcases List.mem_append.mp (h3 a hb) with z | z
      · exact nda.2.2 a z a (List.mem_append_left _ ha) rfl
      · exact ndb.2.2 a ha a z rfl
    · rcases List.mem_append.mp z with z | z
      · simp [z]
      · rcases List.mem_append.mp (h3 a z) with z | z <;> simp [z]
theorem EnvR.forget : ∀ {ρ : Env} {σ : St} {L : List Addr} (i : Nat) (u : Option V), EnvR K κ G H ρ σ L → L.Nodup → ∃ L', EnvR K κ G H (ρ.set i none) (σ.set i u) L' ∧ L'.Nodup ∧ ∀ a ∈ L', a ∈ L
  | [], [], L, i, u, r, nd => ⟨L, by simpa using r, nd, fun _ z => z⟩
  | none :: ρ, x :: σ, L, 0, u, r, nd => ⟨L, r, nd, fun _ z => z⟩
  | some x :: ρ, some y :: σ, L, 0, u, ⟨L1, L2, e, _, r⟩, nd => by
    subst e
    exact ⟨L2, r, (List.nodup_append.mp nd).2.1, fun a z => List.mem_append_right _ z⟩
  | none :: ρ, x :: σ, L, i + 1, u, r, nd => by
    obtain ⟨L', h1, h2, h3⟩ := EnvR.forget (ρ := ρ) (σ := σ) i u r nd
    exact ⟨L', h1, h2, h3⟩
  | some x :: ρ, some y :: σ, L, i + 1, u, ⟨L1, L2, e, rx, r⟩, nd => by
    subst e
    have nda := List.nodup_append.mp nd
    obtain ⟨L', h1, h2, h3⟩ := EnvR.forget (ρ := ρ) (σ := σ) i u r nda.2.1
    refine ⟨L1 ++ L', ⟨L1, L', rfl, rx, h1⟩, List.nodup_append.mpr ⟨nda.1, h2, fun a ha b hb e => ?_⟩, fun a z => ?_⟩
    · subst e
      exact nda.2.2 a ha a (h3 a hb) rfl
    · rcases List.mem_append.mp z with z | z
      · simp [z]
      · simp [h3 a z]
end
end Pv

set_option maxRecDepth 100000
set_option maxHeartbeats 2000000
namespace Pv
open PySem PySem.Spec PyProof.Rows L2
/-! ### tuples that are made, told by their object -/
theorem laid_tup {X : Cx} {pins : List (Addr × Obj)} {σ : St} {H : Hp} {s : Shared} (I : Inv X pins σ H s) {us : List Value} {vs : List V} (r : Vals vs us) (z : vs.length ≤ sizeLine) :
    Inv X pins σ (upd H s.heap.objs.size (.frz { cls := .type "tuple", data := .seq us.toArray } (.tup vs))) { s with heap := s.heap.push { cls := .type "tuple", data := .seq us.toArray } } :=
  I.laid (t' := s.toks) (fun b u e => Heap.get?_push_of_some _ e) (Nat.le_refl _) ⟨Heap.get?_push_size _ rfl, z, us, r, IsTup.new _ _⟩
theorem free_tup {X : Cx} {pins : List (Addr × Obj)} {σ : St} {H : Hp} {s : Shared} (I : Inv X pins σ H s) : H s.heap.objs.size = none := I.hok.fresh (Nat.le_refl _)
/-- what follows behind a new tuple -/
def NewT (vs : List V) (H : Hp) (Q : VK) : Prop := ∀ (p : Addr) (o : Obj), H p = none → o.dict = none → Q (.ref p) (upd H p (.frz o (.tup vs)))
def tTupP (t : TA) : TE := fun σ H Q => t σ H fun xs H1 => xs.length ≤ sizeLine ∧ NewT xs H1 Q
theorem pe_tupP {X : Cx} {es : List Expr} {t : TA} {pos : Pos} {x1} (h : PA X es t) : PE X (.Tuple es x1 pos) (tTupP t) := ⟨fun pins s σ H Q I hq =>
  wpAny_Tuple_spliced (thn (h.run pos pins s σ H _ I hq) fun us s1 ⟨vs, H1, I1, r, z, q⟩ => ⟨by rw [← r.length]; exact z, .ref s1.heap.objs.size, _, laid_tup I1 r z, rfl, q _ _ (free_tup I1) rfl⟩)⟩
def rTupOfP (K : PySem.W.Frag) : List V → Hp → VK → Prop := fun xs H Q => ∃ p ys, xs = [.ref p] ∧ ((SqL K H p ys ∧ NewT ys H Q) ∨ (SqT K H p ys ∧ Q (.ref p) H))
theorem call_tupP {X : Cx} : CallR X (.type "tuple") (rTupOfP X.K) := by
  intro pins s σ H xs us Q I r h
  obtain ⟨p, ys, rfl, ⟨hq, q⟩ | ⟨hq, q⟩⟩ := h
  · cases r with
    | cons r1 r =>
      cases r
      cases r1
      obtain ⟨its, vals, plain, z⟩ := I.list hq
      refine call_tuple_list plain.isList (fun h' kept => ?_) (by rw [List.size_toArray, ← vals.length]; exact z)
      have J : Inv X pins σ H { s with heap := h' } := I.kept (t' := s.toks) kept
      exact ⟨.ref h'.objs.size, _, laid_tup J vals z, rfl, q _ _ (free_tup J) rfl⟩
  · cases r with
    | cons r1 r =>
      cases r
      cases r1
      obtain ⟨its, _, plain, _⟩ := I.tuple hq
      exact call_tuple_same plain ⟨.ref p, H, I, rfl, q⟩
def rCatP (K : PySem.W.Frag) : R2 := fun x y H Q => ∃ a b xs ys, x = .ref a ∧ y = .ref b ∧ SqT K H a xs ∧ SqT K H b ys ∧ xs.length + ys.length ≤ sizeLine ∧
  (xs = [] → Q (.ref b) H) ∧ (xs ≠ [] → ys = [] → Q (.ref a) H) ∧ (xs ≠ [] → ys ≠ [] → NewT (xs ++ ys) H Q)
theorem op_catP {X : Cx} : OpR X (binaryOp .Add) (rCatP X.K) := by
  intro pins s σ H x y v u Q I rx ry h
  obtain ⟨a, b, xs, ys, rfl, rfl, ha, hb, hz, q0, q1, q2⟩ := h
  by_cases hx : xs = []
  · exact L2.op_catA pins s σ H _ _ v u Q I rx ry ⟨a, b, xs, ys, rfl, rfl, ha, hb, hz, q0, fun z => absurd hx z, fun z => absurd hx z⟩
  · by_cases hy : ys = []
    · exact L2.op_catA pins s σ H _ _ v u Q I rx ry ⟨a, b, xs, ys, rfl, rfl, ha, hb, hz, q0, q1, fun _ z => absurd hy z⟩
    · cases rx
      cases ry
      obtain ⟨its, r1, p1, _⟩ := I.tuple ha
      obtain ⟨its2, r2, p2, _⟩ := I.tuple hb
      refine HT.cat_tup p1 p2 (fun z => hx (r1.nil_iff.mp z)) (fun z => absurd (r2.nil_iff.mp z) hy) (fun z => ?_) (by rw [← r1.length, ← r2.length]; exact hz)
      exact ⟨.ref s.heap.objs.size, _, laid_tup I (r1.append r2) (by rw [List.length_append]; exact hz), rfl, q2 hx hy _ _ (free_tup I) rfl⟩
def rSlP (K : PySem.W.Frag) : V → Option Int → Option Int → Hp → VK → Prop := fun x lo hi H Q => ∃ a xs, x = .ref a ∧ SqT K H a xs ∧
  (HT.sIx xs.length 0 lo = 0 ∧ HT.sIx xs.length xs.length hi = xs.length → Q (.ref a) H) ∧ (¬ (HT.sIx xs.length 0 lo = 0 ∧ HT.sIx xs.length xs.length hi = xs.length) → NewT (cutV xs lo hi) H Q)
theorem sl_tupP {X : Cx} : SlR X (rSlP X.K) := by
  intro pins s σ H x v vl vu lo hi sl Q I rx hs pl pu h
  obtain ⟨a, xs, rfl, hx, q1, q2⟩ := h
  by_cases hw : HT.sIx xs.length 0 lo = 0 ∧ HT.sIx xs.length xs.length hi = xs.length
  · exact L2.sl_tupA pins s σ H _ v vl vu lo hi sl Q I rx hs pl pu ⟨a, xs, rfl, hx, q1, fun z => absurd hw z⟩
  · cases rx
    obtain ⟨its, r, ht, hz⟩ := I.tuple hx
    have size : its.toArray.size = xs.length := by rw [List.size_toArray]; exact r.length.symm
    refine ⟨"tuple", _, PyProof.Rows.slot_tuple_getitem.lookup, ht.typeIs, ?_⟩
    refine HT.getItem_tuple_cut ht hs pl pu (by rw [size]; exact hw) ?_ (by rw [size]; exact hz)
    rw [size]
    exact ⟨.ref s.heap.objs.size, _, laid_tup I ((r.drop (HT.sIx xs.length 0 lo)).take (HT.sIx xs.length xs.length hi - HT.sIx xs.length 0 lo)) (Nat.le_trans (cutV_length xs lo hi) hz), rfl, q2 hw _ _ (free_tup I) rfl⟩
end Pv

set_option maxRecDepth 100000
set_option maxHeartbeats 2000000
namespace Pv
open PySem PySem.Spec PyProof.Rows L2
abbrev Fn := List W → R (List W) W
inductive Flow where
  | nx | rt (w : W) | bk | ct
/-- an argument: data, or the thing that slot i owns -/
inductive Arg where
  | a (x : D) | m (i : Nat)
section
variable {β γ : Type}
def R.bindD (r : R Env W) (k : D → Env → R Env β) : R Env β := match r with
  | .ok (.d x) ρ => k x ρ
  | .ok _ _ => .bad
  | .exc c f ρ => .exc c f ρ
  | .bad => .bad
def R.bind (r : R Env γ) (k : γ → Env → R Env β) : R Env β := match r with
  | .ok x ρ => k x ρ
  | .exc c f ρ => .exc c f ρ
  | .bad => .bad
@[simp] theorem R.bindD_ok (x : D) (ρ : Env) (k : D → Env → R Env β) : R.bindD (.ok (.d x) ρ) k = k x ρ := rfl
@[simp] theorem R.bindD_exc (c : Nat) (f : Option D) (ρ : Env) (k : D → Env → R Env β) : R.bindD (.exc c f ρ) k = .exc c f ρ := rfl
@[simp] theorem R.bind_ok (x : γ) (ρ : Env) (k : γ → Env → R Env β) : R.bind (.ok x ρ) k = k x ρ := rfl
@[simp] theorem R.bind_exc (c : Nat) (f : Option D) (ρ : Env) (k : γ → Env → R Env β) : R.bind (.exc c f ρ : R Env γ) k = .exc c f ρ := rfl
@[simp] theorem R.bind_bad (k : γ → Env → R Env β) : R.bind (.bad : R Env γ) k = .bad := rfl
end
def R.of (o : Option D) (ρ : Env) : R Env W := match o with
  | some x => .ok (.d x) ρ
  | none => .bad

section
variable (K : PySem.W.Frag) (κ : Cls)
def ExF (G : Hp) (k : Nat) : Option D → Option Addr → Prop
  | none, dd => dd = none
  | some x, dd => ∃ p v, dd = some p ∧ G p = some (.xd [(κ.fld k, v)]) ∧ Rp K κ G v x
/-- what is wanted behind a piece that starts at (G, H, L): by the way it ends -/
def Post {β ν : Type} (Rel : Hp → Hp → β → ν → List Addr → Prop) (Wx : WX) (σ : St) (G H : Hp) (L : List Addr) (r : R Env β) (Q : ν → Hp → Prop) : Prop := match r with
  | .ok b ρ' => ∀ v G' H' Lw L', Stp G H L G' H' (Lw ++ L') → EnvR K κ G' H' ρ' σ L' → Rel G' H' b v Lw → (Lw ++ L').Nodup → Q v H'
  | .exc k f ρ' => ∀ dd G' H' L', Stp G H L G' H' L' → EnvR K κ G' H' ρ' σ L' → L'.Nodup → ExF K κ G' k f dd → Wx (.ref (κ.at_ k)) dd σ H'
  | .bad => False
def Snd {β ν : Type} (Rel : Hp → Hp → β → ν → List Addr → Prop) (te : WX → St → Hp → (ν → Hp → Prop) → Prop) (ev : Env → R Env β) : Prop :=
  ∀ (Wx : WX) (G H : Hp) (ρ : Env) (σ : St) (L : List Addr) (Q : ν → Hp → Prop), Ex G H → EnvR K κ G H ρ σ L → L.Nodup → Post K κ Rel Wx σ G H L (ev ρ) Q → te Wx σ H Q
abbrev SndE (te : WX → TE) (ev : Env → R Env W) : Prop := Snd K κ (Rw K κ) te ev
abbrev RelT : Hp → Hp → Bool → Bool → List Addr → Prop := fun _ _ b c L => L = [] ∧ b = c
abbrev SndT (tt : WX → TT) (ev : Env → R Env Bool) : Prop := Snd K κ RelT tt ev
/-- Keep: the slots that a statement doesn't store -/
def Keep (asg : List Nat) (σ σ' : St) : Prop := σ'.length = σ.length ∧ ∀ i, i ∉ asg → σ'[i]? = σ[i]?
def PostS (Wx : WX) (σ : St) (asg : List Nat) (G H : Hp) (L : List Addr) (r : R Env Flow) (E : Ends) : Prop := match r with
  | .ok .nx ρ' => ∀ σ' G' H' L', Stp G H L G' H' L' → EnvR K κ G' H' ρ' σ' L' → L'.Nodup → Keep asg σ σ' → E.nx σ' H'
  | .ok .bk ρ' => ∀ σ' G' H' L', Stp G H L G' H' L' → EnvR K κ G' H' ρ' σ' L' → L'.Nodup → Keep asg σ σ' → E.bk σ' H'
  | .ok .ct ρ' => ∀ σ' G' H' L', Stp G H L G' H' L' → EnvR K κ G' H' ρ' σ' L' → L'.Nodup → Keep asg σ σ' → E.ct σ' H'
  | .ok (.rt w) ρ' => ∀ v σ' G' H' Lw L', Stp G H L G' H' (Lw ++ L') → EnvR K κ G' H' ρ' σ' L' → Rw K κ G' H' w v Lw → (Lw ++ L').Nodup → Keep asg σ σ' → E.rt v H'
  | .exc k f ρ' => ∀ dd σ' G' H' L', Stp G H L G' H' L' → EnvR K κ G' H' ρ' σ' L' → L'.Nodup → Keep asg σ σ' → ExF K κ G' k f dd → Wx (.ref (κ.at_ k)) dd σ' H'
  | .bad => False
def SndS (ts : WX → TS) (sv : Env → R Env Flow) (asg : List Nat) : Prop :=
  ∀ (Wx : WX) (G H : Hp) (ρ : Env) (σ : St) (L : List Addr) (E : Ends), Ex G H → EnvR K κ G H ρ σ L → L.Nodup → PostS K κ Wx σ asg G H L (sv ρ) E → ts Wx E σ H

structure SE where
  te : WX → TE
  ev : Env → R Env W
  ok : SndE K κ te ev
structure ST where
  tt : WX → TT
  ev : Env → R Env Bool
  ok : SndT K κ tt ev
structure SS where
  ts : WX → TS
  sv : Env → R Env Flow
  asg : List Nat
  ok : SndS K κ ts sv asg
/-- arguments: V's that stand for the Args, slot i's value for m i -/
def ArgsR (σ : St) (G : Hp) : List Arg → List V → Prop
  | [], [] => True
  | .a x :: as, v :: vs => Rp K κ G v x ∧ ArgsR σ G as vs
  | .m j :: as, v :: vs => σ[j]? = some (some v) ∧ ArgsR σ G as vs
  | _, _ => False
def RelA (σ : St) : Hp → Hp → List Arg → List V → List Addr → Prop := fun G _ as vs L => L = [] ∧ ArgsR K κ σ G as vs
def SndA (ta : WX → TA) (ev : Env → R Env (List Arg)) : Prop :=
  ∀ (Wx : WX) (G H : Hp) (ρ : Env) (σ : St) (L : List Addr) (Q : List V → Hp → Prop), Ex G H → EnvR K κ G H ρ σ L → L.Nodup → Post K κ (RelA K κ σ) Wx σ G H L (ev ρ) Q → ta Wx σ H Q
structure SA where
  ta : WX → TA
  ev : Env → R Env (List Arg)
  ok : SndA K κ ta ev
end

section
variable {K : PySem.W.Frag} {κ : Cls} {G H G' H' G1 H1 G2 H2 : Hp} {L L' L1 L2 A B C : List Addr} {ρ ρ' ρ1 : Env} {σ σ' : St} {β γ ν : Type} {Rel : Hp → Hp → β → ν → List Addr → Prop} {Wx : WX} {Q : ν → Hp → Prop}
theorem Post.trans {r : R Env β} (p : Post K κ Rel Wx σ G H L r Q) (u : Stp G H L G1 H1 L1) : Post K κ Rel Wx σ G1 H1 L1 r Q := by
  cases r with
  | ok b ρ' => exact fun v G' H' Lw L' s e q n => p v G' H' Lw L' (u.trans s) e q n
  | exc k f ρ' => exact fun dd G' H' L' s e n x => p dd G' H' L' (u.trans s) e n x
  | bad => exact p
theorem PostS.trans {r : R Env Flow} {asg : List Nat} {E : Ends} (p : PostS K κ Wx σ asg G H L r E) (u : Stp G H L G1 H1 L1) : PostS K κ Wx σ asg G1 H1 L1 r E := by
  cases r with
  | ok b ρ' =>
    cases b with
    | nx => exact fun σ' G' H' L' s e n k => p σ' G' H' L' (u.trans s) e n k
    | bk => exact fun σ' G' H' L' s e n k => p σ' G' H' L' (u.trans s) e n k
    | ct => exact fun σ' G' H' L' s e n k => p σ' G' H' L' (u.trans s) e n k
    | rt w => exact fun v σ' G' H' Lw L' s e q n k => p v σ' G' H' Lw L' (u.trans s) e q n k
  | exc k f ρ' => exact fun dd σ' G' H' L' s e n kp x => p dd σ' G' H' L' (u.trans s) e n kp x
  | bad => exact p
/-- an expression for data, then the rest -/
theorem SndE.then {te : WX → TE} {ev : Env → R Env W} (s : SndE K κ te ev) {k : D → Env → R Env β} {q : VK} (hG : Ex G H) (hE : EnvR K κ G H ρ σ L) (hN : L.Nodup) (p : Post K κ Rel Wx σ G H L (R.bindD (ev ρ) k) Q)
    (go : ∀ x v ρ1 G1 H1 L1, Stp G H L G1 H1 L1 → EnvR K κ G1 H1 ρ1 σ L1 → L1.Nodup → Rp K κ G1 v x → Post K κ Rel Wx σ G1 H1 L1 (k x ρ1) Q → q v H1) : te Wx σ H q := by
  refine s Wx G H ρ σ L q hG hE hN ?_
  cases h : ev ρ with
  | ok w ρ1 =>
    rw [h] at p
    cases w with
    | d x =>
      intro v G1 H1 Lw L1 st e r nd
      obtain ⟨rfl, r⟩ := r
      exact go x v ρ1 G1 H1 L1 st e nd r (p.trans st)
    | ml _ => exact p.elim
    | md _ => exact p.elim
    | mm _ => exact p.elim
  | exc c f ρ1 => rw [h] at p; exact p
  | bad => rw [h] at p; exact p.elim
theorem SndE.thenS {te : WX → TE} {ev : Env → R Env W} (s : SndE K κ te ev) {k : D → Env → R Env Flow} {q : VK} {asg : List Nat} {E : Ends} (hG : Ex G H) (hE : EnvR K κ G H ρ σ L) (hN : L.Nodup) (p : PostS K κ Wx σ asg G H L (R.bindD (ev ρ) k) E)
    (go : ∀ x v ρ1 G1 H1 L1, Stp G H L G1 H1 L1 → EnvR K κ G1 H1 ρ1 σ L1 → L1.Nodup → Rp K κ G1 v x → PostS K κ Wx σ asg G1 H1 L1 (k x ρ1) E → q v H1) : te Wx σ H q := by
  refine s Wx G H ρ σ L q hG hE hN ?_
  cases h : ev ρ with
  | ok w ρ1 =>
    rw [h] at p
    cases w with
    | d x =>
      intro v G1 H1 Lw L1 st e r nd
      obtain ⟨rfl, r⟩ := r
      exact go x v ρ1 G1 H1 L1 st e nd r (p.trans st)
    | ml _ => exact p.elim
    | md _ => exact p.elim
    | mm _ => exact p.elim
  | exc c f ρ1 =>
    rw [h] at p
    exact fun dd G' H' L' st e n x => p dd σ G' H' L' st e n ⟨rfl, fun _ _ => rfl⟩ x
  | bad => rw [h] at p; exact p.elim
/-- any expression, then the rest of a statement -/
theorem SndE.thenW {te : WX → TE} {ev : Env → R Env W} (s : SndE K κ te ev) {k : W → Env → R Env Flow} {q : VK} {asg : List Nat} {E : Ends} (hG : Ex G H) (hE : EnvR K κ G H ρ σ L) (hN : L.Nodup) (p : PostS K κ Wx σ asg G H L (R.bind (ev ρ) k) E)
    (go : ∀ w v ρ1 G1 H1 Lw L1, Stp G H L G1 H1 (Lw ++ L1) → EnvR K κ G1 H1 ρ1 σ L1 → (Lw ++ L1).Nodup → Rw K κ G1 H1 w v Lw → PostS K κ Wx σ asg G H L (k w ρ1) E → q v H1) : te Wx σ H q := by
  refine s Wx G H ρ σ L q hG hE hN ?_
  cases h : ev ρ with
  | ok w ρ1 =>
    rw [h] at p
    intro v G1 H1 Lw L1 st e r nd
    exact go w v ρ1 G1 H1 Lw L1 st e nd r p
  | exc c f ρ1 =>
    rw [h] at p
    exact fun dd G' H' L' st e n x => p dd σ G' H' L' st e n ⟨rfl, fun _ _ => rfl⟩ x
  | bad => rw [h] at p; exact p.elim
theorem SndT.then {tt : WX → TT} {ev : Env → R Env Bool} (s : SndT K κ tt ev) {k : Bool → Env → R Env β} {q : Bool → Hp → Prop} (hG : Ex G H) (hE : EnvR K κ G H ρ σ L) (hN : L.Nodup) (p : Post K κ Rel Wx σ G H L (R.bind (ev ρ) k) Q)
    (go : ∀ b ρ1 G1 H1 L1, Stp G H L G1 H1 L1 → EnvR K κ G1 H1 ρ1 σ L1 → L1.Nodup → Post K κ Rel Wx σ G1 H1 L1 (k b ρ1) Q → q b H1) : tt Wx σ H q := by
  refine s Wx G H ρ σ L q hG hE hN ?_
  cases h : ev ρ with
  | ok b ρ1 =>
    rw [h] at p
    intro v G1 H1 Lw L1 st e r nd
    obtain ⟨rfl, rfl⟩ := r
    exact go b ρ1 G1 H1 L1 st e nd (p.trans st)
  | exc c f ρ1 => rw [h] at p; exact p
  | bad => rw [h] at p; exact p.elim
theorem SndT.thenS {tt : WX → TT} {ev : Env → R Env Bool} (s : SndT K κ tt ev) {k : Bool → Env → R Env Flow} {q : Bool → Hp → Prop} {asg : List Nat} {E : Ends} (hG : Ex G H) (hE : EnvR K κ G H ρ σ L) (hN : L.Nodup) (p : PostS K κ Wx σ asg G H L (R.bind (ev ρ) k) E)
    (go : ∀ b ρ1 G1 H1 L1, Stp G H L G1 H1 L1 → EnvR K κ G1 H1 ρ1 σ L1 → L1.Nodup → PostS K κ Wx σ asg G1 H1 L1 (k b ρ1) E → q b H1) : tt Wx σ H q := by
  refine s Wx G H ρ σ L q hG hE hN ?_
  cases h : ev ρ with
  | ok b ρ1 =>
    rw [h] at p
    intro v G1 H1 Lw L1 st e r nd
    obtain ⟨rfl, rfl⟩ := r
    exact go b ρ1 G1 H1 L1 st e nd (p.trans st)
  | exc c f ρ1 =>
    rw [h] at p
    exact fun dd G' H' L' st e n x => p dd σ G' H' L' st e n ⟨rfl, fun _ _ => rfl⟩ x
  | bad => rw [h] at p; exact p.elim
/-- data as an answer -/
theorem Post.ret {x : D} {v : V} {q : VK} (p : Post K κ (Rw K κ) Wx σ G H L (.ok (.d x) ρ) q) (u : Stp G H L G' H' L') (e : EnvR K κ G' H' ρ σ L') (n : L'.Nodup) (r : Rp K κ G' v x) : q v H' := p v G' H' [] L' u e ⟨rfl, r⟩ n
theorem Post.of {o : Option D} {v : V} {x : D} {q : VK} (p : Post K κ (Rw K κ) Wx σ G H L (R.of o ρ) q) (h : o = some x) (u : Stp G H L G' H' L') (e : EnvR K κ G' H' ρ σ L') (n : L'.Nodup) (r : Rp K κ G' v x) : q v H' := by
  subst h
  exact Post.ret p u e n r
theorem Post.some {o : Option D} {q : VK} (p : Post K κ (Rw K κ) Wx σ G H L (R.of o ρ) q) : ∃ x, o = some x := by
  cases o with
  | none => exact p.elim
  | some x => exact ⟨x, rfl⟩

/-! ### new objects -/
theorem fresh {H : Hp} {p : Addr} (e : Ex G H) (h : H p = none) : G p = none := Evl.fresh_back e h
theorem Stp.new {p : Addr} {o : HO} (e : Ex G H) (h : H p = none) : Stp G H L (upd G p o) (upd H p o) L where
  g := Evl.Ex.new (fresh e h)
  h := fun a u q _ => Evl.Ex.new h a u q
  t := fun a q => by
    by_cases z : a = p
    · rw [z, upd_same] at q; cases q
    · rw [upd_ne z] at q; exact q
  gn := fun a q _ n => by
    have z : a ≠ p := fun z => q (by rw [z]; exact h)
    rw [upd_ne z]; exact n
  ln := fun _ z => .inl z
  gh := fun a u q => by
    by_cases z : a = p
    · rw [z, upd_same] at q ⊢; exact q
    · rw [upd_ne z] at q ⊢; exact e a u q
theorem Stp.own {p : Addr} {o : HO} (e : Ex G H) (h : H p = none) : Stp G H L G (upd H p o) ([p] ++ L) where
  g := Evl.Ex.refl G
  h := fun a u q _ => Evl.Ex.new h a u q
  t := fun a q => by
    by_cases z : a = p
    · rw [z, upd_same] at q; cases q
    · rw [upd_ne z] at q; exact q
  gn := fun _ _ _ n => n
  ln := fun a z => by
    rcases List.mem_append.mp z with z | z
    · simp only [List.mem_singleton] at z
      exact .inr (by rw [z]; exact h)
    · exact .inl z
  gh := fun a u q => Evl.Ex.new h a u (e a u q)
theorem EnvR.new {p : Addr} {o : HO} (e : Ex G H) (h : H p = none) (r : EnvR K κ G H ρ σ L) : EnvR K κ (upd G p o) (upd H p o) ρ σ L :=
  r.keep (Evl.Ex.new (fresh e h)) (fun a z => by
    have q : a ≠ p := fun q => (r.there a z).1 (by rw [q]; exact h)
    rw [upd_ne q]; exact (r.there a z).2) fun a z u q => Evl.Ex.new h a u q
theorem EnvR.ownNew {p : Addr} {o : HO} (h : H p = none) (r : EnvR K κ G H ρ σ L) : EnvR K κ G (upd H p o) ρ σ L :=
  r.keep (Evl.Ex.refl G) (fun a z => (r.there a z).2) fun a z u q => Evl.Ex.new h a u q
theorem own_nodup {p : Addr} (h : H p = none) (r : EnvR K κ G H ρ σ L) (n : L.Nodup) : ([p] ++ L).Nodup := by
  refine List.nodup_append.mpr ⟨by simp, n, fun a ha b hb e => ?_⟩
  simp only [List.mem_singleton] at ha
  subst ha e
  exact (r.there a hb).1 h
/-- an owned object written: i's -/
theorem EnvR.data {i : Nat} {x : D} (r : EnvR K κ G H ρ σ L) (e : ρ[i]? = some (some (.d x))) : ∃ v, σ[i]? = some (some v) ∧ Rp K κ G v x := by
  obtain ⟨v, A, B, C, h1, _, h3, _⟩ := r.at e
  exact ⟨v, h1, h3.2⟩
/-- an owned list of slot i, as it stands; changed; given away -/
theorem EnvR.list {i : Nat} {xs : List D} (hG : Ex G H) (r : EnvR K κ G H ρ σ L) (nd : L.Nodup) (e : ρ[i]? = some (some (.ml xs))) :
    ∃ a vs, σ[i]? = some (some (.ref a)) ∧ G a = none ∧ H a = some (.lst vs) ∧ RpAll K κ G vs xs ∧ a ∈ L ∧
      (∀ us ys, RpAll K κ G us ys → Stp G H L G (upd H a (.lst us)) L ∧ EnvR K κ G (upd H a (.lst us)) (ρ.set i (some (.ml ys))) σ L) ∧
      (∃ L', Stp G H L (upd G a (.lst vs)) H L' ∧ EnvR K κ (upd G a (.lst vs)) H (ρ.set i (some (.d (.lst xs)))) σ L' ∧ L'.Nodup) := by
  obtain ⟨v, A, B, C, h1, h2, h3, h4⟩ := r.at e
  obtain ⟨a, vs, rfl, rfl, g, h, q⟩ := h3
  subst h2
  have hi : σ.set i (some (.ref a)) = σ := by
    obtain ⟨hl, e1⟩ := List.getElem?_eq_some_iff.mp h1
    rw [← e1]; exact List.set_getElem_self hl
  have nd1 := List.nodup_append.mp nd
  have nd2 := List.nodup_append.mp nd1.1
  have ne : ∀ b ∈ A ++ C, b ≠ a := fun b hb z => by
    subst z
    rcases List.mem_append.mp hb with hb | hb
    · exact nd2.2.2 b hb b (by simp) rfl
    · exact nd1.2.2 b (by simp) b hb rfl
  have there := r.there
  refine ⟨a, vs, h1, g, h, q, by simp, fun us ys qu => ⟨⟨Evl.Ex.refl G, fun b o p n => ?_, fun b p => ?_, fun _ _ _ n => n, fun _ z => .inl z, fun b o p => ?_⟩, ?_⟩, A ++ C, ⟨Evl.Ex.new g, fun _ _ p _ => p, fun _ p => p, fun b p n z => ?_, fun b z => ?_, fun b o p => ?_⟩, ?_, ?_⟩
  · have z : b ≠ a := fun z => n (by rw [z]; simp)
    rw [upd_ne z]; exact p
  · by_cases z : b = a
    · rw [z, upd_same] at p; cases p
    · rw [upd_ne z] at p; exact p
  · have z : b ≠ a := fun z => by rw [z, g] at p; cases p
    rw [upd_ne z]; exact hG b o p
  · have := h4 G (upd H a (.lst us)) (.ml ys) (.ref a) [a] (Evl.Ex.refl G) (fun b hb => (there b (by
      rcases List.mem_append.mp hb with hb | hb <;> simp [hb])).2) (fun b hb o p => by rw [upd_ne (ne b hb)]; exact p) ⟨a, us, rfl, rfl, g, upd_same, qu⟩
    rw [hi] at this
    exact this
  · have q : b ≠ a := fun q => n (by rw [q]; simp)
    rw [upd_ne q]; exact z
  · left
    rcases List.mem_append.mp z with z | z <;> simp [z]
  · by_cases z : b = a
    · rw [z, upd_same] at p
      rw [z, h]; exact p
    · rw [upd_ne z] at p; exact hG b o p
  · have := h4 (upd G a (.lst vs)) H (.d (.lst xs)) (.ref a) [] (Evl.Ex.new g) (fun b hb => by
      rw [upd_ne (ne b hb)]
      exact (there b (by rcases List.mem_append.mp hb with hb | hb <;> simp [hb])).2) (fun b hb o p => p) ⟨rfl, .lst (SqL.of upd_same) (q.mono (Evl.Ex.new g))⟩
    rw [hi] at this
    simpa using this
  · refine List.nodup_append.mpr ⟨nd2.1, nd1.2.1, fun x hx y hy => nd1.2.2 x (List.mem_append_left _ hx) y hy⟩
end
end Pv

set_option maxRecDepth 100000
set_option maxHeartbeats 2000000
namespace Pv
open PySem PySem.Spec PyProof.Rows L2
section
variable {K : PySem.W.Frag} {κ : Cls} {G H G' H' G1 H1 G2 H2 : Hp} {L L' L1 L2 A B C : List Addr} {ρ ρ' ρ1 : Env} {σ σ' : St}
theorem Stp.wide (u : Stp G H B G' H' C) (hB : ∀ a ∈ B, a ∈ L) (hC : ∀ a ∈ L', a ∈ C ∨ a ∈ L) : Stp G H L G' H' L' where
  g := u.g
  h := fun a o e n => u.h a o e fun z => n (hB a z)
  t := u.t
  gn := fun a e n q => u.gn a e (fun z => n (hB a z)) q
  ln := fun a z => (hC a z).elim (fun q => (u.ln a q).elim (fun r => .inl (hB a r)) .inr) .inl
  gh := u.gh
theorem Stp.grow (u : Stp G H [] G' H' []) : Stp G H L G' H' L := u.wide (fun _ z => nomatch z) fun _ z => .inr z
theorem EnvR.grow (r : EnvR K κ G H ρ σ L) (u : Stp G H [] G' H' []) : EnvR K κ G' H' ρ σ L := r.stp u fun _ _ z => nomatch z
theorem EnvR.take : ∀ {ρ : Env} {σ : St} {L : List Addr} {i : Nat} {w : W}, EnvR K κ G H ρ σ L → L.Nodup → ρ[i]? = some (some w) →
    ∃ v B L', σ[i]? = some (some v) ∧ Rw K κ G H w v B ∧ EnvR K κ G H (ρ.set i none) σ L' ∧ (B ++ L').Nodup ∧ ∀ a ∈ B ++ L', a ∈ L
  | none :: ρ, v :: σ, L, i + 1, w, r, nd, e => by
    obtain ⟨u, B, L', h1, h2, h3, h4, h5⟩ := EnvR.take (ρ := ρ) (σ := σ) (i := i) r nd (by simpa using e)
    exact ⟨u, B, L', by simpa using h1, h2, h3, h4, h5⟩
  | some x :: ρ, some v :: σ, L, 0, w, ⟨L1, L2, e', r, q⟩, nd, e => by
    have e1 : x = w := by simpa using e
    subst e1
    subst e'
    exact ⟨v, L1, L2, rfl, r, q, nd, fun _ z => z⟩
  | some x :: ρ, some v :: σ, L, i + 1, w, ⟨L1, L2, e', r, q⟩, nd, e => by
    subst e'
    have nda := List.nodup_append.mp nd
    obtain ⟨u, B, L', h1, h2, h3, h4, h5⟩ := EnvR.take q (i := i) nda.2.1 (by simpa using e)
    have ndb := List.nodup_append.mp h4
    refine ⟨u, B, L1 ++ L', by simpa using h1, h2, ⟨L1, L', rfl, r, h3⟩, ?_, fun a z => ?_⟩
    · refine List.nodup_append.mpr ⟨ndb.1, List.nodup_append.mpr ⟨nda.1, ndb.2.1, fun a ha b hb => nda.2.2 a ha b (h5 b (List.mem_append_right _ hb))⟩, fun a ha b hb => ?_⟩
      rcases List.mem_append.mp hb with hb | hb
      · exact Ne.symm (nda.2.2 b hb a (h5 a (List.mem_append_left _ ha)))
      · exact ndb.2.2 a ha b hb
    · rcases List.mem_append.mp z with z | z
      · exact List.mem_append_right _ (h5 a (List.mem_append_left _ z))
      · rcases List.mem_append.mp z with z | z
        · exact List.mem_append_left _ z
        · exact List.mem_append_right _ (h5 a (List.mem_append_right _ z))
theorem set_same {σ : St} {i : Nat} {v : V} (h : σ[i]? = some (some v)) : σ.set i (some v) = σ := by
  obtain ⟨hl, e1⟩ := List.getElem?_eq_some_iff.mp h
  rw [← e1]; exact List.set_getElem_self hl
/-- the things that are handed to a call, out of the slots; and back -/
def pull : List Arg → Env → Option (List W × Env)
  | [], ρ => some ([], ρ)
  | .a x :: as, ρ => match pull as ρ with
    | some (ws, ρ') => some (.d x :: ws, ρ')
    | none => none
  | .m j :: as, ρ => match ρ[j]? with
    | some (some w) => match pull as (ρ.set j none) with
      | some (ws, ρ') => some (w :: ws, ρ')
      | none => none
    | _ => none
def push : List Arg → List W → Env → Env
  | .a _ :: as, _ :: ws, ρ => push as ws ρ
  | .m j :: as, w :: ws, ρ => push as ws (ρ.set j (some w))
  | _, _, ρ => ρ
theorem pull_ok : ∀ {as : List Arg} {vs : List V} {ρ ρ' : Env} {ws : List W} {L : List Addr}, EnvR K κ G H ρ σ L → L.Nodup → ArgsR K κ σ G as vs → pull as ρ = some (ws, ρ') →
    ∃ B L', RwAll K κ G H ws vs B ∧ EnvR K κ G H ρ' σ L' ∧ (B ++ L').Nodup ∧ ∀ a ∈ B ++ L', a ∈ L
  | [], [], ρ, ρ', ws, L, r, nd, _, e => by
    simp only [pull, Option.some.injEq, Prod.mk.injEq] at e
    obtain ⟨rfl, rfl⟩ := e
    exact ⟨[], L, rfl, r, nd, fun _ z => z⟩
  | .a x :: as, v :: vs, ρ, ρ', ws, L, r, nd, ⟨q, qs⟩, e => by
    simp only [pull] at e
    cases h : pull as ρ with
    | none => rw [h] at e; cases e
    | some p =>
      obtain ⟨ws1, ρ1⟩ := p
      rw [h] at e
      simp only [Option.some.injEq, Prod.mk.injEq] at e
      obtain ⟨rfl, rfl⟩ := e
      obtain ⟨B, L', h1, h2, h3, h4⟩ := pull_ok r nd qs h
      exact ⟨B, L', ⟨[], B, rfl, ⟨rfl, q⟩, h1⟩, h2, h3, h4⟩
  | .m j :: as, v :: vs, ρ, ρ', ws, L, r, nd, ⟨q, qs⟩, e => by
    simp only [pull] at e
    cases hj : ρ[j]? with
    | none => rw [hj] at e; cases e
    | some o =>
      cases o with
      | none => rw [hj] at e; cases e
      | some w =>
        rw [hj] at e
        simp only at e
        cases h : pull as (ρ.set j none) with
        | none => rw [h] at e; cases e
        | some p =>
          obtain ⟨ws1, ρ1⟩ := p
          rw [h] at e
          simp only [Option.some.injEq, Prod.mk.injEq] at e
          obtain ⟨rfl, rfl⟩ := e
          obtain ⟨u, B, L1, h1, h2, h3, h4, h5⟩ := r.take nd hj
          rw [h1] at q
          simp only [Option.some.injEq] at q
          subst q
          have ndb := List.nodup_append.mp h4
          obtain ⟨B2, L2, k1, k2, k3, k4⟩ := pull_ok h3 ndb.2.1 qs h
          refine ⟨B ++ B2, L2, ⟨B, B2, rfl, h2, k1⟩, k2, ?_, fun a z => ?_⟩
          · rw [List.append_assoc]
            exact List.nodup_append.mpr ⟨ndb.1, k3, fun a ha b hb => ndb.2.2 a ha b (k4 b hb)⟩
          · rw [List.append_assoc] at z
            rcases List.mem_append.mp z with z | z
            · exact h5 a (List.mem_append_left _ z)
            · exact h5 a (List.mem_append_right _ (k4 a z))
  | [], _ :: _, _, _, _, _, _, _, q, _ => q.elim
  | .a _ :: _, [], _, _, _, _, _, _, q, _ => q.elim
  | .m _ :: _, [], _, _, _, _, _, _, q, _ => q.elim
theorem push_ok : ∀ {as : List Arg} {vs : List V} {ρ : Env} {ws : List W} {B L : List Addr}, EnvR K κ G H ρ σ L → RwAll K κ G H ws vs B → (B ++ L).Nodup → ArgsR K κ σ G2 as vs →
    ∃ L', EnvR K κ G H (push as ws ρ) σ L' ∧ L'.Nodup ∧ ∀ a ∈ L', a ∈ B ++ L
  | [], [], ρ, [], B, L, r, q, nd, _ => ⟨L, r, (List.nodup_append.mp nd).2.1, fun a z => List.mem_append_right _ z⟩
  | .a x :: as, v :: vs, ρ, w :: ws, _, L, r, ⟨B1, B2, e, q, qs⟩, nd, ⟨_, ps⟩ => by
    subst e
    have nd2 : (B2 ++ L).Nodup := nd.sublist (List.Sublist.append_right (List.sublist_append_right _ _) _)
    obtain ⟨L', h1, h2, h3⟩ := push_ok r qs nd2 ps
    refine ⟨L', h1, h2, fun a z => ?_⟩
    rcases List.mem_append.mp (h3 a z) with z | z <;> simp [z]
  | .m j :: as, v :: vs, ρ, w :: ws, _, L, r, ⟨B1, B2, e, q, qs⟩, nd, ⟨p, ps⟩ => by
    subst e
    have hj : j < ρ.length := by
      rw [r.length]
      exact (List.getElem?_eq_some_iff.mp p).1
    have nd1 : (B1 ++ L).Nodup := nd.sublist (List.Sublist.append_right (List.sublist_append_left _ _) _)
    obtain ⟨L1, h1, h2, h3⟩ := r.put j q nd1 hj
    rw [set_same p] at h1
    have nda := List.nodup_append.mp nd
    have ndb := List.nodup_append.mp nda.1
    have nd2 : (B2 ++ L1).Nodup := List.nodup_append.mpr ⟨ndb.2.1, h2, fun a ha b hb => by
      rcases List.mem_append.mp (h3 b hb) with z | z
      · exact Ne.symm (ndb.2.2 b z a ha)
      · exact nda.2.2 a (List.mem_append_right _ ha) b z⟩
    obtain ⟨L', k1, k2, k3⟩ := push_ok h1 qs nd2 ps
    refine ⟨L', k1, k2, fun a z => ?_⟩
    rcases List.mem_append.mp (k3 a z) with z | z
    · simp [z]
    · rcases List.mem_append.mp (h3 a z) with z | z <;> simp [z]
  | [], _ :: _, _, _, _, _, _, _, _, q => q.elim
  | .a _ :: _, [], _, _, _, _, _, _, _, q => q.elim
  | .m _ :: _, [], _, _, _, _, _, _, _, q => q.elim
  | [], [], _, _ :: _, _, _, _, q, _, _ => q.elim
  | .a _ :: _, _ :: _, _, [], _, _, _, q, _, _ => q.elim
  | .m _ :: _, _ :: _, _, [], _, _, _, q, _, _ => q.elim
end

/-! ### functions -/
section
variable (K : PySem.W.Frag) (κ : Cls)
def PostF (G H : Hp) (L : List Addr) (vs : List V) (r : R (List W) W) (Q : VK) (E : XK) : Prop := match r with
  | .ok w ws => ∀ v G' H' Lw L', Stp G H L G' H' (Lw ++ L') → RwAll K κ G' H' ws vs L' → Rw K κ G' H' w v Lw → (Lw ++ L').Nodup → Q v H'
  | .exc k f ws => ∀ dd G' H' L', Stp G H L G' H' L' → RwAll K κ G' H' ws vs L' → L'.Nodup → ExF K κ G' k f dd → E (.ref (κ.at_ k)) dd H'
  | .bad => False
/-- the promise «f, on the data» -/
def spF (n : Nat) (f : Fn) : Sp := fun vs H Q E => ∃ G L ws, vs.length = n ∧ Ex G H ∧ RwAll K κ G H ws vs L ∧ L.Nodup ∧ PostF K κ G H L vs (f ws) Q E
/-- what a call's arguments, pulled, come to -/
def callOn (f : Fn) (as : List Arg) (ρ : Env) : R Env W := match pull as ρ with
  | some (ws, ρ') => match f ws with
    | .ok w ws' => .ok w (push as ws' ρ')
    | .exc k x ws' => .exc k x (push as ws' ρ')
    | .bad => .bad
  | none => .bad
end
section
variable {K : PySem.W.Frag} {κ : Cls}
theorem RwAll.length {G H : Hp} : ∀ {ws : List W} {vs : List V} {L : List Addr}, RwAll K κ G H ws vs L → ws.length = vs.length
  | [], [], _, _ => rfl
  | _ :: _, _ :: _, _, ⟨_, _, _, _, q⟩ => congrArg (· + 1) (RwAll.length q)
theorem ArgsR.length {G : Hp} {σ : St} : ∀ {as : List Arg} {vs : List V}, ArgsR K κ σ G as vs → as.length = vs.length
  | [], [], _ => rfl
  | .a _ :: _, _ :: _, ⟨_, q⟩ => congrArg (· + 1) (ArgsR.length q)
  | .m _ :: _, _ :: _, ⟨_, q⟩ => congrArg (· + 1) (ArgsR.length q)
theorem ArgsR.mono {G G' : Hp} {σ : St} (e : Ex G G') : ∀ {as : List Arg} {vs : List V}, ArgsR K κ σ G as vs → ArgsR K κ σ G' as vs
  | [], [], _ => trivial
  | .a _ :: _, _ :: _, ⟨p, q⟩ => ⟨p.mono e, ArgsR.mono e q⟩
  | .m _ :: _, _ :: _, ⟨p, q⟩ => ⟨p, ArgsR.mono e q⟩
/-- a call by its promise -/
theorem call_ok {Wx : WX} {σ : St} {G H : Hp} {L : List Addr} {ρ : Env} {n : Nat} {f : Fn} {as : List Arg} {vs : List V} {Q : VK} (hG : Ex G H) (hE : EnvR K κ G H ρ σ L) (hN : L.Nodup) (ha : ArgsR K κ σ G as vs) (hn : as.length = n)
    (p : Post K κ (Rw K κ) Wx σ G H L (callOn f as ρ) Q) : spF K κ n f vs H Q (WE Wx σ) := by
  unfold callOn at p
  cases hp : pull as ρ with
  | none => rw [hp] at p; exact p.elim
  | some pr =>
    obtain ⟨ws, ρ'⟩ := pr
    rw [hp] at p
    obtain ⟨B, L', h1, h2, h3, h4⟩ := pull_ok hE hN ha hp
    have ndb := List.nodup_append.mp h3
    refine ⟨G, B, ws, by rw [← ha.length]; exact hn, hG, h1, ndb.1, ?_⟩
    have dj : ∀ a ∈ L', a ∉ B := fun a z q => ndb.2.2 a q a z rfl
    simp only at p
    cases hf : f ws with
    | ok w ws' =>
      rw [hf] at p
      intro v G' H' Lw M u r rw' nd
      have h2' := h2.stp u dj
      have ndw := List.nodup_append.mp nd
      have out : ∀ a ∈ Lw ++ M, a ∉ L' := fun a z q => by
        rcases u.ln a z with t | t
        · exact ndb.2.2 a t a q rfl
        · exact (h2.there a q).1 t
      have nd2 : (M ++ L').Nodup := List.nodup_append.mpr ⟨ndw.2.1, ndb.2.1, fun a x b y e => by
        subst e
        exact out a (List.mem_append_right _ x) y⟩
      obtain ⟨L2, k1, k2, k3⟩ := push_ok h2' r nd2 ha
      refine p v G' H' Lw L2 (u.wide (fun a z => h4 a (List.mem_append_left _ z)) fun a z => ?_) k1 rw' (List.nodup_append.mpr ⟨ndw.1, k2, fun a x b y e => ?_⟩)
      · rcases List.mem_append.mp z with z | z
        · exact .inl (List.mem_append_left _ z)
        · rcases List.mem_append.mp (k3 a z) with z | z
          · exact .inl (List.mem_append_right _ z)
          · exact .inr (h4 a (List.mem_append_right _ z))
      · subst e
        rcases List.mem_append.mp (k3 a y) with z | z
        · exact ndw.2.2 a x a z rfl
        · exact out a (List.mem_append_left _ x) z
    | exc k x ws' =>
      rw [hf] at p
      intro dd G' H' M u r nd hx
      have h2' := h2.stp u dj
      have out : ∀ a ∈ M, a ∉ L' := fun a z q => by
        rcases u.ln a z with t | t
        · exact ndb.2.2 a t a q rfl
        · exact (h2.there a q).1 t
      have nd2 : (M ++ L').Nodup := List.nodup_append.mpr ⟨nd, ndb.2.1, fun a x b y e => by
        subst e
        exact out a x y⟩
      obtain ⟨L2, k1, k2, k3⟩ := push_ok h2' r nd2 ha
      refine p dd G' H' L2 (u.wide (fun a z => h4 a (List.mem_append_left _ z)) fun a z => ?_) k1 k2 hx
      rcases List.mem_append.mp (k3 a z) with z | z
      · exact .inl z
      · exact .inr (h4 a (List.mem_append_right _ z))
    | bad => rw [hf] at p; exact p.elim

/-- the slots at a def's entry -/
def begun (n : Nat) (ws : List W) : Env := ws.map some ++ List.replicate (n - ws.length) none
/-- what a def leaves of what was handed to it: data as it was, the rest as its slot tells -/
def left (asg : List Nat) (ρ : Env) : Nat → List W → Option (List W)
  | _, [] => some []
  | i, w :: ws => match w with
    | .d x => match left asg ρ (i + 1) ws with
      | some us => some (.d x :: us)
      | none => none
    | _ => if asg.contains i = true then none else match ρ[i]? with
      | some (some w') => match left asg ρ (i + 1) ws with
        | some us => some (w' :: us)
        | none => none
      | _ => none
/-- a def's body as a function -/
def fnOf (n : Nat) (asg : List Nat) (sv : Env → R Env Flow) : Fn := fun ws => match sv (begun n ws) with
  | .ok .nx ρ => match left asg ρ 0 ws with
    | some us => .ok (.d .non) us
    | none => .bad
  | .ok (.rt w) ρ => match left asg ρ 0 ws with
    | some us => .ok w us
    | none => .bad
  | .exc k x ρ => match left asg ρ 0 ws with
    | some us => .exc k x us
    | none => .bad
  | _ => .bad
theorem begun_ok {G H : Hp} : ∀ {ws : List W} {vs : List V} {L : List Addr} (m : Nat), RwAll K κ G H ws vs L → EnvR K κ G H (ws.map some ++ List.replicate m none) (vs.map some ++ List.replicate m none) L
  | [], [], L, m, r => by
    have e : L = [] := r
    subst e
    show EnvR K κ G H (List.replicate m none) (List.replicate m none) []
    induction m with
    | zero => rfl
    | succ m ih => exact ih
  | w :: ws, v :: vs, L, m, ⟨L1, L2, e, h, q⟩ => ⟨L1, L2, e, h, begun_ok m q⟩
theorem left_set {asg : List Nat} {x : Option W} : ∀ {ws : List W} {ρ : Env} {i k : Nat}, k < i → left asg (ρ.set k x) i ws = left asg ρ i ws
  | [], _, _, _, _ => rfl
  | w :: ws, ρ, i, k, h => by
    have e1 : left asg (ρ.set k x) (i + 1) ws = left asg ρ (i + 1) ws := left_set (by omega)
    have e2 : (ρ.set k x)[i]? = ρ[i]? := List.getElem?_set_ne (by omega)
    cases w <;> simp only [left, e1, e2]
theorem left_ok {G0 H0 G H : Hp} {asg : List Nat} {σ : St} (g : Ex G0 G) : ∀ {ws : List W} {vs : List V} {L0 : List Addr} {i : Nat} {ρ : Env} {L : List Addr} {us : List W}, RwAll K κ G0 H0 ws vs L0 → EnvR K κ G H ρ σ L → L.Nodup →
    (∀ (j : Nat) (v : V), vs[j]? = some v → i + j ∉ asg → σ[i + j]? = some (some v)) → left asg ρ i ws = some us → ∃ M, RwAll K κ G H us vs M ∧ M.Nodup ∧ ∀ a ∈ M, a ∈ L
  | [], [], _, i, ρ, L, us, _, _, _, _, e => by
    simp only [left, Option.some.injEq] at e
    subst e
    exact ⟨[], rfl, .nil, fun _ z => nomatch z⟩
  | w :: ws, v :: vs, _, i, ρ, L, us, ⟨B1, B2, _, h, q⟩, r, nd, k, e => by
    have k' : ∀ (j : Nat) (v' : V), vs[j]? = some v' → (i + 1) + j ∉ asg → σ[(i + 1) + j]? = some (some v') := fun j v' h1 h2 => by
      have := k (j + 1) v' (by simpa using h1)
      rw [show i + (j + 1) = (i + 1) + j by omega] at this
      exact this h2
    have own : (∀ x, w ≠ .d x) → (if asg.contains i = true then none else match ρ[i]? with
      | some (some w') => match left asg ρ (i + 1) ws with
        | some us => some (w' :: us)
        | none => none
      | _ => none) = some us → ∃ M, RwAll K κ G H us (v :: vs) M ∧ M.Nodup ∧ ∀ a ∈ M, a ∈ L := fun _ e => by
      by_cases hi : asg.contains i = true
      · rw [if_pos hi] at e; cases e
      · rw [if_neg hi] at e
        have hi' : i ∉ asg := fun z => hi (List.contains_iff_mem.mpr z)
        cases hj : ρ[i]? with
        | none => rw [hj] at e; cases e
        | some o =>
          cases o with
          | none => rw [hj] at e; cases e
          | some w' =>
            rw [hj] at e
            simp only at e
            cases hl : left asg ρ (i + 1) ws with
            | none => rw [hl] at e; cases e
            | some us' =>
              rw [hl] at e
              simp only [Option.some.injEq] at e
              subst e
              obtain ⟨u, B, L1, h1, h2, h3, h4, h5⟩ := r.take nd hj
              have hv := k 0 v rfl (by simpa using hi')
              rw [Nat.add_zero, h1] at hv
              simp only [Option.some.injEq] at hv
              subst hv
              have ndb := List.nodup_append.mp h4
              obtain ⟨M, m1, m2, m3⟩ := left_ok g (i := i + 1) (ρ := ρ.set i none) q h3 ndb.2.1 k' (by rw [left_set (by omega)]; exact hl)
              refine ⟨B ++ M, ⟨B, M, rfl, h2, m1⟩, List.nodup_append.mpr ⟨ndb.1, m2, fun a x b y => ndb.2.2 a x b (m3 b y)⟩, fun a z => ?_⟩
              rcases List.mem_append.mp z with z | z
              · exact h5 a (List.mem_append_left _ z)
              · exact h5 a (List.mem_append_right _ (m3 a z))
    cases w with
    | d x =>
      simp only [left] at e
      cases hl : left asg ρ (i + 1) ws with
      | none => rw [hl] at e; cases e
      | some us' =>
        rw [hl] at e
        simp only [Option.some.injEq] at e
        subst e
        obtain ⟨M, h1, h2, h3⟩ := left_ok g q r nd k' hl
        exact ⟨M, ⟨[], M, rfl, ⟨rfl, h.2.mono g⟩, h1⟩, h2, h3⟩
    | ml xs => exact own (fun x z => nomatch z) (by simpa only [left] using e)
    | md xs => exact own (fun x z => nomatch z) (by simpa only [left] using e)
    | mm z => exact own (fun x z => nomatch z) (by simpa only [left] using e)
/-- THE RULE: a body's reading, from its function -/
theorem fn_ok {ts : WX → TS} {sv : Env → R Env Flow} {asg : List Nat} (s : SndS K κ ts sv asg) {N : List Str} {n : Nat} {vs : List V} {H : Hp} {Q : VK} {E : XK} (hn : n ≤ N.length) (h : spF K κ n (fnOf N.length asg sv) vs H Q E) :
    ts (fun cls d _ H' => E cls d H') { nx := fun _ H' => Q .non H', rt := Q } (L2.start N vs) H := by
  obtain ⟨G, L, ws, hl, hG, hR, hN, p⟩ := h
  have hw := hR.length
  have hE : EnvR K κ G H (begun N.length ws) (L2.start N vs) L := by
    unfold begun L2.start
    rw [hw]
    exact begun_ok _ hR
  have st0 : ∀ (j : Nat) (v : V), vs[j]? = some v → (L2.start N vs)[j]? = some (some v) := fun j v e => by
    unfold L2.start
    obtain ⟨hj, e'⟩ := List.getElem?_eq_some_iff.mp e
    rw [List.getElem?_append_left (by simpa using hj), List.getElem?_map, e]
    rfl
  refine s _ G H (begun N.length ws) (L2.start N vs) L _ hG hE hN ?_
  unfold fnOf at p
  cases hs : sv (begun N.length ws) with
  | ok fl ρ =>
    rw [hs] at p
    cases fl with
    | nx =>
      intro σ' G' H' L' u e nd kp
      simp only at p
      cases hf : left asg ρ 0 ws with
      | none => rw [hf] at p; exact p.elim
      | some us =>
        rw [hf] at p
        obtain ⟨M, m1, m2, m3⟩ := left_ok u.g hR e nd (fun j v h1 h2 => by
          rw [Nat.zero_add] at h2 ⊢
          rw [kp.2 j h2]
          exact st0 j v h1) hf
        exact p .non G' H' [] M (u.sub m3) m1 ⟨rfl, .non⟩ m2
    | rt w =>
      intro v σ' G' H' Lw L' u e rw' nd kp
      simp only at p
      cases hf : left asg ρ 0 ws with
      | none => rw [hf] at p; exact p.elim
      | some us =>
        rw [hf] at p
        have ndb := List.nodup_append.mp nd
        obtain ⟨M, m1, m2, m3⟩ := left_ok u.g hR e ndb.2.1 (fun j v h1 h2 => by
          rw [Nat.zero_add] at h2 ⊢
          rw [kp.2 j h2]
          exact st0 j v h1) hf
        refine p v G' H' Lw M (u.sub fun a z => ?_) m1 rw' (List.nodup_append.mpr ⟨ndb.1, m2, fun a x b y => ndb.2.2 a x b (m3 b y)⟩)
        rcases List.mem_append.mp z with z | z
        · exact List.mem_append_left _ z
        · exact List.mem_append_right _ (m3 a z)
    | bk => exact p.elim
    | ct => exact p.elim
  | exc k x ρ =>
    rw [hs] at p
    intro dd σ' G' H' L' u e nd kp hx
    simp only at p
    cases hf : left asg ρ 0 ws with
    | none => rw [hf] at p; exact p.elim
    | some us =>
      rw [hf] at p
      obtain ⟨M, m1, m2, m3⟩ := left_ok u.g hR e nd (fun j v h1 h2 => by
        rw [Nat.zero_add] at h2 ⊢
        rw [kp.2 j h2]
        exact st0 j v h1) hf
      exact p dd G' H' M (u.sub m3) m1 m2 hx
  | bad => rw [hs] at p; exact p.elim
end
end Pv

set_option maxRecDepth 100000
set_option maxHeartbeats 2000000
namespace Pv
open PySem PySem.Spec PyProof.Rows L2
section
variable {K : PySem.W.Frag} {κ : Cls}
/-! ### names, constants -/
/-- the name in slot i; a list that it owns is from then on known (and never changed) -/
def evV (i : Nat) : Env → R Env W := fun ρ => match ρ[i]? with
  | some (some (.d x)) => .ok (.d x) ρ
  | some (some (.ml xs)) => .ok (.d (.lst xs)) (ρ.set i (some (.d (.lst xs))))
  | _ => .bad
def eV (i : Nat) : SE K κ where
  te := fun _ => tVar i
  ev := evV i
  ok := fun Wx G H ρ σ L Q hG hE hN p => by
    unfold evV at p
    split at p
    · rename_i x h
      obtain ⟨v, h1, h2⟩ := hE.data h
      exact ⟨v, h1, p.ret (.refl hG) hE hN h2⟩
    · rename_i xs h
      obtain ⟨a, vs, h1, h2, h3, h4, h5, _, L', u, e, nd⟩ := hE.list hG hN h
      exact ⟨_, h1, p.ret u e nd (.lst (SqL.of upd_same) (h4.mono (Evl.Ex.new h2)))⟩
    · exact p.elim
def eC (x : D) (v : V) (r : ∀ G, Rp K κ G v x) : SE K κ where
  te := fun _ => tC v
  ev := fun ρ => .ok (.d x) ρ
  ok := fun Wx G H ρ σ L Q hG hE hN p => p.ret (.refl hG) hE hN (r G)
def eInt (i : Int) : SE K κ := eC (.int i) (.int i) fun _ => .int i
def eStr (s : Str) : SE K κ := eC (.str s) (.str s) fun _ => .str s
def eBl (b : Bool) : SE K κ := eC (.bl b) (.bl b) fun _ => .bl b
def eNon : SE K κ := eC .non .non fun _ => .non

/-! ### operators on data -/
def OpS (K : PySem.W.Frag) (κ : Cls) (r : R2) (g : D → D → Option D) : Prop := ∀ (G H : Hp) (vx vy : V) (x y z : D) (Q : VK), Ex G H → Rp K κ G vx x → Rp K κ G vy y → g x y = some z →
  (∀ v G' H', Stp G H [] G' H' [] → Rp K κ G' v z → Q v H') → r vx vy H Q
def UnS (K : PySem.W.Frag) (κ : Cls) (r : V → Hp → VK → Prop) (g : D → Option D) : Prop := ∀ (G H : Hp) (vx : V) (x z : D) (Q : VK), Ex G H → Rp K κ G vx x → g x = some z →
  (∀ v G' H', Stp G H [] G' H' [] → Rp K κ G' v z → Q v H') → r vx H Q
def eOp (r : R2) (g : D → D → Option D) (h : OpS K κ r g) (a b : SE K κ) : SE K κ where
  te := fun Wx => tOp r (a.te Wx) (b.te Wx)
  ev := fun ρ => (a.ev ρ).bindD fun x ρ => (b.ev ρ).bindD fun y ρ => R.of (g x y) ρ
  ok := fun Wx G H ρ σ L Q hG hE hN p => a.ok.then hG hE hN p fun x vx ρ1 G1 H1 L1 u1 e1 n1 r1 p => b.ok.then u1.gh e1 n1 p fun y vy ρ2 G2 H2 L2 u2 e2 n2 r2 p => by
    obtain ⟨z, hz⟩ := p.some
    exact h G2 H2 vx vy x y z Q u2.gh (r1.mono u2.g) r2 hz fun v G' H' u rz => p.of hz u.grow (e2.grow u) n2 rz
def eUn (r : V → Hp → VK → Prop) (g : D → Option D) (h : UnS K κ r g) (a : SE K κ) : SE K κ where
  te := fun Wx => tUn r (a.te Wx)
  ev := fun ρ => (a.ev ρ).bindD fun x ρ => R.of (g x) ρ
  ok := fun Wx G H ρ σ L Q hG hE hN p => a.ok.then hG hE hN p fun x vx ρ1 G1 H1 L1 u1 e1 n1 r1 p => by
    obtain ⟨z, hz⟩ := p.some
    exact h G1 H1 vx x z Q u1.gh r1 hz fun v G' H' u rz => p.of hz u.grow (e1.grow u) n1 rz
theorem Stp.refl0 {G H : Hp} (e : Ex G H) : Stp G H [] G H [] := .refl e
def gI (f : Int → Int → Option D) : D → D → Option D
  | .int i, .int j => f i j
  | _, _ => none
theorem opI0 {g : Int → Int → V} {f : Int → Int → D} (h : ∀ i j G, Rp K κ G (g i j) (f i j)) : OpS K κ (rI0 g) (gI fun i j => some (f i j)) := fun G H vx vy x y z Q hG rx ry e k => by
  cases rx <;> cases ry <;> first | (cases e; done) | skip
  rename_i i j
  cases e
  exact ⟨i, j, rfl, rfl, k _ G H (.refl0 hG) (h i j G)⟩
theorem opIc {C : Int → Int → Prop} [∀ i j, Decidable (C i j)] {g : Int → Int → V} {f : Int → Int → D} (h : ∀ i j G, Rp K κ G (g i j) (f i j)) : OpS K κ (rI C g) (gI fun i j => if C i j then some (f i j) else none) := fun G H vx vy x y z Q hG rx ry e k => by
  cases rx <;> cases ry <;> first | (cases e; done) | skip
  rename_i i j
  simp only [gI] at e
  by_cases c : C i j
  · rw [if_pos c] at e
    cases e
    exact ⟨i, j, rfl, rfl, c, k _ G H (.refl0 hG) (h i j G)⟩
  · rw [if_neg c] at e; cases e
instance (i j : Int) : Decidable (CMul i j) := by unfold CMul; infer_instance
instance (i j : Int) : Decidable (CMulW i j) := by unfold CMulW; infer_instance
instance (i j : Int) : Decidable (CDivW i j) := by unfold CDivW; infer_instance
instance (i j : Int) : Decidable (CPow i j) := by unfold CPow; infer_instance
def eAdd := eOp (K := K) (κ := κ) _ _ (opI0 (g := fun i j => .int (i + j)) (f := fun i j => .int (i + j)) fun _ _ _ => .int _)
def eSub := eOp (K := K) (κ := κ) _ _ (opI0 (g := fun i j => .int (i - j)) (f := fun i j => .int (i - j)) fun _ _ _ => .int _)
def eMul := eOp (K := K) (κ := κ) _ _ (opIc (C := CMul) (g := fun i j => .int (i * j)) (f := fun i j => .int (i * j)) fun _ _ _ => .int _)
def eMulW := eOp (K := K) (κ := κ) _ _ (opIc (C := CMulW) (g := fun i j => .int (i * j)) (f := fun i j => .int (i * j)) fun _ _ _ => .int _)
def eMod := eOp (K := K) (κ := κ) _ _ (opIc (C := fun _ j => 0 < j) (g := fun i j => .int (i % j)) (f := fun i j => .int (i % j)) fun _ _ _ => .int _)
def eDiv := eOp (K := K) (κ := κ) _ _ (opIc (C := CDivW) (g := fun i j => .int (i / j)) (f := fun i j => .int (i / j)) fun _ _ _ => .int _)
def ePow := eOp (K := K) (κ := κ) _ _ (opIc (C := CPow) (g := fun i j => .int (i ^ j.toNat)) (f := fun i j => .int (i ^ j.toNat)) fun _ _ _ => .int _)
def eLt := eOp (K := K) (κ := κ) _ _ (opI0 (g := fun i j => .bl (decide (i < j))) (f := fun i j => .bl (decide (i < j))) fun _ _ _ => .bl _)
def eLe := eOp (K := K) (κ := κ) _ _ (opI0 (g := fun i j => .bl (decide (i ≤ j))) (f := fun i j => .bl (decide (i ≤ j))) fun _ _ _ => .bl _)
def eGt := eOp (K := K) (κ := κ) _ _ (opI0 (g := fun i j => .bl (decide (j < i))) (f := fun i j => .bl (decide (j < i))) fun _ _ _ => .bl _)
def eGe := eOp (K := K) (κ := κ) _ _ (opI0 (g := fun i j => .bl (decide (j ≤ i))) (f := fun i j => .bl (decide (j ≤ i))) fun _ _ _ => .bl _)
/-! ### == on data -/
mutual
def D.py : D → PyData
  | .non => .none
  | .bl b => .bool b
  | .int i => .int i
  | .str s => .str s
  | .tup xs => .tuple (D.pys xs)
  | .lst xs => .list (D.pys xs)
  | .exc _ => .none
  | .excF _ _ => .none
  | .tupW _ => .none
def D.pys : List D → List PyData
  | [] => []
  | x :: xs => D.py x :: D.pys xs
end
mutual
/-- without exceptions in it, at most n deep -/
def D.flat : Nat → D → Bool
  | _, .exc _ => false
  | _, .excF _ _ => false
  | _, .tupW _ => false
  | 0, .tup _ => false
  | 0, .lst _ => false
  | n + 1, .tup xs => D.flats n xs
  | n + 1, .lst xs => D.flats n xs
  | _, .str s => PyData.strOk s
  | _, _ => true
def D.flats : Nat → List D → Bool
  | _, [] => true
  | n, x :: xs => D.flat n x && D.flats n xs
end
mutual
theorem dp_of {G : Hp} : ∀ {v : V} {x : D} {n : Nat}, Rp K κ G v x → D.flat n x = true → Dp K G v (D.py x)
  | _, _, _, .non, _ => by simp only [D.py]; exact .non
  | _, _, _, .bl b, _ => by simp only [D.py]; exact .bl b
  | _, _, _, .int i, _ => by simp only [D.py]; exact .int i
  | _, _, _, .str x, _ => by simp only [D.py]; exact .str x
  | _, _, 0, .tup h r, e => by simp [D.flat] at e
  | _, _, n + 1, .tup h r, e => by
    simp only [D.flat] at e
    simp only [D.py]
    exact .tup h.sq (dps_of r e)
  | _, _, 0, .lst h r, e => by simp [D.flat] at e
  | _, _, n + 1, .lst h r, e => by
    simp only [D.flat] at e
    simp only [D.py]
    exact .lst h (dps_of r e)
  | _, _, n, .exc _, e => by cases n <;> simp [D.flat] at e
  | _, _, n, .excF _ _ _, e => by cases n <;> simp [D.flat] at e
  | _, _, n, .tupW _ _, e => by cases n <;> simp [D.flat] at e
theorem dps_of {G : Hp} : ∀ {vs : List V} {xs : List D} {n : Nat}, RpAll K κ G vs xs → D.flats n xs = true → DpAll K G vs (D.pys xs)
  | _, _, _, .nil, _ => by simp only [D.pys]; exact .nil
  | _, _, n, .cons h r, e => by
    simp only [D.flats, Bool.and_eq_true] at e
    simp only [D.pys]
    exact .cons (dp_of h e.1) (dps_of r e.2)
end
mutual
theorem flat_lay : ∀ (x : D) (n : Nat), D.flat n x = true → (D.py x).canLay0 = true ∧ (D.py x).depth ≤ n
  | .non, _, _ => by simp [D.py, PyData.canLay0, PyData.depth]
  | .bl b, _, _ => by simp [D.py, PyData.canLay0, PyData.depth]
  | .int i, _, _ => by simp [D.py, PyData.canLay0, PyData.depth]
  | .str s, n, e => by
    have e' : PyData.strOk s = true := by cases n <;> simpa [D.flat] using e
    simp [D.py, PyData.canLay0, PyData.depth, e']
  | .tup xs, 0, e => by simp [D.flat] at e
  | .tup xs, n + 1, e => by
    simp only [D.flat] at e
    have h := flats_lay xs n e
    simp only [D.py, PyData.canLay0, PyData.depth]
    exact ⟨h.1, by omega⟩
  | .lst xs, 0, e => by simp [D.flat] at e
  | .lst xs, n + 1, e => by
    simp only [D.flat] at e
    have h := flats_lay xs n e
    simp only [D.py, PyData.canLay0, PyData.depth]
    exact ⟨h.1, by omega⟩
  | .exc _, n, e => by cases n <;> simp [D.flat] at e
  | .excF _ _, n, e => by cases n <;> simp [D.flat] at e
  | .tupW _, n, e => by cases n <;> simp [D.flat] at e
theorem flats_lay : ∀ (xs : List D) (n : Nat), D.flats n xs = true → PyData.canLayAll0 (D.pys xs) = true ∧ PyData.depthAll (D.pys xs) ≤ n
  | [], n, _ => by simp [D.pys, PyData.canLayAll0, PyData.depthAll]
  | x :: xs, n, e => by
    simp only [D.flats, Bool.and_eq_true] at e
    have h1 := flat_lay x n e.1
    have h2 := flats_lay xs n e.2
    simp only [D.pys, PyData.canLayAll0, PyData.depthAll, Bool.and_eq_true]
    exact ⟨⟨h1.1, h2.1⟩, by omega⟩
end
theorem flat_shaped {x : D} (e : D.flat 60 x = true) : SeqAt.shaped (D.py x) = true := by
  have h := flat_lay x 60 e
  show ((D.py x).canLay0 && decide ((D.py x).depth ≤ 64)) = true
  rw [Bool.and_eq_true]
  exact ⟨h.1, decide_eq_true (by omega)⟩
def D.eqv (x y : D) : Bool := PyData.eqv (D.py x) (D.py y)
def gEq (x y : D) : Option D := if D.flat 60 x = true ∧ D.flat 60 y = true then some (.bl (D.eqv x y)) else none
def gNe (x y : D) : Option D := if D.flat 60 x = true ∧ D.flat 60 y = true then some (.bl (!D.eqv x y)) else none
theorem Dp.mono {G H : Hp} (e : Ex G H) : ∀ {d : PyData} {v : V}, Dp K G v d → Dp K H v d := by
  intro d v h
  induction h using Dp.rec (motive_2 := fun vs ds _ => DpAll K H vs ds) with
  | non => exact .non
  | bl b => exact .bl b
  | int i => exact .int i
  | str x => exact .str x
  | lst h _ ih => exact .lst (ex_l e h) ih
  | tup h _ ih => exact .tup (ex_t e h) ih
  | nil => exact .nil
  | cons _ _ a b => exact .cons a b
theorem opEq : OpS K κ (rEqD K) gEq := fun G H vx vy x y z Q hG rx ry e k => by
  unfold gEq at e
  split at e
  · rename_i c
    cases e
    exact ⟨_, _, Dp.mono hG (dp_of rx c.1), Dp.mono hG (dp_of ry c.2), flat_shaped c.1, flat_shaped c.2, k _ G H (.refl0 hG) (.bl _)⟩
  · cases e
theorem opNe : OpS K κ (rNeD K) gNe := fun G H vx vy x y z Q hG rx ry e k => by
  unfold gNe at e
  split at e
  · rename_i c
    cases e
    exact ⟨_, _, Dp.mono hG (dp_of rx c.1), Dp.mono hG (dp_of ry c.2), flat_shaped c.1, flat_shaped c.2, k _ G H (.refl0 hG) (.bl _)⟩
  · cases e
def eEq := eOp (K := K) (κ := κ) _ _ opEq
def eNe := eOp (K := K) (κ := κ) _ _ opNe
/-- is None, is not None -/
def D.isN : D → Bool
  | .non => true
  | _ => false
theorem Rp.isN {G : Hp} {v : V} {x : D} (r : Rp K κ G v x) : decide (v = V.non) = D.isN x := by cases r <;> simp [D.isN]
def eIsN (a : SE K κ) : SE K κ where
  te := fun Wx => tIsN (a.te Wx)
  ev := fun ρ => (a.ev ρ).bindD fun x ρ => .ok (.d (.bl (D.isN x))) ρ
  ok := fun Wx G H ρ σ L Q hG hE hN p => a.ok.then hG hE hN p fun x vx ρ1 G1 H1 L1 u1 e1 n1 r1 p => by
    rw [r1.isN]
    exact p.ret (.refl u1.gh) e1 n1 (.bl _)
def eNotN (a : SE K κ) : SE K κ where
  te := fun Wx => tNotN (a.te Wx)
  ev := fun ρ => (a.ev ρ).bindD fun x ρ => .ok (.d (.bl (!D.isN x))) ρ
  ok := fun Wx G H ρ σ L Q hG hE hN p => a.ok.then hG hE hN p fun x vx ρ1 G1 H1 L1 u1 e1 n1 r1 p => by
    rw [r1.isN]
    exact p.ret (.refl u1.gh) e1 n1 (.bl _)
/-! ### arguments, displays, calls -/
def aNil : SA K κ where
  ta := fun _ => tNil
  ev := fun ρ => .ok [] ρ
  ok := fun Wx G H ρ σ L Q hG hE hN p => p [] G H [] L (.refl hG) hE ⟨rfl, trivial⟩ hN
theorem SndA.then {ta : WX → TA} {ev : Env → R Env (List Arg)} (s : SndA K κ ta ev) {β ν : Type} {Rel : Hp → Hp → β → ν → List Addr → Prop} {Wx : WX} {G H : Hp} {ρ : Env} {σ : St} {L : List Addr} {Q : ν → Hp → Prop} {k : List Arg → Env → R Env β} {q : List V → Hp → Prop} (hG : Ex G H) (hE : EnvR K κ G H ρ σ L) (hN : L.Nodup) (p : Post K κ Rel Wx σ G H L (R.bind (ev ρ) k) Q)
    (go : ∀ as vs ρ1 G1 H1 L1, Stp G H L G1 H1 L1 → EnvR K κ G1 H1 ρ1 σ L1 → L1.Nodup → ArgsR K κ σ G1 as vs → Post K κ Rel Wx σ G1 H1 L1 (k as ρ1) Q → q vs H1) : ta Wx σ H q := by
  refine s Wx G H ρ σ L q hG hE hN ?_
  cases h : ev ρ with
  | ok as ρ1 =>
    rw [h] at p
    intro v G1 H1 Lw L1 st e r nd
    obtain ⟨rfl, r⟩ := r
    exact go as v ρ1 G1 H1 L1 st e nd r (p.trans st)
  | exc c f ρ1 => rw [h] at p; exact p
  | bad => rw [h] at p; exact p.elim
def aCons (a : SE K κ) (r : SA K κ) : SA K κ where
  ta := fun Wx => tCons (a.te Wx) (r.ta Wx)
  ev := fun ρ => (a.ev ρ).bindD fun x ρ => (r.ev ρ).bind fun as ρ => .ok (.a x :: as) ρ
  ok := fun Wx G H ρ σ L Q hG hE hN p => a.ok.then hG hE hN p fun x vx ρ1 G1 H1 L1 u1 e1 n1 r1 p => r.ok.then u1.gh e1 n1 p fun as vs ρ2 G2 H2 L2 u2 e2 n2 r2 p =>
    p (vx :: vs) G2 H2 [] L2 (.refl u2.gh) e2 ⟨rfl, r1.mono u2.g, r2⟩ n2
/-- slot i's own thing, handed to the call -/
def aM (i : Nat) (r : SA K κ) : SA K κ where
  ta := fun Wx => tCons (tVar i) (r.ta Wx)
  ev := fun ρ => match ρ[i]? with
    | some (some _) => (r.ev ρ).bind fun as ρ => .ok (.m i :: as) ρ
    | _ => .bad
  ok := fun Wx G H ρ σ L Q hG hE hN p => by
    dsimp only at p
    split at p
    · rename_i w h
      obtain ⟨v, _, _, _, h1, _⟩ := hE.at h
      exact ⟨v, h1, r.ok.then hG hE hN p fun as vs ρ2 G2 H2 L2 u2 e2 n2 r2 p => p (v :: vs) G2 H2 [] L2 (.refl u2.gh) e2 ⟨rfl, h1, r2⟩ n2⟩
    · exact p.elim
/-- data alone -/
def dat : List Arg → Option (List D)
  | [] => some []
  | .a x :: as => match dat as with
    | some xs => some (x :: xs)
    | none => none
  | .m _ :: _ => none
theorem dat_ok {G : Hp} {σ : St} : ∀ {as : List Arg} {vs : List V} {xs : List D}, ArgsR K κ σ G as vs → dat as = some xs → RpAll K κ G vs xs
  | [], [], _, _, e => by cases e; exact .nil
  | .a x :: as, v :: vs, xs, ⟨p, q⟩, e => by
    simp only [dat] at e
    cases h : dat as with
    | none => rw [h] at e; cases e
    | some ys =>
      rw [h] at e
      cases e
      exact .cons p (dat_ok q h)
  | .m _ :: _, _ :: _, _, _, e => by cases e
  | [], _ :: _, _, q, _ => q.elim
  | .a _ :: _, [], _, q, _ => q.elim
  | .m _ :: _, [], _, q, _ => q.elim
def evD (as : List Arg) (k : List D → R Env W) : R Env W := match dat as with
  | some xs => k xs
  | none => .bad
/-- (a, b, ..) -/
def eTup (r : SA K κ) : SE K κ where
  te := fun Wx => tTupP (r.ta Wx)
  ev := fun ρ => (r.ev ρ).bind fun as ρ => evD as fun xs => if xs.length ≤ 1000000 then .ok (.d (.tup xs)) ρ else .bad
  ok := fun Wx G H ρ σ L Q hG hE hN p => r.ok.then hG hE hN p fun as vs ρ1 G1 H1 L1 u1 e1 n1 r1 p => by
    unfold evD at p
    cases h : dat as with
    | none => rw [h] at p; exact p.elim
    | some xs =>
      rw [h] at p
      have rr := dat_ok r1 h
      have hl := rr.length
      simp only at p
      split at p
      · rename_i hz
        refine ⟨Nat.le_trans (by omega : vs.length ≤ 1000000) (by decide), fun q ob hq hd => ?_⟩
        exact p.ret (.new u1.gh hq) (e1.new u1.gh hq) n1 (.tup (.new hd) (rr.mono (Evl.Ex.new (fresh u1.gh hq))))
      · exact p.elim
/-- [a, b, ..], never changed -/
def eLst (r : SA K κ) : SE K κ where
  te := fun Wx => tLst (r.ta Wx)
  ev := fun ρ => (r.ev ρ).bind fun as ρ => evD as fun xs => if xs.length ≤ 1000000 then .ok (.d (.lst xs)) ρ else .bad
  ok := fun Wx G H ρ σ L Q hG hE hN p => r.ok.then hG hE hN p fun as vs ρ1 G1 H1 L1 u1 e1 n1 r1 p => by
    unfold evD at p
    cases h : dat as with
    | none => rw [h] at p; exact p.elim
    | some xs =>
      rw [h] at p
      have rr := dat_ok r1 h
      have hl := rr.length
      simp only at p
      split at p
      · rename_i hz
        refine ⟨Nat.le_trans (by omega : vs.length ≤ 1000000) (by decide), fun q hq => ?_⟩
        exact p.ret (.new u1.gh hq) (e1.new u1.gh hq) n1 (.lst (SqL.of upd_same) (rr.mono (Evl.Ex.new (fresh u1.gh hq))))
      · exact p.elim
/-- [a, b, ..], to be changed by its owner -/
def eLstM (r : SA K κ) : SE K κ where
  te := fun Wx => tLst (r.ta Wx)
  ev := fun ρ => (r.ev ρ).bind fun as ρ => evD as fun xs => if xs.length ≤ 1000000 then .ok (.ml xs) ρ else .bad
  ok := fun Wx G H ρ σ L Q hG hE hN p => r.ok.then hG hE hN p fun as vs ρ1 G1 H1 L1 u1 e1 n1 r1 p => by
    unfold evD at p
    cases h : dat as with
    | none => rw [h] at p; exact p.elim
    | some xs =>
      rw [h] at p
      have rr := dat_ok r1 h
      have hl := rr.length
      simp only at p
      split at p
      · rename_i hz
        refine ⟨Nat.le_trans (by omega : vs.length ≤ 1000000) (by decide), fun q hq => ?_⟩
        exact p _ G1 _ [q] L1 (.own u1.gh hq) (e1.ownNew hq) ⟨q, vs, rfl, rfl, fresh u1.gh hq, upd_same, rr⟩ (own_nodup hq e1 n1)
      · exact p.elim
/-- f(..), f of the text -/
def eCall (n : Nat) (f : Fn) (r : SA K κ) : SE K κ where
  te := fun Wx => tCallS (spF K κ n f) (WE Wx) (r.ta Wx)
  ev := fun ρ => (r.ev ρ).bind fun as ρ => if as.length = n then callOn f as ρ else .bad
  ok := fun Wx G H ρ σ L Q hG hE hN p => r.ok.then hG hE hN p fun as vs ρ1 G1 H1 L1 u1 e1 n1 r1 p => by
    split at p
    · rename_i hn
      exact call_ok u1.gh e1 n1 r1 hn p
    · exact p.elim
/-- a built-in of data -/
def CbS (K : PySem.W.Frag) (κ : Cls) (r : List V → Hp → VK → Prop) (g : List D → Option D) : Prop := ∀ (G H : Hp) (vs : List V) (xs : List D) (z : D) (Q : VK), Ex G H → RpAll K κ G vs xs → g xs = some z →
  (∀ v G' H', Stp G H [] G' H' [] → Rp K κ G' v z → Q v H') → r vs H Q
def eCB (r : List V → Hp → VK → Prop) (g : List D → Option D) (h : CbS K κ r g) (a : SA K κ) : SE K κ where
  te := fun Wx => tCB r (a.ta Wx)
  ev := fun ρ => (a.ev ρ).bind fun as ρ => evD as fun xs => R.of (g xs) ρ
  ok := fun Wx G H ρ σ L Q hG hE hN p => a.ok.then hG hE hN p fun as vs ρ1 G1 H1 L1 u1 e1 n1 r1 p => by
    unfold evD at p
    cases hd : dat as with
    | none => rw [hd] at p; exact p.elim
    | some xs =>
      rw [hd] at p
      simp only at p
      obtain ⟨z, hz⟩ := p.some
      exact h G1 H1 vs xs z Q u1.gh (dat_ok r1 hd) hz fun v G' H' u rz => p.of hz u.grow (e1.grow u) n1 rz
/-! ### tests -/
def tV (a : SE K κ) : ST K κ where
  tt := fun Wx => tB (a.te Wx)
  ev := fun ρ => (a.ev ρ).bindD fun x ρ => match x with
    | .bl b => .ok b ρ
    | _ => .bad
  ok := fun Wx G H ρ σ L Q hG hE hN p => a.ok.then hG hE hN p fun x vx ρ1 G1 H1 L1 u1 e1 n1 r1 p => by
    cases r1 with
    | bl b => exact ⟨b, rfl, p b G1 H1 [] L1 (.refl u1.gh) e1 ⟨rfl, rfl⟩ n1⟩
    | _ => exact p.elim
/-- a comparison as a test: the same, by another reading -/
def tV' (a : SE K κ) : ST K κ where
  tt := fun Wx => tTest (a.te Wx)
  ev := (tV a).ev
  ok := (tV a).ok
def tAnd' (a b : ST K κ) : ST K κ where
  tt := fun Wx => tAnd (a.tt Wx) (b.tt Wx)
  ev := fun ρ => (a.ev ρ).bind fun c ρ => if c = true then b.ev ρ else .ok false ρ
  ok := fun Wx G H ρ σ L Q hG hE hN p => a.ok.then hG hE hN p fun c ρ1 G1 H1 L1 u1 e1 n1 p => by
    split at p
    · rename_i h
      rw [if_pos h]
      exact b.ok Wx G1 H1 ρ1 σ L1 Q u1.gh e1 n1 p
    · rename_i h
      rw [if_neg h]
      exact p false G1 H1 [] L1 (.refl u1.gh) e1 ⟨rfl, rfl⟩ n1
def tOr' (a b : ST K κ) : ST K κ where
  tt := fun Wx => tOr (a.tt Wx) (b.tt Wx)
  ev := fun ρ => (a.ev ρ).bind fun c ρ => if c = true then .ok true ρ else b.ev ρ
  ok := fun Wx G H ρ σ L Q hG hE hN p => a.ok.then hG hE hN p fun c ρ1 G1 H1 L1 u1 e1 n1 p => by
    split at p
    · rename_i h
      rw [if_pos h]
      exact p true G1 H1 [] L1 (.refl u1.gh) e1 ⟨rfl, rfl⟩ n1
    · rename_i h
      rw [if_neg h]
      exact b.ok Wx G1 H1 ρ1 σ L1 Q u1.gh e1 n1 p
def tNot' (a : ST K κ) : ST K κ where
  tt := fun Wx => tNot (a.tt Wx)
  ev := fun ρ => (a.ev ρ).bind fun c ρ => .ok (!c) ρ
  ok := fun Wx G H ρ σ L Q hG hE hN p => a.ok.then hG hE hN p fun c ρ1 G1 H1 L1 u1 e1 n1 p => p (!c) G1 H1 [] L1 (.refl u1.gh) e1 ⟨rfl, rfl⟩ n1
def eAndV (a b : SE K κ) : SE K κ where
  te := fun Wx => tAndV (a.te Wx) (b.te Wx)
  ev := fun ρ => (a.ev ρ).bindD fun x ρ => match x with
    | .bl c => if c = true then b.ev ρ else .ok (.d (.bl false)) ρ
    | _ => .bad
  ok := fun Wx G H ρ σ L Q hG hE hN p => a.ok.then hG hE hN p fun x vx ρ1 G1 H1 L1 u1 e1 n1 r1 p => by
    cases r1 with
    | bl c =>
      refine ⟨c, rfl, ?_⟩
      simp only at p
      split at p
      · rename_i h
        rw [if_pos h]
        exact b.ok Wx G1 H1 ρ1 σ L1 Q u1.gh e1 n1 p
      · rename_i h
        rw [if_neg h]
        exact p.ret (.refl u1.gh) e1 n1 (.bl _)
    | _ => exact p.elim
def eOrV (a b : SE K κ) : SE K κ where
  te := fun Wx => tOrV (a.te Wx) (b.te Wx)
  ev := fun ρ => (a.ev ρ).bindD fun x ρ => match x with
    | .bl c => if c = true then .ok (.d (.bl true)) ρ else b.ev ρ
    | _ => .bad
  ok := fun Wx G H ρ σ L Q hG hE hN p => a.ok.then hG hE hN p fun x vx ρ1 G1 H1 L1 u1 e1 n1 r1 p => by
    cases r1 with
    | bl c =>
      refine ⟨c, rfl, ?_⟩
      simp only at p
      split at p
      · rename_i h
        rw [if_pos h]
        exact p.ret (.refl u1.gh) e1 n1 (.bl _)
      · rename_i h
        rw [if_neg h]
        exact b.ok Wx G1 H1 ρ1 σ L1 Q u1.gh e1 n1 p
    | _ => exact p.elim
def eNotV (a : SE K κ) : SE K κ where
  te := fun Wx => tNotV (a.te Wx)
  ev := fun ρ => (a.ev ρ).bindD fun x ρ => match x with
    | .bl c => .ok (.d (.bl (!c))) ρ
    | _ => .bad
  ok := fun Wx G H ρ σ L Q hG hE hN p => a.ok.then hG hE hN p fun x vx ρ1 G1 H1 L1 u1 e1 n1 r1 p => by
    cases r1 with
    | bl c => exact ⟨c, rfl, p.ret (.refl u1.gh) e1 n1 (.bl _)⟩
    | _ => exact p.elim
def eIf (t : ST K κ) (a b : SE K κ) : SE K κ where
  te := fun Wx => tIf (t.tt Wx) (a.te Wx) (b.te Wx)
  ev := fun ρ => (t.ev ρ).bind fun c ρ => if c = true then a.ev ρ else b.ev ρ
  ok := fun Wx G H ρ σ L Q hG hE hN p => t.ok.then hG hE hN p fun c ρ1 G1 H1 L1 u1 e1 n1 p => by
    split at p
    · rename_i h
      rw [if_pos h]
      exact a.ok Wx G1 H1 ρ1 σ L1 Q u1.gh e1 n1 p
    · rename_i h
      rw [if_neg h]
      exact b.ok Wx G1 H1 ρ1 σ L1 Q u1.gh e1 n1 p
end
end Pv

set_option maxRecDepth 100000
set_option maxHeartbeats 2000000
namespace Pv
open PySem PySem.Spec PyProof.Rows L2
section
variable {K : PySem.W.Frag} {κ : Cls}
theorem Keep.refl (asg : List Nat) (σ : St) : Keep asg σ σ := ⟨rfl, fun _ _ => rfl⟩
theorem Keep.trans {a b : List Nat} {σ σ1 σ2 : St} (h : Keep a σ σ1) (g : Keep b σ1 σ2) : Keep (a ++ b) σ σ2 := ⟨g.1.trans h.1, fun i n =>
  (g.2 i fun z => n (List.mem_append_right _ z)).trans (h.2 i fun z => n (List.mem_append_left _ z))⟩
theorem Keep.wide {a b : List Nat} {σ σ1 : St} (h : Keep a σ σ1) (s : ∀ i ∈ a, i ∈ b) : Keep b σ σ1 := ⟨h.1, fun i n => h.2 i fun z => n (s i z)⟩
theorem Keep.set {i : Nat} {σ : St} {v : Option V} : Keep [i] σ (σ.set i v) := ⟨List.length_set, fun j n => List.getElem?_set_ne (fun z => n (by simp [z]))⟩
theorem PostS.step {Wx : WX} {σ σ1 : St} {a b c : List Nat} {G H G1 H1 : Hp} {L L1 : List Addr} {r : R Env Flow} {E : Ends} (p : PostS K κ Wx σ c G H L r E) (u : Stp G H L G1 H1 L1) (k : Keep a σ σ1) (h : ∀ i ∈ a ++ b, i ∈ c) : PostS K κ Wx σ1 b G1 H1 L1 r E := by
  cases r with
  | ok f ρ' =>
    cases f with
    | nx => exact fun σ' G' H' L' s e n q => p σ' G' H' L' (u.trans s) e n ((k.trans q).wide h)
    | bk => exact fun σ' G' H' L' s e n q => p σ' G' H' L' (u.trans s) e n ((k.trans q).wide h)
    | ct => exact fun σ' G' H' L' s e n q => p σ' G' H' L' (u.trans s) e n ((k.trans q).wide h)
    | rt w => exact fun v σ' G' H' Lw L' s e q n kk => p v σ' G' H' Lw L' (u.trans s) e q n ((k.trans kk).wide h)
  | exc k' f ρ' => exact fun dd σ' G' H' L' s e n kp x => p dd σ' G' H' L' (u.trans s) e n ((k.trans kp).wide h) x
  | bad => exact p
/-- a flow, then the rest -/
def R.flow (r : R Env Flow) (k : Env → R Env Flow) : R Env Flow := match r with
  | .ok .nx ρ => k ρ
  | .ok f ρ => .ok f ρ
  | .exc c f ρ => .exc c f ρ
  | .bad => .bad
def sNil : SS K κ where
  ts := fun _ => tNext
  sv := fun ρ => .ok .nx ρ
  asg := []
  ok := fun Wx G H ρ σ L E hG hE hN p => p σ G H L (.refl hG) hE hN (.refl _ _)
def sSeq (a b : SS K κ) : SS K κ where
  ts := fun Wx => tSeq (a.ts Wx) (b.ts Wx)
  sv := fun ρ => (a.sv ρ).flow b.sv
  asg := a.asg ++ b.asg
  ok := fun Wx G H ρ σ L E hG hE hN p => by
    refine a.ok Wx G H ρ σ L _ hG hE hN ?_
    have sa : ∀ i ∈ a.asg, i ∈ a.asg ++ b.asg := fun i z => List.mem_append_left _ z
    unfold R.flow at p
    dsimp only at p
    cases h : a.sv ρ with
    | ok f ρ1 =>
      rw [h] at p
      cases f with
      | nx => exact fun σ1 G1 H1 L1 u e n k => b.ok Wx G1 H1 ρ1 σ1 L1 E u.gh e n (p.step u k fun i z => z)
      | bk => exact fun σ' G' H' L' s e n q => p σ' G' H' L' s e n (q.wide sa)
      | ct => exact fun σ' G' H' L' s e n q => p σ' G' H' L' s e n (q.wide sa)
      | rt w => exact fun v σ' G' H' Lw L' s e q n kk => p v σ' G' H' Lw L' s e q n (kk.wide sa)
    | exc c f ρ1 => rw [h] at p; exact fun dd σ' G' H' L' s e n q x => p dd σ' G' H' L' s e n (q.wide sa) x
    | bad => rw [h] at p; exact p.elim
def sAsg (i : Nat) (e : SE K κ) : SS K κ where
  ts := fun Wx => tAsg (e.te Wx) (gName i)
  sv := fun ρ => (e.ev ρ).bind fun w ρ => if i < ρ.length then .ok .nx (ρ.set i (some w)) else .bad
  asg := [i]
  ok := fun Wx G H ρ σ L E hG hE hN p => e.ok.thenW hG hE hN p fun w v ρ1 G1 H1 Lw L1 u e1 n1 r1 p => by
    split at p
    · rename_i hi
      obtain ⟨L', h1, h2, h3⟩ := e1.put i r1 n1 hi
      exact p (σ.set i (some v)) G1 H1 L' (u.sub h3) h1 h2 .set
    · exact p.elim
def sIf (t : ST K κ) (a b : SS K κ) : SS K κ where
  ts := fun Wx => tIfS (t.tt Wx) (a.ts Wx) (b.ts Wx)
  sv := fun ρ => (t.ev ρ).bind fun c ρ => if c = true then a.sv ρ else b.sv ρ
  asg := a.asg ++ b.asg
  ok := fun Wx G H ρ σ L E hG hE hN p => t.ok.thenS hG hE hN p fun c ρ1 G1 H1 L1 u1 e1 n1 p => by
    split at p
    · rename_i h
      rw [if_pos h]
      exact a.ok Wx G1 H1 ρ1 σ L1 E u1.gh e1 n1 (p.step (.refl u1.gh) (.refl [] _) fun i z => List.mem_append_left _ z)
    · rename_i h
      rw [if_neg h]
      exact b.ok Wx G1 H1 ρ1 σ L1 E u1.gh e1 n1 (p.step (.refl u1.gh) (.refl [] _) fun i z => List.mem_append_right _ z)
def sRet (e : SE K κ) : SS K κ where
  ts := fun Wx => tRet (e.te Wx)
  sv := fun ρ => (e.ev ρ).bind fun w ρ => .ok (.rt w) ρ
  asg := []
  ok := fun Wx G H ρ σ L E hG hE hN p => e.ok.thenW hG hE hN p fun w v ρ1 G1 H1 Lw L1 u e1 n1 r1 p => p v σ G1 H1 Lw L1 u e1 r1 n1 (.refl _ _)
def sDrop (e : SE K κ) : SS K κ where
  ts := fun Wx => tDrop (e.te Wx)
  sv := fun ρ => (e.ev ρ).bind fun _ ρ => .ok .nx ρ
  asg := []
  ok := fun Wx G H ρ σ L E hG hE hN p => e.ok.thenW hG hE hN p fun w v ρ1 G1 H1 Lw L1 u e1 n1 r1 p => p σ G1 H1 L1 (u.sub fun a z => List.mem_append_right _ z) e1 (List.nodup_append.mp n1).2.1 (.refl _ _)
/-- x[j] = e, x the name in slot i, a list that it owns -/
def sSetL (i j : Nat) (e : SE K κ) : SS K κ where
  ts := fun Wx => tAsg (e.te Wx) (gSub (tVar i) (tC (.int j)) rSetL)
  sv := fun ρ => (e.ev ρ).bindD fun x ρ => match ρ[i]? with
    | some (some (.ml xs)) => if j < xs.length then .ok .nx (ρ.set i (some (.ml (xs.set j x)))) else .bad
    | _ => .bad
  asg := []
  ok := fun Wx G H ρ σ L E hG hE hN p => e.ok.thenS hG hE hN p fun x vx ρ1 G1 H1 L1 u1 e1 n1 r1 p => by
    split at p
    · rename_i xs h
      split at p
      · rename_i hj
        obtain ⟨a, vs, h1, h2, h3, h4, h5, h6, _⟩ := e1.list u1.gh n1 h
        obtain ⟨st, en⟩ := h6 (vs.set j vx) (xs.set j x) (h4.set r1 j)
        have hl := h4.length
        refine ⟨_, h1, a, vs, j, j, rfl, rfl, h3, ?_, ?_⟩
        · unfold ixN
          rw [if_pos (by omega : (0 : Int) ≤ (j : Int)), if_pos (by omega : (j : Int) < (vs.length : Int))]
          simp
        · exact p σ G1 _ L1 st en n1 (.refl _ _)
      · exact p.elim
    · exact p.elim
/-- x.append(e), x the name in slot i, a list that it owns -/
def sApp (K' : PySem.W.Frag) (hK : K' = K) (i : Nat) (e : SE K κ) : SS K κ where
  ts := fun Wx => tDrop (tBM K "list" rAppend (tVar i) (tCons (e.te Wx) tNil))
  sv := fun ρ => match ρ[i]? with
    | some (some (.ml _)) => (e.ev ρ).bindD fun x ρ => match ρ[i]? with
      | some (some (.ml xs)) => if xs.length < 1000000 then .ok .nx (ρ.set i (some (.ml (xs ++ [x])))) else .bad
      | _ => .bad
    | _ => .bad
  asg := []
  ok := fun Wx G H ρ σ L E hG hE hN p => by
    dsimp only at p
    split at p
    · rename_i ys h0
      obtain ⟨a, vs, h1, h2, h3, h4, h5, h6, _⟩ := hE.list hG hN h0
      refine ⟨_, h1, .inl ⟨rfl, _, SqL.of h3⟩, e.ok.thenS hG hE hN p fun x vx ρ1 G1 H1 L1 u1 e1 n1 r1 p => ?_⟩
      split at p
      · rename_i xs h
        split at p
        · rename_i hj
          obtain ⟨a', vs, k1, h2, h3, h4, h5, h6, _⟩ := e1.list u1.gh n1 h
          rw [h1] at k1
          cases k1
          obtain ⟨st, en⟩ := h6 (vs ++ [vx]) (xs ++ [x]) (h4.append (.cons r1 .nil))
          have hl := h4.length
          exact ⟨a, vs, vx, rfl, rfl, h3, Nat.lt_of_lt_of_le (by omega : vs.length < 1000000) (by decide), p σ G1 _ L1 st en n1 (.refl _ _)⟩
        · exact p.elim
      · exact p.elim
    · exact p.elim
/-! ### subscripts, lengths -/
def D.seq : D → Option (List D)
  | .tup xs => some xs
  | .lst xs => some xs
  | _ => none
/-- x[j] of the list that slot i owns (or of data there) -/
def eIxM (i : Nat) (b : SE K κ) : SE K κ where
  te := fun Wx => tOp (rIxL K) (tVar i) (b.te Wx)
  ev := fun ρ => match ρ[i]? with
    | some (some (.ml _)) => (b.ev ρ).bindD fun y ρ => match y, ρ[i]? with
      | .int j, some (some (.ml xs)) => match atI xs j with
        | some z => .ok (.d z) ρ
        | none => .bad
      | _, _ => .bad
    | _ => .bad
  ok := fun Wx G H ρ σ L Q hG hE hN p => by
    dsimp only at p
    split at p
    · rename_i ys h0
      obtain ⟨a, vs, h1, _⟩ := hE.list hG hN h0
      refine ⟨_, h1, b.ok.then hG hE hN p fun y vy ρ1 G1 H1 L1 u1 e1 n1 r1 p => ?_⟩
      cases r1 with
      | int j =>
        try dsimp only at p
        split at p
        · rename_i xs hj h
          cases hj
          split at p
          · rename_i z hz
            obtain ⟨a', vs, k1, h2, h3, h4, h5, _⟩ := e1.list u1.gh n1 h
            rw [h1] at k1
            cases k1
            have hl := h4.length
            unfold atI at hz
            rw [← hl] at hz
            cases hx : ixN vs.length j with
            | none => rw [hx] at hz; cases hz
            | some m =>
              rw [hx] at hz
              obtain ⟨v, hv, rv⟩ := h4.get (show xs[m]? = some z from hz)
              refine ⟨a, vs, j, v, rfl, rfl, SqL.of h3, ?_, p.ret (.refl u1.gh) e1 n1 rv⟩
              unfold atI
              rw [hx]
              exact hv
          · exact p.elim
        · exact p.elim
      | _ => exact p.elim
    · exact p.elim
def gIxL : D → D → Option D
  | .lst xs, .int j => atI xs j
  | _, _ => none
def gIxT : D → D → Option D
  | .tup xs, .int j => atI xs j
  | _, _ => none
theorem RpAll.atI {G : Hp} {vs : List V} {xs : List D} {j : Int} {z : D} (h : RpAll K κ G vs xs) (hz : L2.atI xs j = some z) : ∃ v, L2.atI vs j = some v ∧ Rp K κ G v z := by
  have hl := h.length
  unfold L2.atI at hz ⊢
  rw [← hl] at hz
  cases hx : ixN vs.length j with
  | none => rw [hx] at hz; cases hz
  | some m =>
    rw [hx] at hz
    obtain ⟨v, hv, rv⟩ := h.get (show xs[m]? = some z from hz)
    exact ⟨v, hv, rv⟩
theorem opIxL : OpS K κ (rIxL K) gIxL := fun G H vx vy x y z Q hG rx ry e k => by
  cases rx with
  | lst hs ra =>
    cases ry with
    | int j =>
      obtain ⟨v, hv, rv⟩ := ra.atI e
      exact ⟨_, _, j, v, rfl, rfl, ex_l hG hs, hv, k v G H (.refl0 hG) rv⟩
    | _ => cases e
  | _ => cases e
theorem opIxT : OpS K κ (rIxT K) gIxT := fun G H vx vy x y z Q hG rx ry e k => by
  cases rx with
  | tup hs ra =>
    cases ry with
    | int j =>
      obtain ⟨v, hv, rv⟩ := ra.atI e
      exact ⟨_, _, j, v, rfl, rfl, ex_t hG hs.sq, hv, k v G H (.refl0 hG) rv⟩
    | _ => cases e
  | _ => cases e
def eIxL := eOp (K := K) (κ := κ) _ _ opIxL
def eIxT := eOp (K := K) (κ := κ) _ _ opIxT
/-- len of data -/
def gLen : List D → Option D
  | [.tup xs] => some (.int xs.length)
  | [.lst xs] => some (.int xs.length)
  | _ => none
def rLenD (K : PySem.W.Frag) : List V → Hp → VK → Prop := fun xs H Q => ∃ p ys, xs = [.ref p] ∧ (SqL K H p ys ∨ SqT K H p ys) ∧ Q (.int ys.length) H
theorem cbLen : CbS K κ (rLenD K) gLen := fun G H vs xs z Q hG r e k => by
  cases r with
  | nil => cases e
  | cons h t =>
    cases t with
    | nil =>
      cases h with
      | tup hs ra =>
        cases e
        refine ⟨_, _, rfl, .inr (ex_t hG hs.sq), ?_⟩
        rw [ra.length]
        exact k _ G H (.refl0 hG) (.int _)
      | lst hs ra =>
        cases e
        refine ⟨_, _, rfl, .inl (ex_l hG hs), ?_⟩
        rw [ra.length]
        exact k _ G H (.refl0 hG) (.int _)
      | _ => cases e
    | cons _ _ =>
      cases h <;> cases e
def eLen := eCB (K := K) (κ := κ) _ _ cbLen
/-- len(x) of the list that slot i owns, which it goes on owning -/
def eLenM (i : Nat) : SE K κ where
  te := fun _ => tCB (rLenD K) (tCons (tVar i) tNil)
  ev := fun ρ => match ρ[i]? with
    | some (some (.ml xs)) => .ok (.d (.int xs.length)) ρ
    | _ => .bad
  ok := fun Wx G H ρ σ L Q hG hE hN p => by
    dsimp only at p
    split at p
    · rename_i xs h
      obtain ⟨a, vs, h1, h2, h3, h4, _⟩ := hE.list hG hN h
      refine ⟨_, h1, a, vs, rfl, .inl (SqL.of h3), ?_⟩
      rw [h4.length]
      exact p.ret (.refl hG) hE hN (.int _)
    · exact p.elim
/-! ### what is walked -/
/-- J yields the data xs, from the known part G1 on -/
def Yl (K : PySem.W.Frag) (κ : Cls) (J : It) (G1 : Hp) (xs : List D) : Prop := ∀ (G' H' : Hp) (i : Nat), Ex G1 G' → Ex G' H' →
  (∀ x, xs[i]? = some x → J.go i H' ∧ ∀ v H'', J.yld i H' v H'' → ∃ G'', Stp G' H' [] G'' H'' [] ∧ Rp K κ G'' v x) ∧ (xs.length ≤ i → J.stop i H')
def SndI (K : PySem.W.Frag) (κ : Cls) (ti : WX → TI) (ev : Env → R Env (List D)) : Prop :=
  ∀ (Wx : WX) (G H : Hp) (ρ : Env) (σ : St) (L : List Addr) (Q : It → Hp → Prop), Ex G H → EnvR K κ G H ρ σ L → L.Nodup → Post K κ (fun G' _ xs J L => L = [] ∧ Yl K κ J G' xs) Wx σ G H L (ev ρ) Q → ti Wx σ H Q
structure SI (K : PySem.W.Frag) (κ : Cls) where
  ti : WX → TI
  ev : Env → R Env (List D)
  ok : SndI K κ ti ev
theorem yl_list {G : Hp} {a : Addr} {vs : List V} {xs : List D} (h : SqL K G a vs) (r : RpAll K κ G vs xs) : Yl K κ (Itl K a) G xs := fun G' H' i g gh =>
  ⟨fun x e => by
    obtain ⟨v, hv, rv⟩ := r.get e
    refine ⟨⟨vs, v, ex_l (g.trans gh) h, hv⟩, fun u H'' y => ?_⟩
    obtain ⟨rfl, y⟩ := y
    have := y vs (ex_l (g.trans gh) h)
    rw [hv] at this
    cases this
    exact ⟨G', .refl0 gh, rv.mono g⟩, fun n => ⟨vs, ex_l (g.trans gh) h, by rw [r.length]; exact n⟩⟩
theorem yl_tup {G : Hp} {a : Addr} {vs : List V} {xs : List D} (h : SqT K G a vs) (r : RpAll K κ G vs xs) : Yl K κ (Itt K a) G xs := fun G' H' i g gh =>
  ⟨fun x e => by
    obtain ⟨v, hv, rv⟩ := r.get e
    refine ⟨⟨vs, v, ex_t (g.trans gh) h, hv⟩, fun u H'' y => ?_⟩
    obtain ⟨rfl, y⟩ := y
    have := y vs (ex_t (g.trans gh) h)
    rw [hv] at this
    cases this
    exact ⟨G', .refl0 gh, rv.mono g⟩, fun n => ⟨vs, ex_t (g.trans gh) h, by rw [r.length]; exact n⟩⟩
theorem SndE.thenI {te : WX → TE} {ev : Env → R Env W} (s : SndE K κ te ev) {Wx : WX} {G H : Hp} {ρ : Env} {σ : St} {L : List Addr} {k : D → Env → R Env (List D)} {q : VK} {Q : It → Hp → Prop} (hG : Ex G H) (hE : EnvR K κ G H ρ σ L) (hN : L.Nodup) (p : Post K κ (fun G' _ xs J L => L = [] ∧ Yl K κ J G' xs) Wx σ G H L (R.bindD (ev ρ) k) Q)
    (go : ∀ x v ρ1 G1 H1 L1, Stp G H L G1 H1 L1 → EnvR K κ G1 H1 ρ1 σ L1 → L1.Nodup → Rp K κ G1 v x → Post K κ (fun G' _ xs J L => L = [] ∧ Yl K κ J G' xs) Wx σ G1 H1 L1 (k x ρ1) Q → q v H1) : te Wx σ H q := s.then hG hE hN p go
def iT (a : SE K κ) : SI K κ where
  ti := fun Wx => iTup K (a.te Wx)
  ev := fun ρ => (a.ev ρ).bindD fun x ρ => match x with
    | .tup xs => .ok xs ρ
    | _ => .bad
  ok := fun Wx G H ρ σ L Q hG hE hN p => a.ok.then hG hE hN p fun x vx ρ1 G1 H1 L1 u1 e1 n1 r1 p => by
    cases r1 with
    | tup hs ra => exact ⟨_, rfl, ⟨_, ex_t u1.gh hs.sq⟩, p _ G1 H1 [] L1 (.refl u1.gh) e1 ⟨rfl, yl_tup hs.sq ra⟩ n1⟩
    | _ => exact p.elim
def iL (a : SE K κ) : SI K κ where
  ti := fun Wx => iList K (a.te Wx)
  ev := fun ρ => (a.ev ρ).bindD fun x ρ => match x with
    | .lst xs => .ok xs ρ
    | _ => .bad
  ok := fun Wx G H ρ σ L Q hG hE hN p => a.ok.then hG hE hN p fun x vx ρ1 G1 H1 L1 u1 e1 n1 r1 p => by
    cases r1 with
    | lst hs ra => exact ⟨_, rfl, ⟨_, ex_l u1.gh hs⟩, p _ G1 H1 [] L1 (.refl u1.gh) e1 ⟨rfl, yl_list hs ra⟩ n1⟩
    | _ => exact p.elim
end
end Pv

set_option maxRecDepth 100000
set_option maxHeartbeats 2000000
namespace Pv
open PySem PySem.Spec PyProof.Rows L2
section
variable {K : PySem.W.Frag} {κ : Cls}
def nums (lo : Int) (n : Nat) : List D := (List.range n).map fun (i : Nat) => .int (lo + i)
theorem yl_range {G : Hp} {lo : Int} {n : Nat} : Yl K κ (Itr lo n) G (nums lo n) := fun G' H' i g gh =>
  ⟨fun x e => by
    unfold nums at e
    rw [List.getElem?_map] at e
    cases h : (List.range n)[i]? with
    | none => rw [h] at e; cases e
    | some j =>
      rw [h] at e
      obtain ⟨hi, ej⟩ := List.getElem?_eq_some_iff.mp h
      have hi' : i < n := by simpa using hi
      have : j = i := by rw [← ej]; simp
      subst this
      cases e
      refine ⟨hi', fun u H'' y => ?_⟩
      obtain ⟨rfl, rfl⟩ := y
      exact ⟨G', .refl0 gh, .int _⟩, fun h => by
    unfold nums at h
    exact (by simpa using h : n ≤ i)⟩
def iR1 (a : SE K κ) : SI K κ where
  ti := fun Wx => iRng1 (tCons (a.te Wx) tNil)
  ev := fun ρ => (a.ev ρ).bindD fun x ρ => match x with
    | .int n => if -(2 ^ 62) ≤ n ∧ n < 2 ^ 62 then .ok (nums 0 n.toNat) ρ else .bad
    | _ => .bad
  ok := fun Wx G H ρ σ L Q hG hE hN p => a.ok.then hG hE hN p fun x vx ρ1 G1 H1 L1 u1 e1 n1 r1 p => by
    cases r1 with
    | int n =>
      dsimp only at p
      split at p
      · rename_i h
        exact ⟨n, rfl, h.1, h.2, p _ G1 H1 [] L1 (.refl u1.gh) e1 ⟨rfl, yl_range⟩ n1⟩
      · exact p.elim
    | _ => exact p.elim
def iR2 (a b : SE K κ) : SI K κ where
  ti := fun Wx => iRng2 (tCons (a.te Wx) (tCons (b.te Wx) tNil))
  ev := fun ρ => (a.ev ρ).bindD fun x ρ => (b.ev ρ).bindD fun y ρ => match x, y with
    | .int m, .int n => if -(2 ^ 62) ≤ m ∧ m < 2 ^ 62 ∧ -(2 ^ 62) ≤ n ∧ n < 2 ^ 62 then .ok (nums m (n - m).toNat) ρ else .bad
    | _, _ => .bad
  ok := fun Wx G H ρ σ L Q hG hE hN p => a.ok.then hG hE hN p fun x vx ρ1 G1 H1 L1 u1 e1 n1 r1 p => b.ok.then u1.gh e1 n1 p fun y vy ρ2 G2 H2 L2 u2 e2 n2 r2 p => by
    cases r1 with
    | int m =>
      cases r2 with
      | int n =>
        dsimp only at p
        split at p
        · rename_i h
          exact ⟨m, n, rfl, h, p _ G2 H2 [] L2 (.refl u2.gh) e2 ⟨rfl, yl_range⟩ n2⟩
        · exact p.elim
      | _ => exact p.elim
    | _ => cases r2 <;> exact p.elim
/-! ### targets -/
structure SG (K : PySem.W.Frag) (κ : Cls) where
  tg : TG
  put : D → Env → Option Env
  asg : List Nat
  ok : ∀ (G H : Hp) (ρ ρ' : Env) (σ : St) (L : List Addr) (v : V) (x : D) (Q : St → Hp → Prop), Ex G H → EnvR K κ G H ρ σ L → L.Nodup → Rp K κ G v x → put x ρ = some ρ' →
    (∀ σ' L', EnvR K κ G H ρ' σ' L' → L'.Nodup → (∀ a ∈ L', a ∈ L) → Keep asg σ σ' → Q σ' H) → tg v σ H Q
def gN (i : Nat) : SG K κ where
  tg := gName i
  put := fun x ρ => if i < ρ.length then some (ρ.set i (some (.d x))) else none
  asg := [i]
  ok := fun G H ρ ρ' σ L v x Q hG hE hN r e k => by
    split at e
    · rename_i hi
      cases e
      obtain ⟨L', h1, h2, h3⟩ := hE.put (w := .d x) (v := v) (B := []) i ⟨rfl, r⟩ hN hi
      exact k _ L' h1 h2 (by simpa using h3) .set
    · cases e
structure SGs (K : PySem.W.Frag) (κ : Cls) where
  tg : TGs
  put : List D → Env → Option Env
  asg : List Nat
  ok : ∀ (G H : Hp) (ρ ρ' : Env) (σ : St) (L : List Addr) (vs : List V) (xs : List D) (Q : St → Hp → Prop), Ex G H → EnvR K κ G H ρ σ L → L.Nodup → RpAll K κ G vs xs → put xs ρ = some ρ' →
    (∀ σ' L', EnvR K κ G H ρ' σ' L' → L'.Nodup → (∀ a ∈ L', a ∈ L) → Keep asg σ σ' → Q σ' H) → tg vs σ H Q
def gs0 : SGs K κ where
  tg := gNil
  put := fun xs ρ => match xs with
    | [] => some ρ
    | _ => none
  asg := []
  ok := fun G H ρ ρ' σ L vs xs Q hG hE hN r e k => by
    cases r with
    | nil =>
      cases e
      exact ⟨rfl, k σ L hE hN (fun _ z => z) (.refl _ _)⟩
    | cons _ _ => cases e
def gs1 (g : SG K κ) (r : SGs K κ) : SGs K κ where
  tg := gCons g.tg r.tg
  put := fun xs ρ => match xs with
    | x :: xs => match g.put x ρ with
      | some ρ => r.put xs ρ
      | none => none
    | [] => none
  asg := g.asg ++ r.asg
  ok := fun G H ρ ρ' σ L vs xs Q hG hE hN rr e k => by
    cases rr with
    | nil => cases e
    | cons h t =>
      dsimp only at e
      split at e
      · rename_i ρ1 h1
        refine ⟨_, _, rfl, g.ok G H ρ ρ1 σ L _ _ _ hG hE hN h h1 fun σ1 L1 e1 n1 s1 k1 => ?_⟩
        exact r.ok G H ρ1 ρ' σ1 L1 _ _ Q hG e1 n1 t e fun σ2 L2 e2 n2 s2 k2 => k σ2 L2 e2 n2 (fun a z => s1 a (s2 a z)) (k1.trans k2)
      · cases e
def gT (n : Nat) (r : SGs K κ) : SG K κ where
  tg := gTup K n r.tg
  put := fun x ρ => match x with
    | .tup xs => if xs.length = n then r.put xs ρ else none
    | .tupW xs => if xs.length = n then r.put xs ρ else none
    | _ => none
  asg := r.asg
  ok := fun G H ρ ρ' σ L v x Q hG hE hN rr e k => by
    cases rr with
    | tup hs ra =>
      dsimp only at e
      split at e
      · rename_i hl
        exact ⟨_, _, rfl, ex_t hG hs.sq, by rw [ra.length]; exact hl, r.ok G H ρ ρ' σ L _ _ Q hG hE hN ra e k⟩
      · cases e
    | tupW hs ra =>
      dsimp only at e
      split at e
      · rename_i hl
        exact ⟨_, _, rfl, ex_t hG hs, by rw [ra.length]; exact hl, r.ok G H ρ ρ' σ L _ _ Q hG hE hN ra e k⟩
      · cases e
    | _ => cases e
/-- a, b = e -/
def sAsgG (g : SG K κ) (e : SE K κ) : SS K κ where
  ts := fun Wx => tAsg (e.te Wx) g.tg
  sv := fun ρ => (e.ev ρ).bindD fun x ρ => match g.put x ρ with
    | some ρ => .ok .nx ρ
    | none => .bad
  asg := g.asg
  ok := fun Wx G H ρ σ L E hG hE hN p => e.ok.thenS hG hE hN p fun x vx ρ1 G1 H1 L1 u1 e1 n1 r1 p => by
    split at p
    · rename_i ρ2 h
      exact g.ok G1 H1 ρ1 ρ2 σ L1 vx x _ u1.gh e1 n1 r1 h fun σ' L' e n s k => p σ' G1 H1 L' ((Stp.refl u1.gh).sub s) e n k
    · exact p.elim
/-! ### for -/
def loopS (put : D → Env → Option Env) (body : Env → R Env Flow) : List D → Env → R Env Flow
  | [], ρ => .ok .nx ρ
  | x :: xs, ρ => match put x ρ with
    | none => .bad
    | some ρ1 => match body ρ1 with
      | .ok .nx ρ2 => loopS put body xs ρ2
      | .ok .ct ρ2 => loopS put body xs ρ2
      | .ok .bk ρ2 => .ok .nx ρ2
      | .ok (.rt w) ρ2 => .ok (.rt w) ρ2
      | .exc c f ρ2 => .exc c f ρ2
      | .bad => .bad
def sFor (it : SI K κ) (g : SG K κ) (b : SS K κ) : SS K κ where
  ts := fun Wx => tFor (it.ti Wx) g.tg (b.ts Wx)
  sv := fun ρ => (it.ev ρ).bind fun xs ρ => loopS g.put b.sv xs ρ
  asg := g.asg ++ b.asg
  ok := fun Wx G H ρ σ L E hG hE hN p => by
    refine it.ok Wx G H ρ σ L _ hG hE hN ?_
    dsimp only at p
    cases hi : it.ev ρ with
    | exc c f ρ1 => rw [hi] at p; exact fun dd G' H' L' s e n x => p dd σ G' H' L' s e n (.refl _ _) x
    | bad => rw [hi] at p; exact p.elim
    | ok xs ρ1 =>
      rw [hi] at p
      intro J G1 H1 Lw L1 u e y nd
      obtain ⟨rfl, y⟩ := y
      have p1 : PostS K κ Wx σ (g.asg ++ b.asg) G1 H1 L1 (loopS g.put b.sv xs ρ1) E := p.step (a := []) u (.refl _ _) fun i z => z
      refine ⟨fun i m σ' H' => m = xs.length - i ∧ i ≤ xs.length ∧ ∃ G' L' ρ', Ex G1 G' ∧ Ex G' H' ∧ EnvR K κ G' H' ρ' σ' L' ∧ L'.Nodup ∧ PostS K κ Wx σ' (g.asg ++ b.asg) G' H' L' (loopS g.put b.sv (xs.drop i) ρ') E, ⟨xs.length, by simp, Nat.zero_le _, G1, L1, ρ1, Evl.Ex.refl _, u.gh, e, nd, p1⟩, ?_⟩
      rintro i m σ' H' ⟨rfl, hle, G', L', ρ', g1, gh, e', n', p'⟩
      have yy := y G' H' i g1 gh
      by_cases hlt : i < xs.length
      · have hx : xs[i]? = some xs[i] := List.getElem?_eq_getElem hlt
        obtain ⟨go, yd⟩ := yy.1 _ hx
        have hd : xs.drop i = xs[i] :: xs.drop (i + 1) := List.drop_eq_getElem_cons hlt
        rw [hd] at p'
        refine .inr ⟨go, fun σ2 H2 => ∃ G2 L2 ρ2, Ex G1 G2 ∧ Ex G2 H2 ∧ EnvR K κ G2 H2 ρ2 σ2 L2 ∧ L2.Nodup ∧ PostS K κ Wx σ2 (g.asg ++ b.asg) G2 H2 L2 (loopS g.put b.sv (xs.drop (i + 1)) ρ2) E, fun σ2 H2 z => ⟨xs.length - (i + 1), by omega, rfl, by omega, z⟩, fun v H'' hy => ?_⟩
        obtain ⟨G'', st, rv⟩ := yd v H'' hy
        have e'' := e'.grow st
        have g'' := g1.trans st.g
        simp only [loopS] at p'
        cases hp : g.put xs[i] ρ' with
        | none => rw [hp] at p'; exact p'.elim
        | some ρ2 =>
          rw [hp] at p'
          refine g.ok G'' H'' ρ' ρ2 σ' L' v _ _ st.gh e'' n' rv hp fun σ2 L2 e2 n2 s2 k2 => ?_
          have st2 : Stp G' H' L' G'' H'' L2 := st.wide (fun _ z => nomatch z) fun a z => .inr (s2 a z)
          dsimp only at p'
          refine b.ok Wx G'' H'' ρ2 σ2 L2 _ st.gh e2 n2 ?_
          cases hb : b.sv ρ2 with
          | bad => rw [hb] at p'; exact p'.elim
          | exc c f ρ3 =>
            rw [hb] at p'
            exact fun dd σ3 G3 H3 L3 s3 e3 n3 k3 x => p' dd σ3 G3 H3 L3 (st2.trans s3) e3 n3 (k2.trans k3) x
          | ok f ρ3 =>
            rw [hb] at p'
            cases f with
            | nx => exact fun σ3 G3 H3 L3 s3 e3 n3 k3 => ⟨G3, L3, ρ3, g''.trans s3.g, s3.gh, e3, n3, p'.step (st2.trans s3) (k2.trans k3) fun j z => (List.mem_append.mp z).elim (fun z => z) fun z => z⟩
            | ct => exact fun σ3 G3 H3 L3 s3 e3 n3 k3 => ⟨G3, L3, ρ3, g''.trans s3.g, s3.gh, e3, n3, p'.step (st2.trans s3) (k2.trans k3) fun j z => (List.mem_append.mp z).elim (fun z => z) fun z => z⟩
            | bk => exact fun σ3 G3 H3 L3 s3 e3 n3 k3 => p' σ3 G3 H3 L3 (st2.trans s3) e3 n3 (k2.trans k3)
            | rt w => exact fun v3 σ3 G3 H3 Lw L3 s3 e3 r3 n3 k3 => p' v3 σ3 G3 H3 Lw L3 (st2.trans s3) e3 r3 n3 (k2.trans k3)
      · have hi' : i = xs.length := by omega
        subst hi'
        rw [List.drop_length] at p'
        exact .inl ⟨yy.2 (Nat.le_refl _), p' σ' G' H' L' (.refl gh) e' n' (.refl _ _)⟩
/-! ### [e for x in xs if t] -/
def wipeE (ρ : Env) : List Nat → Env
  | [] => ρ
  | v :: vs => (wipeE ρ vs).set v none
theorem wipe_ok {G H : Hp} {ρ : Env} {σ : St} : ∀ {vs : List Nat} {L : List Addr}, EnvR K κ G H ρ σ L → L.Nodup → ∃ L', EnvR K κ G H (wipeE ρ vs) (wipe σ vs) L' ∧ L'.Nodup ∧ ∀ a ∈ L', a ∈ L
  | [], L, r, n => ⟨L, r, n, fun _ z => z⟩
  | v :: vs, L, r, n => by
    obtain ⟨L1, h1, h2, h3⟩ := wipe_ok (vs := vs) r n
    obtain ⟨L2, k1, k2, k3⟩ := h1.forget v none h2
    exact ⟨L2, k1, k2, fun a z => h3 a (k3 a z)⟩
theorem wipe_none {σ : St} : ∀ {vs : List Nat} {i : Nat}, i ∈ vs → (wipe σ vs)[i]? = none ∨ (wipe σ vs)[i]? = some none
  | v :: vs, i, h => by
    show ((wipe σ vs).set v none)[i]? = none ∨ ((wipe σ vs).set v none)[i]? = some none
    rw [List.getElem?_set]
    by_cases e : v = i
    · rw [if_pos e]
      split
      · exact .inr rfl
      · exact .inl rfl
    · rw [if_neg e]
      rcases List.mem_cons.mp h with z | z
      · exact absurd z.symm e
      · exact wipe_none z
theorem wipe_ne {σ : St} : ∀ {vs : List Nat} {i : Nat}, i ∉ vs → (wipe σ vs)[i]? = σ[i]?
  | [], _, _ => rfl
  | v :: vs, i, h => by
    show ((wipe σ vs).set v none)[i]? = _
    rw [List.getElem?_set_ne (fun z => h (by simp [z]))]
    exact wipe_ne fun z => h (List.mem_cons_of_mem _ z)
/-- slots of vs alone differ -/
theorem wipe_keep {σ σ2 : St} {vs : List Nat} (hl : σ2.length = σ.length) (k : ∀ i, i ∉ vs → σ2[i]? = (wipe σ vs)[i]?) : wipe σ2 vs = wipe σ vs := by
  apply List.ext_getElem?
  intro i
  by_cases h : i ∈ vs
  · have l2 : (wipe σ2 vs).length = (wipe σ vs).length := by rw [wipe_length, wipe_length, hl]
    rcases wipe_none (σ := σ2) h with a | a <;> rcases wipe_none (σ := σ) h with b | b
    · rw [a, b]
    · have h1 := List.getElem?_eq_none_iff.mp a
      have h2 := (List.getElem?_eq_some_iff.mp b).1
      omega
    · have h1 := List.getElem?_eq_none_iff.mp b
      have h2 := (List.getElem?_eq_some_iff.mp a).1
      omega
    · rw [a, b]
  · rw [wipe_ne h, k i h]
def loopC (vs : List Nat) (put : D → Env → Option Env) (t : Env → R Env Bool) (e : Env → R Env W) : List D → Env → List D → R Env (List D)
  | [], ρ, acc => .ok acc ρ
  | x :: xs, ρ, acc => match put x ρ with
    | none => .bad
    | some ρ1 => match t ρ1 with
      | .ok true ρ2 => match e ρ2 with
        | .ok (.d y) ρ3 => if acc.length < 1000000 then loopC vs put t e xs (wipeE ρ3 vs) (acc ++ [y]) else .bad
        | _ => .bad
      | .ok false ρ2 => loopC vs put t e xs (wipeE ρ2 vs) acc
      | _ => .bad
def unwE : Env → List Nat → Env
  | ρ, [] => ρ
  | ρ, v :: vs => unwE (ρ.set v none) vs
theorem unw_ok {G H : Hp} {σ : St} : ∀ {vs : List Nat} {ρ : Env} {L : List Addr}, EnvR K κ G H ρ (wipe σ vs) L → L.Nodup → ∃ L', EnvR K κ G H (unwE ρ vs) σ L' ∧ L'.Nodup ∧ ∀ a ∈ L', a ∈ L
  | [], ρ, L, r, n => ⟨L, r, n, fun _ z => z⟩
  | v :: vs, ρ, L, r, n => by
    have r : EnvR K κ G H ρ ((wipe σ vs).set v none) L := r
    have key : ∃ L1, EnvR K κ G H (ρ.set v none) (wipe σ vs) L1 ∧ L1.Nodup ∧ ∀ a ∈ L1, a ∈ L := by
      cases h : (wipe σ vs)[v]? with
      | none =>
        obtain ⟨L1, h1, h2, h3⟩ := r.forget v none n
        have e : ((wipe σ vs).set v none).set v none = wipe σ vs := by
          have hl := List.getElem?_eq_none_iff.mp h
          rw [List.set_set, List.set_eq_of_length_le hl]
        rw [e] at h1
        exact ⟨L1, h1, h2, h3⟩
      | some u =>
        obtain ⟨L1, h1, h2, h3⟩ := r.forget v u n
        have e : ((wipe σ vs).set v none).set v u = wipe σ vs := by
          obtain ⟨hl, e1⟩ := List.getElem?_eq_some_iff.mp h
          rw [List.set_set, ← e1]
          exact List.set_getElem_self hl
        rw [e] at h1
        exact ⟨L1, h1, h2, h3⟩
    obtain ⟨L1, h1, h2, h3⟩ := key
    obtain ⟨L2, k1, k2, k3⟩ := unw_ok (vs := vs) h1 h2
    exact ⟨L2, k1, k2, fun a z => h3 a (k3 a z)⟩
/-- the block's own names are forgotten behind it -/
def evLc (it : Env → R Env (List D)) (put : D → Env → Option Env) (t : Env → R Env Bool) (e : Env → R Env W) (vs : List Nat) : Env → R Env (List D) := fun ρ =>
  (it ρ).bind fun xs ρ => (loopC vs put t e xs (wipeE ρ vs) []).bind fun ys ρ => .ok ys (unwE ρ vs)
abbrev W0 : WX := fun _ _ _ _ => False
theorem loopC_noexc {vs : List Nat} {put : D → Env → Option Env} {t : Env → R Env Bool} {e : Env → R Env W} : ∀ {xs : List D} {ρ : Env} {acc : List D} {c : Nat} {f : Option D} {ρ' : Env}, loopC vs put t e xs ρ acc ≠ .exc c f ρ'
  | [], _, _, _, _, _, h => by cases h
  | x :: xs, ρ, acc, c, f, ρ', h => by
    simp only [loopC] at h
    split at h
    · cases h
    · split at h
      · split at h
        · split at h
          · exact loopC_noexc h
          · cases h
        · cases h
      · exact loopC_noexc h
      · cases h
/-- the core: a new list at D, data of it in hand, no one else's -/
theorem lc_ok {it : SI K κ} {g : SG K κ} {t : ST K κ} {e : SE K κ} {vs : List Nat} (hv : ∀ i ∈ g.asg, i ∈ vs) {Wx : WX} {G H : Hp} {ρ : Env} {σ : St} {L : List Addr} {Q : VK} (hG : Ex G H) (hE : EnvR K κ G H ρ σ L) (hN : L.Nodup)
    (hne : ∀ c f ρ', it.ev ρ = .exc c f ρ' → ∀ dd G' H' L', Stp G H L G' H' L' → EnvR K κ G' H' ρ' σ L' → L'.Nodup → ExF K κ G' c f dd → Wx (.ref (κ.at_ c)) dd σ H') (hnb : evLc it.ev g.put t.ev e.ev vs ρ ≠ .bad)
    (k : ∀ ys ρ' a us G' H' L', evLc it.ev g.put t.ev e.ev vs ρ = .ok ys ρ' → Stp G H L G' H' ([a] ++ L') → EnvR K κ G' H' ρ' σ L' → ([a] ++ L').Nodup → G' a = none → H' a = some (.lst us) → RpAll K κ G' us ys → Q (.ref a) H') :
    tLc (it.ti Wx) g.tg (t.tt W0) (e.te W0) vs σ H Q := by
  refine it.ok Wx G H ρ σ L _ hG hE hN ?_
  unfold evLc at hnb k
  cases hi : it.ev ρ with
  | exc c f ρ1 => exact hne c f ρ1 hi
  | bad => rw [hi] at hnb; exact absurd rfl hnb
  | ok xs ρ1 =>
    rw [hi] at hnb k
    intro J G1 H1 Lw L1 u e1 y nd
    obtain ⟨rfl, y⟩ := y
    have nd : L1.Nodup := nd
    have u : Stp G H L G1 H1 L1 := u
    intro D hD
    obtain ⟨Lw, w1, w2, w3⟩ := wipe_ok (vs := vs) e1 nd
    have ndD : ([D] ++ Lw).Nodup := own_nodup hD w1 w2
    simp only [R.bind_ok] at hnb k
    refine ⟨fun i m H' => m = xs.length - i ∧ i ≤ xs.length ∧ ∃ G' L' ρ' us acc, Ex G1 G' ∧ Stp G H L G' H' ([D] ++ L') ∧ EnvR K κ G' H' ρ' (wipe σ vs) L' ∧ ([D] ++ L').Nodup ∧ G' D = none ∧ H' D = some (.lst us) ∧ RpAll K κ G' us acc ∧ loopC vs g.put t.ev e.ev xs (wipeE ρ1 vs) [] = loopC vs g.put t.ev e.ev (xs.drop i) ρ' acc,
      ⟨xs.length, by simp, Nat.zero_le _, G1, Lw, wipeE ρ1 vs, [], [], Evl.Ex.refl _, u.trans ((Stp.own u.gh hD).sub fun a z => ?_), w1.ownNew hD, ndD, fresh u.gh hD, upd_same, .nil, by simp⟩, ?_⟩
    · rcases List.mem_append.mp z with z | z
      · exact List.mem_append_left _ z
      · exact List.mem_append_right _ (w3 a z)
    rintro i m H' ⟨rfl, hle, G', L', ρ', us, acc, g1, st, e', n', gD, hD', ra, eq⟩
    have yy := y G' H' i g1 st.gh
    have nda := List.nodup_append.mp n'
    by_cases hlt : i < xs.length
    · have hx : xs[i]? = some xs[i] := List.getElem?_eq_getElem hlt
      obtain ⟨go, yd⟩ := yy.1 _ hx
      have hd : xs.drop i = xs[i] :: xs.drop (i + 1) := List.drop_eq_getElem_cons hlt
      rw [hd] at eq
      refine .inr ⟨go, fun H2 => ∃ G2 L2 ρ2 us acc, Ex G1 G2 ∧ Stp G H L G2 H2 ([D] ++ L2) ∧ EnvR K κ G2 H2 ρ2 (wipe σ vs) L2 ∧ ([D] ++ L2).Nodup ∧ G2 D = none ∧ H2 D = some (.lst us) ∧ RpAll K κ G2 us acc ∧ loopC vs g.put t.ev e.ev xs (wipeE ρ1 vs) [] = loopC vs g.put t.ev e.ev (xs.drop (i + 1)) ρ2 acc, fun H2 z => ⟨xs.length - (i + 1), by omega, rfl, by omega, z⟩, fun v H'' hy => ?_⟩
      obtain ⟨G'', s1, rv⟩ := yd v H'' hy
      have e'' := e'.grow s1
      have st1 : Stp G H L G'' H'' ([D] ++ L') := st.trans s1.grow
      have gD1 : G'' D = none := s1.gn D (by rw [hD']; exact Option.some_ne_none _) (fun z => nomatch z) gD
      have hD1 : H'' D = some (.lst us) := s1.h D _ hD' fun z => nomatch z
      have ra1 := ra.mono s1.g
      simp only [loopC] at eq
      cases hp : g.put xs[i] ρ' with
      | none => rw [hp] at eq; rw [eq] at hnb; exact absurd rfl hnb
      | some ρ2 =>
        rw [hp] at eq
        refine g.ok G'' H'' ρ' ρ2 _ L' v _ _ s1.gh e'' nda.2.1 rv hp fun σ2 L2 e2 n2 s2 k2 => ?_
        have len2 : σ2.length = σ.length := k2.1.trans (wipe_length σ vs)
        have wk : wipe σ2 vs = wipe σ vs := wipe_keep len2 fun j nj => k2.2 j fun z => nj (hv j z)
        refine ⟨wk, ?_⟩
        have st2 : Stp G H L G'' H'' ([D] ++ L2) := st1.sub fun a z => by
          rcases List.mem_append.mp z with z | z
          · exact List.mem_append_left _ z
          · exact List.mem_append_right _ (s2 a z)
        have nD2 : D ∉ L2 := fun z => nda.2.2 D (by simp) D (s2 D z) rfl
        dsimp only at eq
        refine t.ok W0 G'' H'' ρ2 σ2 L2 _ s1.gh e2 n2 ?_
        cases ht : t.ev ρ2 with
        | exc c f ρ3 => rw [ht] at eq; rw [eq] at hnb; exact absurd rfl hnb
        | bad => rw [ht] at eq; rw [eq] at hnb; exact absurd rfl hnb
        | ok b ρ3 =>
          rw [ht] at eq
          intro b' G3 H3 Lx L3 s3 e3 rb n3
          obtain ⟨rfl, rfl⟩ := rb
          have s3 : Stp G'' H'' L2 G3 H3 L3 := s3
          have n3 : L3.Nodup := n3
          have nD3 : D ∉ L3 := fun z => (s3.ln D z).elim nD2 fun q => by rw [hD1] at q; cases q
          have st3 : Stp G H L G3 H3 ([D] ++ L3) := st2.trans (s3.wide (fun a z => List.mem_append_right _ z) fun a z => by
            rcases List.mem_append.mp z with z | z
            · exact .inr (List.mem_append_left _ z)
            · exact .inl z)
          have gD3 : G3 D = none := s3.gn D (by rw [hD1]; exact Option.some_ne_none _) nD2 gD1
          have hD3 : H3 D = some (.lst us) := s3.h D _ hD1 nD2
          have ra3 := ra1.mono s3.g
          cases b with
          | false =>
            rw [if_neg Bool.false_ne_true]
            dsimp only at eq
            obtain ⟨L4, w1, w2, w3⟩ := wipe_ok (vs := vs) e3 n3
            rw [wk] at w1
            refine ⟨G3, L4, wipeE ρ3 vs, us, acc, g1.trans (s1.g.trans s3.g), st3.sub fun a z => ?_, w1, List.nodup_append.mpr ⟨by simp, w2, fun a x b y z => ?_⟩, gD3, hD3, ra3, eq⟩
            · rcases List.mem_append.mp z with z | z
              · exact List.mem_append_left _ z
              · exact List.mem_append_right _ (w3 a z)
            · simp only [List.mem_singleton] at x
              subst x z
              exact nD3 (w3 _ y)
          | true =>
            rw [if_pos rfl]
            dsimp only at eq
            refine e.ok W0 G3 H3 ρ3 σ2 L3 _ s3.gh e3 n3 ?_
            cases he : e.ev ρ3 with
            | exc c f ρ4 => rw [he] at eq; rw [eq] at hnb; exact absurd rfl hnb
            | bad => rw [he] at eq; rw [eq] at hnb; exact absurd rfl hnb
            | ok w ρ4 =>
              rw [he] at eq
              cases w with
              | ml _ => rw [eq] at hnb; exact absurd rfl hnb
              | md _ => rw [eq] at hnb; exact absurd rfl hnb
              | mm _ => rw [eq] at hnb; exact absurd rfl hnb
              | d yy' =>
                dsimp only at eq
                by_cases hz : acc.length < 1000000
                · rw [if_pos hz] at eq
                  intro v4 G4 H4 Lx L4 s4 e4 r4 n4
                  obtain ⟨rfl, r4⟩ := r4
                  have s4 : Stp G3 H3 L3 G4 H4 L4 := s4
                  have n4 : L4.Nodup := n4
                  have nD4 : D ∉ L4 := fun z => (s4.ln D z).elim nD3 fun q => by rw [hD3] at q; cases q
                  have st4 : Stp G H L G4 H4 ([D] ++ L4) := st3.trans (s4.wide (fun a z => List.mem_append_right _ z) fun a z => by
                    rcases List.mem_append.mp z with z | z
                    · exact .inr (List.mem_append_left _ z)
                    · exact .inl z)
                  have gD4 : G4 D = none := s4.gn D (by rw [hD3]; exact Option.some_ne_none _) nD3 gD3
                  have hD4 : H4 D = some (.lst us) := s4.h D _ hD3 nD3
                  have ra4 := (ra3.mono s4.g).append (.cons r4 .nil)
                  have hl := ra.length
                  refine ⟨us, hD4, Nat.lt_of_lt_of_le (by omega : us.length < 1000000) (by decide), ?_⟩
                  obtain ⟨L5, w1, w2, w3⟩ := wipe_ok (vs := vs) e4 n4
                  rw [wk] at w1
                  have nD5 : D ∉ L5 := fun z => nD4 (w3 D z)
                  have s5 : Stp G4 H4 ([D] ++ L4) G4 (upd H4 D (.lst (us ++ [v4]))) ([D] ++ L5) := by
                    refine ⟨Evl.Ex.refl _, fun b o q n => ?_, fun b q => ?_, fun _ _ _ q => q, fun b z => ?_, fun b o q => ?_⟩
                    · rw [upd_ne (fun z => n (by simp [z]))]; exact q
                    · by_cases z : b = D
                      · rw [z, upd_same] at q; cases q
                      · rw [upd_ne z] at q; exact q
                    · rcases List.mem_append.mp z with z | z
                      · exact .inl (List.mem_append_left _ z)
                      · exact .inl (List.mem_append_right _ (w3 b z))
                    · have z : b ≠ D := fun z => by rw [z, gD4] at q; cases q
                      rw [upd_ne z]; exact s4.gh b o q
                  refine ⟨G4, L5, wipeE ρ4 vs, us ++ [v4], acc ++ [yy'], g1.trans (s1.g.trans (s3.g.trans s4.g)), st4.trans s5, w1.keep (Evl.Ex.refl _) (fun a z => (w1.there a z).2) (fun a z o q => ?_), List.nodup_append.mpr ⟨by simp, w2, fun a x b y z => ?_⟩, gD4, upd_same, ra4, eq⟩
                  · rw [upd_ne (fun q => nD5 (by rw [← q]; exact z))]; exact q
                  · simp only [List.mem_singleton] at x
                    subst x z
                    exact nD5 y
                · rw [if_neg hz] at eq
                  rw [eq] at hnb
                  exact absurd rfl hnb
    · have hi' : i = xs.length := by omega
      subst hi'
      rw [List.drop_length] at eq
      refine .inl ⟨yy.2 (Nat.le_refl _), ?_⟩
      have eq' : loopC vs g.put t.ev e.ev xs (wipeE ρ1 vs) [] = .ok acc ρ' := eq
      rw [eq'] at k
      obtain ⟨L2, k1, k2, k3⟩ := unw_ok e' nda.2.1
      refine k acc (unwE ρ' vs) D us G' H' L2 rfl (st.sub fun a z => ?_) k1 (List.nodup_append.mpr ⟨nda.1, k2, fun a x b y => nda.2.2 a x b (k3 b y)⟩) gD hD' ra
      rcases List.mem_append.mp z with z | z
      · exact List.mem_append_left _ z
      · exact List.mem_append_right _ (k3 a z)
end
end Pv

set_option maxRecDepth 100000
set_option maxHeartbeats 2000000
namespace Pv
open PySem PySem.Spec PyProof.Rows L2
section
variable {K : PySem.W.Frag} {κ : Cls}
theorem evLc_exc {it : Env → R Env (List D)} {put : D → Env → Option Env} {t : Env → R Env Bool} {e : Env → R Env W} {vs : List Nat} {ρ ρ' : Env} {c : Nat} {f : Option D} (h : evLc it put t e vs ρ = .exc c f ρ') : it ρ = .exc c f ρ' := by
  unfold evLc at h
  cases hi : it ρ with
  | exc c' f' ρ1 => rw [hi] at h; cases h; rfl
  | bad => rw [hi] at h; cases h
  | ok xs ρ1 =>
    rw [hi] at h
    simp only [R.bind_ok] at h
    cases hl : loopC vs put t e xs (wipeE ρ1 vs) [] with
    | exc c' f' ρ2 => exact absurd hl loopC_noexc
    | bad => rw [hl] at h; cases h
    | ok ys ρ2 => rw [hl] at h; cases h
theorem evLc_of {it : Env → R Env (List D)} {put : D → Env → Option Env} {t : Env → R Env Bool} {e : Env → R Env W} {vs : List Nat} {ρ ρ' : Env} {c : Nat} {f : Option D} (h : it ρ = .exc c f ρ') : evLc it put t e vs ρ = .exc c f ρ' := by
  unfold evLc
  rw [h]
  rfl
/-- [e for x in xs if t], never changed -/
def eLc (it : SI K κ) (g : SG K κ) (t : ST K κ) (e : SE K κ) (vs : List Nat) (hv : ∀ i ∈ g.asg, i ∈ vs) : SE K κ where
  te := fun Wx => tLc (it.ti Wx) g.tg (t.tt W0) (e.te W0) vs
  ev := fun ρ => (evLc it.ev g.put t.ev e.ev vs ρ).bind fun ys ρ => .ok (.d (.lst ys)) ρ
  ok := fun Wx G H ρ σ L Q hG hE hN p => by
    dsimp only at p
    refine lc_ok hv hG hE hN (fun c f ρ' h => ?_) (fun h => ?_) fun ys ρ' a us G' H' L' h st en nd ga ha ra => ?_
    · rw [evLc_of h] at p; exact p
    · rw [h] at p; exact p
    · rw [h] at p
      have nda := List.nodup_append.mp nd
      have na : ∀ b ∈ L', b ≠ a := fun b z q => nda.2.2 a (by simp) b z q.symm
      refine p (.ref a) (upd G' a (.lst us)) H' [] L' ⟨st.g.trans (Evl.Ex.new ga), st.h, st.t, fun b q n z => ?_, fun b z => st.ln b (List.mem_append_right _ z), fun b o q => ?_⟩ (en.keep (Evl.Ex.new ga) (fun b z => ?_) fun _ _ _ q => q) ⟨rfl, .lst (SqL.of upd_same) (ra.mono (Evl.Ex.new ga))⟩ nda.2.1
      · have : b ≠ a := fun w => by
          subst w
          rcases st.ln b (by simp) with r | r
          · exact n r
          · exact q r
        rw [upd_ne this]; exact st.gn b q n z
      · by_cases w : b = a
        · rw [w, upd_same] at q
          rw [w, ha]; exact q
        · rw [upd_ne w] at q; exact st.gh b o q
      · rw [upd_ne (na b z)]; exact (en.there b z).2
def eLcM (it : SI K κ) (g : SG K κ) (t : ST K κ) (e : SE K κ) (vs : List Nat) (hv : ∀ i ∈ g.asg, i ∈ vs) : SE K κ where
  te := fun Wx => tLc (it.ti Wx) g.tg (t.tt W0) (e.te W0) vs
  ev := fun ρ => (evLc it.ev g.put t.ev e.ev vs ρ).bind fun ys ρ => .ok (.ml ys) ρ
  ok := fun Wx G H ρ σ L Q hG hE hN p => by
    dsimp only at p
    refine lc_ok hv hG hE hN (fun c f ρ' h => ?_) (fun h => ?_) fun ys ρ' a us G' H' L' h st en nd ga ha ra => ?_
    · rw [evLc_of h] at p; exact p
    · rw [h] at p; exact p
    · rw [h] at p
      exact p (.ref a) G' H' [a] L' st en ⟨a, us, rfl, rfl, ga, ha, ra⟩ nd
def tYes' : ST K κ where
  tt := fun _ => tYes
  ev := fun ρ => .ok true ρ
  ok := fun Wx G H ρ σ L Q hG hE hN p => p true G H [] L (.refl hG) hE ⟨rfl, rfl⟩ hN
/-! ### built-ins -/
def gMax2 : List D → Option D
  | [.int m, .int n] => some (.int (if n > m then n else m))
  | _ => none
def gMin2 : List D → Option D
  | [.int m, .int n] => some (.int (if n < m then n else m))
  | _ => none
def rMax2 : List V → Hp → VK → Prop := fun xs H Q => ∃ i j, xs = [.int i, .int j] ∧ Q (.int (if j > i then j else i)) H
def rMin2 : List V → Hp → VK → Prop := fun xs H Q => ∃ i j, xs = [.int i, .int j] ∧ Q (.int (if j < i then j else i)) H
theorem cb2I {r : List V → Hp → VK → Prop} {f : Int → Int → Int} {g : List D → Option D} (hr : ∀ i j H Q, Q (.int (f i j)) H → r [.int i, .int j] H Q) (hg : ∀ xs z, g xs = some z → ∃ i j, xs = [.int i, .int j] ∧ z = .int (f i j)) : CbS K κ r g := fun G H vs xs z Q hG ra e k => by
  obtain ⟨i, j, rfl, rfl⟩ := hg xs z e
  cases ra with
  | cons h t =>
    cases h
    cases t with
    | cons h t =>
      cases h
      cases t
      exact hr i j H Q (k _ G H (.refl0 hG) (.int _))
theorem cbMax2 : CbS K κ rMax2 gMax2 := cb2I (f := fun i j => if j > i then j else i) (fun i j H Q q => ⟨i, j, rfl, q⟩) fun xs z e => by
  unfold gMax2 at e
  split at e
  · cases e; exact ⟨_, _, rfl, rfl⟩
  · cases e
theorem cbMin2 : CbS K κ rMin2 gMin2 := cb2I (f := fun i j => if j < i then j else i) (fun i j H Q q => ⟨i, j, rfl, q⟩) fun xs z e => by
  unfold gMin2 at e
  split at e
  · cases e; exact ⟨_, _, rfl, rfl⟩
  · cases e
def eMax2 := eCB (K := K) (κ := κ) _ _ cbMax2
def eMin2 := eCB (K := K) (κ := κ) _ _ cbMin2
/-- all(xs), any(xs) of truths -/
def bools : List D → Option (List Bool)
  | [] => some []
  | .bl b :: xs => match bools xs with
    | some bs => some (b :: bs)
    | none => none
  | _ :: _ => none
theorem bools_ok {G : Hp} : ∀ {vs : List V} {xs : List D} {bs : List Bool}, RpAll K κ G vs xs → bools xs = some bs → vs = bs.map V.bl
  | _, _, bs, .nil, e => by cases e; rfl
  | _, _, bs, .cons (x := x) h t, e => by
    cases h with
    | bl b =>
      simp only [bools] at e
      split at e
      · rename_i cs hc
        cases e
        rw [bools_ok t hc]
        rfl
      · cases e
    | _ => cases e
def gAll : List D → Option D
  | [.lst xs] => match bools xs with
    | some bs => some (.bl (bs.all id))
    | none => none
  | _ => none
def gAny : List D → Option D
  | [.lst xs] => match bools xs with
    | some bs => some (.bl (bs.any id))
    | none => none
  | _ => none
theorem cbAll : CbS K κ (rAll K) gAll := fun G H vs xs z Q hG ra e k => by
  unfold gAll at e
  split at e
  · rename_i ys
    split at e
    · rename_i bs hb
      cases e
      cases ra with
      | cons h t =>
        cases t
        cases h with
        | lst hs rs =>
          have := bools_ok rs hb
          subst this
          exact ⟨_, bs, rfl, ex_l hG hs, k _ G H (.refl0 hG) (.bl _)⟩
    · cases e
  · cases e
theorem cbAny : CbS K κ (rAny K) gAny := fun G H vs xs z Q hG ra e k => by
  unfold gAny at e
  split at e
  · rename_i ys
    split at e
    · rename_i bs hb
      cases e
      cases ra with
      | cons h t =>
        cases t
        cases h with
        | lst hs rs =>
          have := bools_ok rs hb
          subst this
          exact ⟨_, bs, rfl, ex_l hG hs, k _ G H (.refl0 hG) (.bl _)⟩
    · cases e
  · cases e
def eAll := eCB (K := K) (κ := κ) _ _ cbAll
def eAny := eCB (K := K) (κ := κ) _ _ cbAny
def numsOf : List D → Option (List Int)
  | [] => some []
  | .int i :: xs => match numsOf xs with
    | some is => some (i :: is)
    | none => none
  | _ :: _ => none
theorem numsOf_ok {G : Hp} : ∀ {vs : List V} {xs : List D} {is : List Int}, RpAll K κ G vs xs → numsOf xs = some is → vs = is.map V.int
  | _, _, bs, .nil, e => by cases e; rfl
  | _, _, bs, .cons (x := x) h t, e => by
    cases h with
    | int b =>
      simp only [numsOf] at e
      split at e
      · rename_i cs hc
        cases e
        rw [numsOf_ok t hc]
        rfl
      · cases e
    | _ => cases e
def gSum : List D → Option D
  | [.lst xs] => match numsOf xs with
    | some is => some (.int is.sum)
    | none => none
  | _ => none
theorem cbSum : CbS K κ (rSum K) gSum := fun G H vs xs z Q hG ra e k => by
  unfold gSum at e
  split at e
  · rename_i ys
    split at e
    · rename_i is hb
      cases e
      cases ra with
      | cons h t =>
        cases t
        cases h with
        | lst hs rs =>
          have := numsOf_ok rs hb
          subst this
          exact ⟨_, is, rfl, ex_l hG hs, k _ G H (.refl0 hG) (.int _)⟩
    · cases e
  · cases e
def eSum := eCB (K := K) (κ := κ) _ _ cbSum
end

/-! ### a def of the text -/
section
variable {P : Program} {w : World} {K : PySem.W.Frag} {κ : Cls} {mg : Str → Option Value} {base : Heap}
/-- f is a def of the text that does what the function does -/
abbrev FnD (P : Program) (w : World) (K : PySem.W.Frag) (κ : Cls) (mg : Str → Option Value) (base : Heap) (k : Nat) (f : Addr) (fd : FuncData) (ps : List Str) (F : Fn) : Prop := FnOk P w K mg base (L2.CX P w) k f fd ps (spF K κ ps.length F)
theorem fnd_of {x qual : Str} {st : Stmt} {f : Addr} {fd : FuncData} {N ps : List Str} {k : Nat} {b : SS K κ} (F : Fun K x qual st f fd) (S : FnScope N ps (defScope st)) (hn : ps.length ≤ N.length)
    (h : ∀ (cdv : Value) (A : Around) (outer : List PySem.Env) (s : Shared) (H : Hp) (E : XK) (Wx : WX), Room k (A.deeper (envOfC qual (defScope st) s.heap.objs.size f cdv)) → Takes (cxOf (L2.CX P w) P w K mg base N qual (defScope st) f cdv A outer s H E) Wx →
      ∃ t, PSs (cxOf (L2.CX P w) P w K mg base N qual (defScope st) f cdv A outer s H E) (defBody st) t ∧ t = b.ts Wx) :
    FnD P w K κ mg base (k + 1) f fd ps (fnOf N.length b.asg b.sv) := by
  refine F.okX S (fun vs H Q E h => ?_) (fun cdv A outer s H vs Q E hr hsp => ?_)
  · obtain ⟨_, _, _, h, _⟩ := h
    exact h
  · obtain ⟨t, h1, h2⟩ := h cdv A outer s H E (fun cls d _ H' => E cls d H') hr (takes_of rfl rfl rfl rfl)
    exact ⟨t, h1, by rw [h2]; exact fn_ok b.ok hn hsp⟩
end
end Pv

set_option maxRecDepth 100000
set_option maxHeartbeats 4000000
namespace Pv
open PySem PySem.Spec PyProof.Rows L2
/-! ### an exception that is caught and kept -/
theorem exv_ok {P : Program} {w : World} {H : Hp} {h : Heap} {a : Addr} {cls : Value} {d : Option Addr} {oe : Obj} {vs : Array Value} (e : h.get? a = some oe) (z : Zc cls d oe) (dt : oe.data = .fields vs) : ObjOk P w H h a (ExV cls d a) :=
  ⟨⟨oe, vs, e, z, dt⟩, ⟨oe, e⟩, fun h1 h2 ⟨o1, v1, q1, q2, q3⟩ k => ⟨o1, v1, k _ q1, q2, q3⟩⟩
/-- an object that stands, untracked and not of the entry's, is tracked from here on -/
theorem track {X : Cx} {pins : List (Addr × Obj)} {σ : St} {H : Hp} {s : Shared} {a : Addr} {φ : Heap → Prop} {oe : Obj} {vs : Array Value} (I : Inv X pins σ H s) (e : s.heap.get? a = some oe) (dt : oe.data = .fields vs) (na : H a = none) (nL : a ≠ X.env.locals)
    (n0 : X.s_0.heap.get? a = none) (np : ∀ p ∈ X.pn ++ pins, p.1 ≠ a) (ok : ObjOk X.prog X.w (upd H a (.ext φ)) s.heap a (.ext φ)) : Inv X pins σ (upd H a (.ext φ)) s := by
  have was : ∀ {b : Addr} {o : Obj}, X.s_0.heap.get? b = some o → b ≠ a := fun {b o} q z => by
    subst z
    rw [n0] at q
    cases q
  have hx : ∀ {b : Addr} {u : HO}, H b = some u → b ≠ a := fun {b u} q z => by
    subst z
    rw [na] at q
    cases q
  refine ⟨I.ok, I.os, I.bare, ⟨I.base.keep, I.base.slot, fun b o q n x => ?_, I.base.there, fun b xs q => ?_, fun b o u q => ?_, fun b ps q => ?_⟩, I.loc, I.cell, ?_, fun x c q => ?_, fun p hp => ?_, fun b u q => ?_, I.len⟩
  · rw [upd_ne (was q)]
    exact I.base.free b o q n x
  · have t := I.base.tups b xs q
    rw [upd_ne (hx t)]
    exact t
  · have t := I.base.frzs b o u q
    rw [upd_ne (hx t)]
    exact t
  · obtain ⟨more, t⟩ := I.base.tbls b ps q
    exact ⟨more, by rw [upd_ne (hx t)]; exact t⟩
  · rw [upd_ne (Ne.symm nL)]
    exact I.free
  · have ca : c ≠ a := fun z => by
      subst z
      obtain ⟨v, oc, h1, h2⟩ := I.cell x c q
      rw [e] at h1
      cases h1
      rw [dt] at h2
      cases h2
    rw [upd_ne ca]
    exact I.freeC x c q
  · obtain ⟨h1, h2, h3⟩ := I.pin p hp
    exact ⟨h1, by rw [upd_ne (np p hp)]; exact h2, h3⟩
  · by_cases z : b = a
    · subst z
      rw [upd_same] at q
      cases q
      exact ok
    · rw [upd_ne z] at q
      exact (I.hok b u q).stay (fun _ _ _ t => t) (fun c t => by rw [upd_ne (hx t)]; exact t) fun c xs t => by rw [upd_ne (hx t)]; exact t
/-- what «except x as n: y = n» wishes: i the slot of n, j of y -/
def wKeep (K : PySem.W.Frag) (c : Value) (i j : Nat) (Wout : WX) (E : Ends) : WX := fun cls d σ H => ∃ b, PySem.W.exmOne K cls c = some b ∧
  (b = true → ∀ a, H a = none → E.nx (((σ.set i (some (.ref a))).set j (some (.ref a))).set i none) (upd H a (ExV cls d a))) ∧ (b = false → Wout cls d σ H)
section
variable {X : Cx} {x n y : Str} {c : Value} {i j : Nat} {body : List Stmt} {np yp npp ap pos pos' : Pos} {tb : WX → TS} {Wout : WX}
theorem ps_try_keep (hs : X.stack = X.env :: X.outer) (hf : X.env.frame = some X.env.locals) (hex : X.ex = []) (hN : X.N.Nodup) (hi : X.N[i]? = some n) (hln : X.env.kindOf n = some .local) (hj : X.N[j]? = some y) (hjl : X.env.kindOf y = some .local) (hij : i ≠ j) (hc : Names X x c) (tk : Takes X Wout)
    (hsw : ∀ (a : Addr) (pn : List (Addr × Obj)), PS (X.suite a pn) (.Assign [.Name y yp] (.Name n npp) ap) (tAsg (tVar i) (gName j)))
    (hb : ∀ (W : WX) (pn : List (Addr × Obj)) (xe : Value → Shared → Prop), Takes (X.tr pn xe) W → PassesOwn (model X.prog X.w) X.A X.env xe → PSs (X.tr pn xe) body (tb W)) :
    PS X (.Try body [.ExceptHandler (some (.Name x np)) (some n) [.Assign [.Name y yp] (.Name n npp) ap] pos'] [] [] pos) (fun E σ H => tb (wKeep X.K c i j Wout E) E σ H) := by
  refine ⟨fun pins s σ H E I h => ?_⟩
  have ok := I.ok
  have frames : X.A.frames = some (X.env :: X.outer) := by rw [ok.frames, hs]
  refine wpAny_Try_except ?_
  have inner := (hb (wKeep X.K c i j Wout E) (X.pn ++ pins) (fun e s₁ => wpAny (model X.prog X.w) X.A (noteFrame e X.env) (fun _ s₂ => wpAny (model X.prog X.w) X.A (setFlight e none) (fun _ s₃ =>
    wpAny (model X.prog X.w) X.A (handleBy e X.env [.ExceptHandler (some (.Name x np)) (some n) [.Assign [.Name y yp] (.Name n npp) ap] pos']) (SP X pins E) X.xe s₃) X.xe s₂) X.xe s₁) ?caught PassesOwn.looking).run [] s σ H E (I.toTry _) h
  refine wpAny_mono inner (fun fl s1 out => ?_) fun _ _ out => out
  · -- the body came through
    cases fl with
    | next =>
      obtain ⟨σ1, H1, I1, q⟩ := out
      exact wpAny_execs_nil ⟨σ1, H1, I1.ofTry ok, q⟩
    | brk => exact let ⟨σ1, H1, I1, q⟩ := out; ⟨σ1, H1, I1.ofTry ok, q⟩
    | cont => exact let ⟨σ1, H1, I1, q⟩ := out; ⟨σ1, H1, I1.ofTry ok, q⟩
    | ret u => exact let ⟨v, σ1, H1, I1, r, q⟩ := out; ⟨v, σ1, H1, I1.ofTry ok, r, q⟩
  case caught =>
    intro u s' air
    obtain ⟨a, B, sI, pins1, σ1, H1, cls, d, rfl, I1', ground, up, sky, na, os, bare, b, hb1, wyes, wno⟩ := air
    have I1 : Inv X pins σ1 H1 sI := I1'.ofTry ok
    rw [show (X.tr (X.pn ++ pins) _).stack = X.env :: X.outer from hs] at sky
    have aB : B.get? a = none := by
      rcases sky with z | z | z
      · exact z.2.1
      · exact z.2.1
      · exact z.2.1
    show wpAny (model X.prog X.w) X.A (noteFrame (.ref a) X.env) _ _ _
    refine Sky.land Zc.steady frames hf sky fun h3 fl3 up3 => ?_
    have I3 : Inv X pins σ1 H1 { s' with heap := h3 } := I1.landed ground fl3.1 (up.trans up3) os bare
    obtain ⟨o3, v3, get3, z3, data3⟩ := fl3.there
    have offFrames : a ∉ frs (X.env :: X.outer) := fun hm => by
      obtain ⟨_, o', get', plain⟩ := fl3.2.2.1.mem hm
      rw [get3] at get'
      cases get'
      exact plain _ data3
    have nL : a ≠ X.env.locals := fun z => offFrames (List.mem_filterMap.mpr ⟨X.env, List.mem_cons_self, by rw [hf, z]⟩)
    have nF : a ∉ X.fs := fun hm => let ⟨e, he, q⟩ := List.mem_filterMap.mp hm; offFrames (List.mem_filterMap.mpr ⟨e, List.mem_cons_of_mem _ he, q⟩)
    have seen : ∀ {o : Obj}, sI.heap.get? a = some o → False := fun {o} q => by
      have := ground a o q (by
        show a ∉ frs X.stack
        rw [hs]
        exact offFrames)
      rw [aB] at this
      cases this
    have n0 : X.s_0.heap.get? a = none := by
      cases q : X.s_0.heap.get? a with
      | none => rfl
      | some o =>
        obtain ⟨o', q'⟩ := I1.base.there a o q (by rw [hex]; exact fun z => nomatch z)
        exact (seen q').elim
    have npin : ∀ p ∈ X.pn ++ pins, p.1 ≠ a := fun p hp z => by
      have := (I1.pin p hp).1
      rw [z] at this
      exact seen this
    have S3 := I3.suite get3 data3 na nL nF
    refine wpAny_handleBy_cons (codeAny_handlers_test ?_) (by intro q; cases q)
    have kind : PySem.W.Looks (model X.prog X.w) h3 (typeOf (.ref a)) cls := fun A Q E s k q => wpAny_typeOf_ref (k _ _ get3) (by rw [z3.1]; exact q)
    have matched := PySem.W.exm_one (M := model X.prog X.w) (I3.kIn) kind hb1
    have clause : ∀ {Q : Value → Shared → Prop} {E : Value → Shared → Prop}, Q c { s' with heap := h3 } → wpAny (model X.prog X.w) (X.A.mark (some (.ref a))) (eval (.Name x np) X.env) Q E { s' with heap := h3 } := fun {Q E} q => by
      obtain ⟨g1, g2, hm | ⟨hm, hv, hnn⟩⟩ := hc
      · exact ld_glob (X := X.suite a ((a, o3) :: (X.pn ++ pins))) S3 g1 hm q g2
      · exact ld_blt (X := X.suite a ((a, o3) :: (X.pn ++ pins))) S3 g1 hm hv q hnn g2
    refine clause (matched.here ?_)
    cases b with
    | false =>
      show wpAny _ X.A (handleBy (.ref a) X.env []) _ _ _
      refine wpAny_handleBy_nil ?_
      obtain ⟨_, _, _, oe, ves, T, oT, tes, he, hz, hd, h1, hr⟩ := id fl3
      unfold PySem.passOn
      refine wpAny_bind (wpAny_field he hd h1 ?_)
      rw [if_neg (show ¬ ((Value.ref T == Value.none) = true) from by simp)]
      have onward : wpAny (model X.prog X.w) X.A (setFlight (.ref a) X.env.frame) (fun _ s4 => wpAny (model X.prog X.w) X.A (throw (.ref a) : Sem PySem.Flow) (SP X pins E) X.xe s4) X.xe { s' with heap := h3 } := by
        rw [hf]
        refine HandSPX.setFlight_upZ fl3 fun h4 held up4 => wpAny_throw (tk _ _ ?_)
        exact ⟨a, B, sI, pins, σ1, H1, cls, d, rfl, I1, ground, (up.trans up3).trans up4, .inr (.inr (by rw [hs]; exact held)), na, os, bare, wno rfl⟩
      first
        | exact wpAny_bind (wpAny_pure (wpAny_bind onward))
        | exact wpAny_bind onward
    | true =>
      refine codeAny_handlers_suite_as ?_
      refine HandSPX.lands_againZ fl3 fun h4 fl4 up4 => ?_
      have I4 : Inv X pins σ1 H1 { s' with heap := h4 } := I1.landed ground fl4.1 ((up.trans up3).trans up4) os bare
      obtain ⟨o4, v4, get4, z4, data4⟩ := fl4.there
      have S4 := I4.suite get4 data4 na nL nF
      refine store_ok (X := X.suite a ((a, o4) :: (X.pn ++ pins))) (v := .ref a) S4 hN hi (.inl hln) rfl (fun s5 S5 => ?_) (.inr hln)
      have two : PSs (X.suite a ((a, o4) :: (X.pn ++ pins))) [.Assign [.Name y yp] (.Name n npp) ap] (tSeq (tAsg (tVar i) (gName j)) tNext) := pss_cons (hsw a _) pss_nil
      have li : i < σ1.length := by
        rw [I1.len]
        exact (List.getElem?_eq_some_iff.mp hi).1
      refine wpAny_mono (two.run [] s5 _ H1 { nx := fun σ6 H6 => σ6 = (σ1.set i (some (.ref a))).set j (some (.ref a)) ∧ H6 = H1, rt := fun _ _ => False } S5 ⟨.ref a, List.getElem?_set_self li, rfl, rfl⟩) (fun fl s6 out => ?_) (fun _ _ z => False.elim z)
      cases fl with
      | next =>
        obtain ⟨σ6, H6, S6, rfl, rfl⟩ := out
        have S6' : Inv X ((a, o4) :: pins) ((σ1.set i (some (.ref a))).set j (some (.ref a))) H6 s6 := ⟨ok, S6.os, S6.bare, S6.base, S6.loc, S6.cell, S6.free, S6.freeC, fun p hp => S6.pin p (by
          show p ∈ ((a, o4) :: (X.pn ++ pins)) ++ []
          rw [List.append_nil]
          rcases List.mem_append.mp hp with z | z
          · exact List.mem_cons_of_mem _ (List.mem_append_left _ z)
          · rcases List.mem_cons.mp z with z | z
            · rw [z]; exact List.mem_cons_self
            · exact List.mem_cons_of_mem _ (List.mem_append_right _ z)), S6.hok, S6.len⟩
        refine gone_ok S6' hN hi hln fun s7 J7 => ?_
        obtain ⟨at7, _⟩ := J7.pin (a, o4) (List.mem_append_right _ List.mem_cons_self)
        have K7 : Inv X pins _ H6 s7 := J7.pins_of fun p hp => J7.pin p (List.mem_append_right _ (List.mem_cons_of_mem _ hp))
        exact ⟨_, _, track K7 at7 data4 na nL n0 npin (exv_ok at7 z4 data4), wyes rfl a na⟩
      | brk => exact let ⟨_, _, _, q⟩ := out; q.elim
      | cont => exact let ⟨_, _, _, q⟩ := out; q.elim
      | ret u => exact let ⟨_, _, _, _, _, q⟩ := out; q.elim
end
end Pv

set_option maxRecDepth 100000
set_option maxHeartbeats 4000000
namespace Pv
open PySem PySem.Spec PyProof.Rows L2
/-! ### isinstance -/
def tyD (κ : Cls) : D → Value
  | .non => .type "NoneType"
  | .bl _ => .type "bool"
  | .int _ => .type "int"
  | .str _ => .type "str"
  | .tup _ => .type "tuple"
  | .lst _ => .type "list"
  | .exc k => .ref (κ.at_ k)
  | .excF k _ => .ref (κ.at_ k)
  | .tupW _ => .type "tuple"
/-- what a class of exceptions must say, where x is one without a field -/
def IsK (K : PySem.W.Frag) (κ : Cls) : D → Prop
  | .exc k => ExcC K (κ.at_ k)
  | .excF _ _ => False
  | .tupW _ => False
  | _ => True
def rIsD (K : PySem.W.Frag) (κ : Cls) : List V → Hp → VK → Prop := fun vs H Q => ∃ (v c : V) (x : D) (u : Value) (b : Bool), vs = [v, c] ∧ ClsV c u ∧ Rp K κ H v x ∧ IsK K κ x ∧ PySem.W.kitOne K (tyD κ x) u = some b ∧ Q (.bl b) H
theorem ty_tup {K : PySem.W.Frag} {H : Hp} {a : Addr} {vs : List V} (h : SqT K H a vs) : TyX K H (.ref a) (.type "tuple") := by
  rcases h with (h | ⟨o, h⟩) | ⟨o, its, n, h1, h2, _⟩
  · exact .base (.tup h)
  · exact .fTuple h
  · exact .kTuple h1 h2
theorem ty_lst {K : PySem.W.Frag} {H : Hp} {a : Addr} {vs : List V} (h : SqL K H a vs) : TyX K H (.ref a) (.type "list") := by
  rcases h with (h | ⟨o, h⟩) | ⟨o, its, n, h1, h2, _⟩
  · exact .base (.lst h)
  · exact .base (.frz h)
  · exact .kList h1 h2
theorem call_isD {X : Cx} {κ : Cls} : CallR X (.builtin "isinstance") (rIsD X.K κ) := by
  intro pins s σ H vs us Q I r h
  obtain ⟨v, c, x, u, b, rfl, hc, rx, hk, e, q⟩ := h
  have plain : ∀ t, TyX X.K H v t → t = tyD κ x → wpAny (model X.prog X.w) X.A (call (.builtin "isinstance") us) (EP X pins σ Q) X.xe s := fun t ht et => by
    subst et
    exact call_isi pins s σ H _ us Q I r ⟨v, c, _, u, b, rfl, hc, ht, e, q⟩
  cases rx with
  | non => exact plain _ (.base .non) rfl
  | bl b => exact plain _ (.base (.bl b)) rfl
  | int i => exact plain _ (.base (.int i)) rfl
  | str i => exact plain _ (.base (.str i)) rfl
  | tup h _ => exact plain _ (ty_tup h.sq) rfl
  | lst h _ => exact plain _ (ty_lst h) rfl
  | excF _ _ _ => exact hk.elim
  | tupW _ _ => exact hk.elim
  | @exc a k ha =>
    cases r with
    | cons r1 r =>
      cases r with
      | cons r2 r =>
        cases r
        cases r1
        have ew := hc.eq r2
        subst ew
        obtain ⟨⟨oe, ve, get, z, data⟩, _⟩ := I.hok a _ ha
        have J : PySem.W.InstAt s.heap a oe (κ.at_ k) none := by
          obtain ⟨oc, od, oda, osl⟩ := oe
          obtain ⟨h1, h2⟩ := z
          dsimp only at h1 h2 data
          subst h1 h2 data
          exact ⟨get, rfl, rfl, trivial⟩
        have C : ExcC X.K (κ.at_ k) := hk
        exact PySem.W.kia_one (PySem.W.handS_kitx_exc C.hg C.hk C.hs C.hd C.ha C.hn C.ht C.hm) I.kIn J e (fun z => nomatch z) fun tk => ⟨.bl b, H, I.kept (t' := tk) fun _ _ z => z, rfl, q⟩
section
variable {K : PySem.W.Frag} {κ : Cls}
/-- isinstance(e, C): g is the answer -/
def eIs (c : V) (u : Value) (hc : ClsV c u) (g : D → Option Bool) (hg : ∀ x b, g x = some b → IsK K κ x ∧ PySem.W.kitOne K (tyD κ x) u = some b) (a : SE K κ) : SE K κ where
  te := fun Wx => tCB (rIsD K κ) (tCons (a.te Wx) (tCons (tC c) tNil))
  ev := fun ρ => (a.ev ρ).bindD fun x ρ => match g x with
    | some b => .ok (.d (.bl b)) ρ
    | none => .bad
  ok := fun Wx G H ρ σ L Q hG hE hN p => a.ok.then hG hE hN p fun x vx ρ1 G1 H1 L1 u1 e1 n1 r1 p => by
    cases h : g x with
    | none => rw [h] at p; exact p.elim
    | some b =>
      rw [h] at p
      obtain ⟨h1, h2⟩ := hg x b h
      exact ⟨vx, c, x, u, b, rfl, hc, r1.mono u1.gh, h1, h2, p.ret (.refl u1.gh) e1 n1 (.bl _)⟩
/-- a built-in class, of data without exceptions -/
def gTy (n : String) : D → Option Bool
  | .non => kitB "NoneType" n
  | .bl _ => kitB "bool" n
  | .int _ => kitB "int" n
  | .str _ => kitB "str" n
  | .tup _ => kitB "tuple" n
  | .lst _ => kitB "list" n
  | _ => none
theorem gTy_ok {n : String} (x : D) (b : Bool) (h : gTy n x = some b) : IsK K κ x ∧ PySem.W.kitOne K (tyD κ x) (.type n) = some b := by
  cases x <;> first | exact ⟨trivial, kit_ty h⟩ | (exact nomatch h)
def eIsTy (n : String) (a : SE K κ) : SE K κ := eIs (.ty n) (.type n) (.ty n) (gTy n) gTy_ok a
/-- an own class, the j-th, or ValueError: of None or of an exception of a class that f tells of -/
def gOwn (f : Nat → Option Bool) : D → Option Bool
  | .non => some false
  | .exc k => f k
  | _ => none
/-! ### raise, try -/
/-- raise X(), X the k-th class -/
def sRaise (k : Nat) : SS K κ where
  ts := fun Wx => fun _ σ H => Wx (.ref (κ.at_ k)) none σ H
  sv := fun ρ => .exc k none ρ
  asg := []
  ok := fun Wx G H ρ σ L E hG hE hN p => p none σ G H L (.refl hG) hE hN (.refl _ _) rfl
theorem pmk_own0 {X : Cx} {C : Addr} {bmB : List Value} {B newId initId : String} {x : Str} {p pos : Pos} (F : ExcBaseFacts B newId initId bmB) (q : PySem.W.excIn X.K C bmB newId = true) (gC : X.mg x = some (.ref C)) (kC : PySem.W.keepIn X.K (.ref C) = true) (r : Raises X (.ref C)) (hg : Gl X x)
    (hdb : (x == ("__debug__" : Str)) = false := by decide) : PMk X (.Call (.Name x p) [] [] pos) (fun _ H Q => Q (.ref C) none H) := by
  intro pins s σ H Q I h
  refine wpAny_Call_Name_kw (ld_glob I hg gC ?_ hdb)
  refine PySem.W.callWith_K0 I.kIn kC ?_
  show wpAny _ _ (call (.ref C) []) _ _ _
  obtain ⟨bm, N, nm, qn, bs, hdct, sn, sub, ab, col, dd, k0, k1, k2, k3, k5, mN, hC, hN, hni, T⟩ := exc_obj I.kIn q
  obtain ⟨hp, gs, dr, tk, os⟩ := s
  refine wpAny_call_exc_subT F T hC hN hni (fun h' e hm => ?_) (by show 0 ≤ sizeLine; exact Nat.zero_le _)
  exact mk_of I hm r h (I.hok.gone hm.new)
/-- the exception as a value -/
def D.ofExc (k : Nat) : Option D → D
  | none => .exc k
  | some y => .excF k y
/-- try: body except X as n: y = n, X a class above all own ones; i the slot of n, j of y -/
def sTry (c : Value) (i j : Nat) (hij : i ≠ j) (f : Nat → Bool) (hf : ∀ k, f k = true → PySem.W.exmOne K (.ref (κ.at_ k)) c = some true) (b : SS K κ) : SS K κ where
  ts := fun Wx => fun E σ H => b.ts (wKeep K c i j Wx E) E σ H
  sv := fun ρ => match b.sv ρ with
    | .exc k x ρ => if f k = true ∧ i < ρ.length ∧ j < ρ.length then .ok .nx ((ρ.set i none).set j (some (.d (D.ofExc k x)))) else .bad
    | r => r
  asg := b.asg ++ [i, j]
  ok := fun Wx G H ρ σ L E hG hE hN p => by
    refine b.ok _ G H ρ σ L E hG hE hN ?_
    have sub : ∀ m ∈ b.asg, m ∈ b.asg ++ [i, j] := fun m z => List.mem_append_left _ z
    dsimp only at p
    cases h : b.sv ρ with
    | ok fl ρ1 =>
      rw [h] at p
      cases fl with
      | nx => exact fun σ' G' H' L' s e n q => p σ' G' H' L' s e n (q.wide sub)
      | bk => exact fun σ' G' H' L' s e n q => p σ' G' H' L' s e n (q.wide sub)
      | ct => exact fun σ' G' H' L' s e n q => p σ' G' H' L' s e n (q.wide sub)
      | rt w => exact fun v σ' G' H' Lw L' s e q n kk => p v σ' G' H' Lw L' s e q n (kk.wide sub)
    | bad => rw [h] at p; exact p.elim
    | exc k x ρ1 =>
      rw [h] at p
      dsimp only at p
      split at p
      · rename_i hh
        obtain ⟨hk, hi, hj⟩ := hh
        intro dd σ1 G1 H1 L1 s1 e1 n1 k1 x1
        refine ⟨true, hf k hk, fun _ a na => ?_, fun z => nomatch z⟩
        have gn : G1 a = none := fresh s1.gh na
        have st : Stp G1 H1 L1 (upd G1 a (ExV (.ref (κ.at_ k)) dd a)) (upd H1 a (ExV (.ref (κ.at_ k)) dd a)) L1 := .new s1.gh na
        have e2 := e1.new (o := ExV (.ref (κ.at_ k)) dd a) s1.gh na
        obtain ⟨L2, f1, f2, f3⟩ := e2.forget i none n1
        have rv : Rp K κ (upd G1 a (ExV (.ref (κ.at_ k)) dd a)) (.ref a) (D.ofExc k x) := by
          cases x with
          | none =>
            have : dd = none := x1
            subst this
            exact .exc upd_same
          | some y =>
            obtain ⟨p', v', rfl, h1, h2⟩ := x1
            exact .excF upd_same (Evl.Ex.new gn _ _ h1) (h2.mono (Evl.Ex.new gn))
        obtain ⟨L3, g1, g2, g3⟩ := f1.put (w := .d _) (v := .ref a) (B := []) j ⟨rfl, rv⟩ f2 (by simpa using hj)
        have es : ((σ1.set i (some (.ref a))).set j (some (.ref a))).set i none = (σ1.set i none).set j (some (.ref a)) := by
          rw [List.set_comm _ _ (Ne.symm hij), List.set_set]
        rw [es]
        refine p _ _ _ L3 (s1.trans (st.sub fun b z => ?_)) g1 g2 ?_
        · have := g3 b z
          exact f3 b (by simpa using this)
        · refine ⟨by simp [k1.1], fun m hm => ?_⟩
          have m1 : m ∉ b.asg := fun z => hm (List.mem_append_left _ z)
          have m2 : i ≠ m := fun z => hm (by simp [z])
          have m3 : j ≠ m := fun z => hm (by simp [z])
          rw [List.getElem?_set_ne m3, List.getElem?_set_ne m2]
          exact k1.2 m m1
      · exact p.elim
end
end Pv

set_option maxRecDepth 100000
set_option maxHeartbeats 4000000
namespace Pv
open PySem PySem.Spec PyProof.Rows L2
/-! ### defs called where nothing is being shown as a text -/
structure FnG (P : Program) (w : World) (K : PySem.W.Frag) (mg : Str → Option Value) (base : Heap) (k : Nat) (f : Addr) (fd : FuncData) (ps : List Str) (sp : Sp) : Prop where
  len : ∀ vs H Q E, sp vs H Q E → vs.length = ps.length
  run : ∀ (A : Around) (outer : List PySem.Env) (s : Shared) (H : Hp) (args : Args) (us : List Value) (vs : List V) (Q : VK) (E : XK), Room k A → A.guards = some [] → Env0 P w K mg base A outer s H → BindsTo s fd args (ps.zip us) → Vals vs us → sp vs H Q E →
    codeAny (model P w) A (.call (.ref f) args) (CR (L2.CX P w) outer P w H s Q E) s
section
variable {P : Program} {w : World} {K : PySem.W.Frag} {mg : Str → Option Value} {base : Heap}
theorem FnG.mono {j k : Nat} {f : Addr} {fd : FuncData} {ps : List Str} {sp : Sp} (F : FnG P w K mg base j f fd ps sp) (h : j ≤ k) : FnG P w K mg base k f fd ps sp :=
  ⟨F.len, fun A outer s H args us vs Q E hr => F.run A outer s H args us vs Q E (hr.mono h)⟩
theorem FnG.imp {k : Nat} {f : Addr} {fd : FuncData} {ps : List Str} {sp sp' : Sp} (F : FnG P w K mg base k f fd ps sp) (h : ∀ vs H Q E, sp' vs H Q E → sp vs H Q E) : FnG P w K mg base k f fd ps sp' :=
  ⟨fun vs H Q E q => F.len vs H Q E (h _ _ _ _ q), fun A outer s H args us vs Q E hr hg he hb hv hs => F.run A outer s H args us vs Q E hr hg he hb hv (h _ _ _ _ hs)⟩
/-- a def of the text by its body's reading -/
theorem fng_of {x qual : Str} {st : Stmt} {f : Addr} {fd : FuncData} {N ps : List Str} {k : Nat} {sp : Sp} (F : Fun K x qual st f fd) (S : FnScope N ps (defScope st)) (len : ∀ vs H Q E, sp vs H Q E → vs.length = ps.length)
    (body : ∀ (cdv : Value) (A : Around) (outer : List PySem.Env) (s : Shared) (H : Hp) (vs : List V) (Q : VK) (E : XK), Room k (A.deeper (envOfC qual (defScope st) s.heap.objs.size f cdv)) → (A.deeper (envOfC qual (defScope st) s.heap.objs.size f cdv)).guards = some [] → sp vs H Q E →
      ∃ t, PSs (cxOf (L2.CX P w) P w K mg base N qual (defScope st) f cdv A outer s H E) (defBody st) t ∧ t { nx := fun _ H' => Q .non H', rt := Q } (L2.start N vs) H) : FnG P w K mg base (k + 1) f fd ps sp := by
  obtain ⟨oc, od, kV, doc, pm, an, cdv, ct, osl, rfl, lk, hcd⟩ := F.ex
  refine ⟨len, fun A outer s H args us vs Q E room quiet env bound vals prom => ?_⟩
  have inHeap : K.In s.heap := env.mod.kin.keeps fun b o e => (env.bs b o e).1
  have limit : s.heap.NoLimit := env.mod.nolimit.keeps fun b o e => (env.bs b o e).1
  have kinds : ∀ y ∈ ps.zip us, (defScope st).names.lookup y.1 = some .local ∨ ((defScope st).names.lookup y.1 = some .cell ∧ ((cellsFrom (s.heap.objs.size + 1) (defScope st).names []).lookup y.1).isSome = true) := by
    rintro ⟨n, v⟩ hy
    rcases S.par n (List.of_mem_zip hy).1 with q | q
    · exact .inl q
    · exact .inr ⟨q, PySem.W.cellsFrom_some _ _ _ (.inl q)⟩
  refine codeAny_call_function room.depth (inHeap _ _ lk) rfl S.co S.gen rfl (PySem.W.codeRec_of inHeap hcd) (bound _ _ _ _ ?_)
  refine wpAny_newFunctionEnv_cells S.kind kinds fun env1 henv s1 made => ?_
  subst henv
  refine ⟨limit.keeps made.toInCall.keep, codeAny_func ?_⟩
  obtain ⟨t, ht, hq⟩ := body cdv A outer s H vs Q E (room.deeper _) quiet prom
  have I : Inv (cxOf (L2.CX P w) P w K mg base N qual (defScope st) f cdv A outer s H E) [] (L2.start N vs) H s1 := inv_start S room.hd env (len _ _ _ _ prom) vals made
  refine wpAny_mono (ht.run [] s1 (L2.start N vs) H _ I hq) (fun fl s' out => ?_) fun _ _ out => out
  cases fl with
  | ret u => exact let ⟨v, _, H', J, rv, q⟩ := out; ⟨v, H', J.os, J.bare, J.base, J.hok, rv, q⟩
  | next => exact let ⟨_, H', J, q⟩ := out; ⟨V.non, H', J.os, J.bare, J.base, J.hok, rfl, q⟩
  | brk => exact let ⟨_, _, _, q⟩ := out; q.elim
  | cont => exact let ⟨_, _, _, q⟩ := out; q.elim
end
section
variable {X : Cx} {k : Nat} {f : Addr} {fd : FuncData} {ps : List Str} {sp : Sp} {W : WX} {x : Str} {p pos : Pos} {e : Expr} {es : List Expr} {t : TA}
theorem run_g {pins : List (Addr × Obj)} {σ : St} {H : Hp} {s : Shared} {Q : VK} {us : List Value} {vs : List V} (F : FnG X.prog X.w X.K X.mg X.base k f fd ps sp) (hr : Room k X.A) (hq : X.A.guards = some []) (hb : Binds X.K fd ps []) (tk : Takes X W)
    (I : Inv X pins σ H s) (r : Vals vs us) (h : sp vs H Q (WE W σ)) : wpAny (model X.prog X.w) X.A (call (.ref f) us) (EP X pins σ Q) X.xe s := by
  have count : us.length = ps.length := r.length.symm.trans (F.len _ _ _ _ h)
  have bound := hb s us I.kIn (by rw [List.append_nil]; exact count)
  rw [List.append_nil] at bound
  refine wpAny_call (codeAny_mono (F.run X.A X.stack s H ⟨us, []⟩ us vs Q (WE W σ) hr hq I.env0 bound r h) fun res s' out => ?_)
  cases res with
  | error e => exact passAt tk σ pins H s e s' I out
  | ok fl =>
    cases fl with
    | ret u => exact I.after out
    | next => exact False.elim out
    | brk => exact False.elim out
    | cont => exact False.elim out
theorem pe_callG (F : FnG X.prog X.w X.K X.mg X.base k f fd ps sp) (hr : Room k X.A) (hq : X.A.guards = some []) (hm : X.mg x = some (.ref f)) (hk : PySem.W.keepIn X.K (.ref f) = true) (hb : Binds X.K fd ps []) (tk : Takes X W)
    (ha : PA X (e :: es) t) (hg : Gl X x := by rfl) (hdb : (x == ("__debug__" : Str)) = false := by decide) (he : starEach (e :: es) X.env = (false, eval e X.env) :: starEach es X.env := by rfl) (hpl : (backTo pos (starEach es X.env)).any (·.1) = false := by rfl) :
    PE X (.Call (.Name x p) (e :: es) [] pos) (tCallS sp (WE W) t) := ⟨fun pins s σ H Q I h =>
  wpAny_Call_Name_kw (ld_glob I hg hm (PySem.W.callWith_K (h₀ := X.base) I.ok.mod.kin hk (thn (ha.run pos pins s σ H _ I h) fun _ _ ⟨_, _, I1, r, q⟩ => ⟨I1.kIn, run_g F hr hq hb tk I1 r q⟩) he hpl) hdb)⟩
theorem pe_callG0 (F : FnG X.prog X.w X.K X.mg X.base k f fd ps sp) (hr : Room k X.A) (hq : X.A.guards = some []) (hm : X.mg x = some (.ref f)) (hk : PySem.W.keepIn X.K (.ref f) = true) (hb : Binds X.K fd ps []) (tk : Takes X W)
    (hg : Gl X x := by rfl) (hdb : (x == ("__debug__" : Str)) = false := by decide) : PE X (.Call (.Name x p) [] [] pos) (tCallS sp (WE W) tNil) := ⟨fun pins s σ H Q I h =>
  wpAny_Call_Name_kw (ld_glob I hg hm (PySem.W.callWith_K0 I.kIn hk (run_g (us := []) F hr hq hb tk I .nil h)) hdb)⟩
end
section
variable {P : Program} {w : World} {K : PySem.W.Frag} {κ : Cls} {mg : Str → Option Value} {base : Heap}
/-- f is a def of the text that does what the function F does -/
abbrev FnX (P : Program) (w : World) (K : PySem.W.Frag) (κ : Cls) (mg : Str → Option Value) (base : Heap) (k : Nat) (f : Addr) (fd : FuncData) (ps : List Str) (F : Fn) : Prop := FnG P w K mg base k f fd ps (spF K κ ps.length F)
theorem fnx_of {x qual : Str} {st : Stmt} {f : Addr} {fd : FuncData} {N ps : List Str} {k : Nat} {b : SS K κ} (F : Fun K x qual st f fd) (S : FnScope N ps (defScope st)) (hn : ps.length ≤ N.length)
    (h : ∀ (cdv : Value) (A : Around) (outer : List PySem.Env) (s : Shared) (H : Hp) (E : XK) (Wx : WX), Room k (A.deeper (envOfC qual (defScope st) s.heap.objs.size f cdv)) → (A.deeper (envOfC qual (defScope st) s.heap.objs.size f cdv)).guards = some [] → Takes (cxOf (L2.CX P w) P w K mg base N qual (defScope st) f cdv A outer s H E) Wx →
      ∃ t, PSs (cxOf (L2.CX P w) P w K mg base N qual (defScope st) f cdv A outer s H E) (defBody st) t ∧ t = b.ts Wx) :
    FnX P w K κ mg base (k + 1) f fd ps (fnOf N.length b.asg b.sv) := by
  refine fng_of F S (fun vs H Q E h => ?_) (fun cdv A outer s H vs Q E hr hq hsp => ?_)
  · obtain ⟨_, _, _, h, _⟩ := h
    exact h
  · obtain ⟨t, h1, h2⟩ := h cdv A outer s H E (fun cls d _ H' => E cls d H') hr hq (takes_of rfl rfl rfl rfl)
    exact ⟨t, h1, by rw [h2]; exact fn_ok b.ok hn hsp⟩
theorem FnX.imp {k : Nat} {f : Addr} {fd : FuncData} {ps : List Str} {F F' : Fn} (h : FnX P w K κ mg base k f fd ps F) (e : ∀ ws, F' ws ≠ .bad → F ws = F' ws) : FnX P w K κ mg base k f fd ps F' := FnG.imp h fun vs H Q E q => by
  obtain ⟨G, L, ws, h1, h2, h3, h4, h5⟩ := q
  refine ⟨G, L, ws, h1, h2, h3, h4, ?_⟩
  rw [e ws (fun z => by rw [z] at h5; exact h5)]
  exact h5
/-! ### str(x) of data -/
mutual
theorem py_nodict : ∀ x : D, (D.py x).hasDict = false
  | .non => by simp [D.py, PyData.hasDict]
  | .bl b => by simp [D.py, PyData.hasDict]
  | .int i => by simp [D.py, PyData.hasDict]
  | .str s => by simp [D.py, PyData.hasDict]
  | .exc k => by simp [D.py, PyData.hasDict]
  | .excF k x => by simp [D.py, PyData.hasDict]
  | .tupW xs => by simp [D.py, PyData.hasDict]
  | .tup xs => by simp [D.py, PyData.hasDict, pys_nodict xs]
  | .lst xs => by simp [D.py, PyData.hasDict, pys_nodict xs]
theorem pys_nodict : ∀ xs : List D, PyData.hasDictAll (D.pys xs) = false
  | [] => by simp [D.pys, PyData.hasDictAll]
  | x :: xs => by simp [D.pys, PyData.hasDictAll, py_nodict x, pys_nodict xs]
end
/-- what str(x) comes to -/
def D.text : D → Str
  | .str s => s
  | x => (D.py x).shown
def gStr : List D → Option D
  | [x] => if D.flat 60 x = true ∧ (D.py x).showable = true ∧ (D.text x).length ≤ 1000000 then some (.str (D.text x)) else none
  | _ => none
def rStr (K : PySem.W.Frag) : List V → Hp → VK → Prop := fun vs H Q => ∃ v x, vs = [v] ∧ (∃ κ, Rp K κ H v x) ∧ D.flat 60 x = true ∧ (D.py x).showable = true ∧ (D.text x).length ≤ sizeLine ∧ Q (.str (D.text x)) H
theorem call_strD {X : Cx} (hu : X.A.units + 100 < cLine) (hq : X.A.guards = some []) : CallR X (.type "str") (rStr X.K) := by
  intro pins s σ H vs us Q I r h
  obtain ⟨v, x, rfl, ⟨κ, rx⟩, hf, hs, hl, q⟩ := h
  cases r with
  | cons r1 r =>
    rename_i u us'
    cases r
    have deep : ∀ a, v = .ref a → D.text x = (D.py x).shown → wpAny (model X.prog X.w) X.A (call (.type "str") [u]) (EP X pins σ Q) X.xe s := fun a ea et => by
      subst ea
      cases r1
      obtain ⟨as, rd⟩ := Dp.reads I (D.py x) _ _ (dp_of rx hf) rfl
      have dd := (flat_lay x 60 hf).2
      rw [et] at hl q
      refine str_of_reads rd hs (fun z => by rw [py_nodict] at z; cases z) hq (by omega) (fun _ _ e => e) (fun h' u' tk kept => ?_) hl
      exact ⟨.str _, H, I.kept kept, ⟨_, rfl⟩, q⟩
    cases rx with
    | tup h r => exact deep _ rfl rfl
    | lst h r => exact deep _ rfl rfl
    | exc h => simp [D.flat] at hf
    | excF h _ _ => simp [D.flat] at hf
    | tupW h _ => simp [D.flat] at hf
    | non =>
      cases r1
      exact PySem.P.str_of_none ⟨.str _, H, I.tok _, ⟨_, rfl⟩, q⟩
    | bl b =>
      cases r1
      exact PySem.P.str_of_bool ⟨.str _, H, I.tok _, ⟨_, rfl⟩, q⟩
    | int i =>
      obtain ⟨t, rfl⟩ := r1
      exact PySem.P.str_of_int (of_decide_eq_true hs) ⟨.str _, H, I.tok _, ⟨_, rfl⟩, q⟩
    | str z =>
      obtain ⟨t, rfl⟩ := r1
      exact PySem.P.str_of_str ⟨.str _, H, I, ⟨_, rfl⟩, q⟩
theorem cbStr : CbS K κ (rStr K) gStr := fun G H vs xs z Q hG ra e k => by
  unfold gStr at e
  split at e
  · rename_i x
    split at e
    · rename_i c
      cases e
      cases ra with
      | cons h t =>
        cases t
        exact ⟨_, x, rfl, ⟨κ, h.mono hG⟩, c.1, c.2.1, Nat.le_trans c.2.2 (by decide), k _ G H (.refl0 hG) (.str _)⟩
    · cases e
  · cases e
def eStrOf := eCB (K := K) (κ := κ) _ _ cbStr
end
/-! ### the law's own call -/
section
variable {P : Program} {w : World} {K : PySem.W.Frag} {mg mb : Str → Option Value} {k : Nat} {fa a : Addr} {fd : FuncData} {x : Str} {sp : Sp} {s : Shared} {vs : List Value} {ns : List Int}
/-- with nothing tracked but the script, perhaps -/
theorem law_at {H : Hp} (KX : K.In s.heap) (hns : s.heap.Ns mainGlobals mg) (hb : s.heap.Ns builtinsNs mb) (hbb : ∀ x : Str, x ≠ "__name__" → mb x = bootBuiltins x) (hlim : s.heap.NoLimit) (hg : s.gens = #[])
    (script : s.heap.get? a = some { cls := .type "list", data := .seq vs.toArray }) (hr : Room k callerA) (F : ∀ base : Heap, K.In base → base.Ns mainGlobals mg → FnG P w K mg base k fa fd [x] sp) (hbind : ∀ (s : Shared) (u : Value), BindsTo s fd ⟨[u], []⟩ [(x, u)])
    (only : Only H) (ok : HOk P w H s.heap) (just : ∀ b, H b ≠ none → b = a) (notK : H a ≠ none → K.lookup a = none) (prom : sp [.ref a] H (fun v _ => v = .bl true) fun _ _ _ => False) :
    codeAny (model P w) callerA (.call (.ref fa) ⟨[.ref a], []⟩) (fun r s' => r = .ok (.ret (.bool true)) ∧ OldK s.heap s'.heap ∧ s'.os = s.os ∧ AllBare s'.gens) s := by
  have isDict : ∀ {b : Addr} {o : Obj} {es : Array DictEntry} {ep : Nat}, s.heap.get? b = some o → o.data = .dict es ep → H b = none := by
    intro b o es ep get dt
    by_cases q : H b = none
    · exact q
    · have z := just b q
      rw [z, script] at get
      cases get
      exact nomatch dt
  have names : ∀ {b : Addr} {m : Str → Option Value}, s.heap.Ns b m → (hidT s.heap H).Ns b m := fun {b m} z => let ⟨o, es, ep, get, dt, rest⟩ := z; ⟨o, es, ep, hidT_get get (isDict get dt), dt, rest⟩
  have written : K.In (hidT s.heap H) := by
    intro b o e
    refine hidT_get (KX b o e) ?_
    by_cases q : H b = none
    · exact q
    · have z := just b q
      subst z
      rw [notK q] at e
      cases e
  have mods : Mod K mg (hidT s.heap H) := ⟨written, names hns, ⟨mb, names hb, hbb⟩, let ⟨m, h1, h2⟩ := hlim; ⟨m, names h1, h2⟩⟩
  have env : Env0 P w K mg (hidT s.heap H) callerA [] s H := ⟨rfl, mods, fun _ _ e => of_hidT e, Nat.le_of_eq (hidT_size _ _), trivial, (fun _ z => nomatch z), ok, .of_eq hg⟩
  have called := (F _ written (names hns)).run callerA [] s H ⟨[.ref a], []⟩ [.ref a] [.ref a] _ _ hr rfl env (hbind s (.ref a)) (.cons rfl .nil) prom
  refine codeAny_mono called fun res s' out => ?_
  cases res with
  | error e =>
    obtain ⟨_, _, _, _, _, _, _, _, _, _, _, _, z⟩ := out
    exact z.elim
  | ok fl =>
    cases fl with
    | ret u =>
      obtain ⟨v, H', os, bare, un, ok', rv, q⟩ := out
      have q : v = .bl true := q
      subst q
      cases rv
      refine ⟨rfl, OldK.of_keep fun b o get => ?_, os, bare⟩
      rcases only b with z | ⟨ob, xs, z⟩
      · exact un.keep b o get z (fun t => nomatch t) fun t => nomatch t
      · have p1 := (ok b _ z).1
        have p2 := (ok' b _ (un.frzs b ob _ z)).1
        rw [get] at p1
        cases p1
        exact p2
    | next => exact False.elim out
    | brk => exact False.elim out
    | cont => exact False.elim out
theorem law_run (KX : K.In s.heap) (hns : s.heap.Ns mainGlobals mg) (hb : s.heap.Ns builtinsNs mb) (hbb : ∀ x : Str, x ≠ "__name__" → mb x = bootBuiltins x) (hlim : s.heap.NoLimit) (hg : s.gens = #[])
    (script : s.heap.get? a = some { cls := .type "list", data := .seq vs.toArray }) (hi : IntsAre vs ns) (hl : ns.length ≤ sizeLine) (hr : Room k callerA) (F : ∀ base : Heap, K.In base → base.Ns mainGlobals mg → FnG P w K mg base k fa fd [x] sp) (hbind : ∀ (s : Shared) (u : Value), BindsTo s fd ⟨[u], []⟩ [(x, u)])
    (prom : ∀ H : Hp, Only H → SqL K H a (ns.map V.int) → sp [.ref a] H (fun v _ => v = .bl true) fun _ _ _ => False) :
    codeAny (model P w) callerA (.call (.ref fa) ⟨[.ref a], []⟩) (fun r s' => r = .ok (.ret (.bool true)) ∧ OldK s.heap s'.heap ∧ s'.os = s.os ∧ AllBare s'.gens) s := by
  have vals := vals_ints hi
  have len := hi.length
  cases inK : K.lookup a with
  | some o =>
    have o' := KX a o inK
    rw [script] at o'
    cases o'
    refine law_at (H := fun _ => none) KX hns hb hbb hlim hg script hr F hbind (fun _ => .inl rfl) (fun _ _ z => nomatch z) (fun _ z => absurd rfl z) (fun z => absurd rfl z) (prom _ (fun _ => .inl rfl) (.inr ⟨_, vs.toArray, _, inK, rfl, rfl, rfl, ?_, by simpa using vals⟩))
    simpa [len] using hl
  | none =>
    have only : Only fun b => if b = a then some (.frz { cls := .type "list", data := .seq vs.toArray } (.lst (ns.map V.int))) else none := fun b => by
      by_cases z : b = a
      · exact .inr ⟨_, _, if_pos z⟩
      · exact .inl (if_neg z)
    refine law_at KX hns hb hbb hlim hg script hr F hbind only (fun b u z => ?_) (fun b z => ?_) (fun _ => inK) (prom _ only (.inl (.inr ⟨_, if_pos rfl⟩)))
    · by_cases e : b = a
      · rw [if_pos e] at z
        cases z
        rw [e]
        exact ⟨script, by rw [List.length_map]; exact hl, vs, _, vals, script⟩
      · rw [if_neg e] at z
        cases z
    · by_cases e : b = a
      · exact e
      · exact absurd (if_neg e) z
end
/-- the goal that k_head leaves (case hc), from the law's promise -/
theorem law_walk {l : PySem.W.OpenLaw} {n k : Nat} {q : Program} {loose : List Str} {XP : (Str → Option Value) → Heap → Prop} {YP : World → Heap → Prop} {d : DefRec} {K : Params → PySem.W.Frag} {sp : World → Sp} {x : Str}
    (hn : l.most = some n) (hn2 : n ≤ sizeLine) (hdf : d.params.defaults = []) (hr : Room k callerA) (hY : ∀ (w : World) (h : Heap), YP w h → (K w.params).In h)
    (F : ∀ (w : World) (mg : Str → Option Value) (fa : Addr) (h : Heap), (K w.params).In h → h.Ns mainGlobals mg → mg d.name = some (.ref fa) →
      ∃ fd : FuncData, (∀ (s : Shared) (u : Value), BindsTo s fd ⟨[u], []⟩ [(x, u)]) ∧ ∀ base : Heap, (K w.params).In base → base.Ns mainGlobals mg → FnG l.prog w (K w.params) mg base k fa fd [x] (sp w))
    (prom : ∀ (w : World) (H : Hp) (a : Addr) (ns : List Int), ns.length ≤ n → Only H → SqL (K w.params) H a (ns.map V.int) → sp w [.ref a] H (fun v _ => v = .bl true) fun _ _ _ => False) :
    PySem.W.WalkO q loose XP YP l.row.toRowW d [] (fun f vs => PySem.call f vs) :=
  Att.attach_call hn hdf fun w s₀ s₁ mg mb fa o pm cd doc a vs ns G Y ho hd hcd hmg hobj hints hlen hg => by
    have KX := hY w _ Y
    obtain ⟨fd, bound, hF⟩ := F w mg fa _ KX G.T.g hmg
    exact law_run KX G.T.g G.T.b G.T.builtins G.T.nolimit hg hobj hints (Nat.le_trans hlen hn2) hr hF bound fun H hO hS => prom w H a ns hlen hO hS
end Pv

set_option maxRecDepth 100000
set_option maxHeartbeats 4000000
namespace Pv
open PySem PySem.Spec PyProof.Rows L2
/-! ### a def of the text, where it stands -/
structure Def (P : Program) (w : World) (K : PySem.W.Frag) (κ : Cls) (mg : Str → Option Value) (base : Heap) (x : Str) (l : Nat) (ps : List Str) (F : Fn) : Prop where
  ex : ∃ (a : Addr) (fd : FuncData), FnX P w K κ mg base l a fd ps F ∧ mg x = some (.ref a) ∧ PySem.W.keepIn K (.ref a) = true ∧ Binds K fd ps []
section
variable {P : Program} {w : World} {K : PySem.W.Frag} {κ : Cls} {mg : Str → Option Value} {base : Heap}
theorem Def.imp {x : Str} {l : Nat} {ps : List Str} {F F' : Fn} (D : Def P w K κ mg base x l ps F) (e : ∀ ws, F' ws ≠ .bad → F ws = F' ws) : Def P w K κ mg base x l ps F' :=
  let ⟨a, fd, h, r⟩ := D.ex
  ⟨a, fd, h.imp e, r⟩
theorem def_of {x qual : Str} {st : Stmt} {a : Addr} {fd : FuncData} {l : Nat} {ps : List Str} {F : Fn} (D : Fun K x qual st a fd) (hm : mg x = some (.ref a)) (hb : Binds K fd ps []) (h : FnX P w K κ mg base l a fd ps F) : Def P w K κ mg base x l ps F := ⟨a, fd, h, hm, D.kp, hb⟩
end
section
variable {X : Cx} {κ : Cls} {l k : Nat} {ps : List Str} {F : Fn} {W : WX} {x : Str} {p pos : Pos} {e : Expr} {es : List Expr} {t : TA}
theorem pe_def (D : Def X.prog X.w X.K κ X.mg X.base x l ps F) (hr : Room k X.A) (hl : l ≤ k) (hq : X.A.guards = some []) (tk : Takes X W) (ha : PA X (e :: es) t) (hg : Gl X x := by rfl) (hdb : (x == ("__debug__" : Str)) = false := by decide)
    (he : starEach (e :: es) X.env = (false, eval e X.env) :: starEach es X.env := by rfl) (hpl : (backTo pos (starEach es X.env)).any (·.1) = false := by rfl) : PE X (.Call (.Name x p) (e :: es) [] pos) (tCallS (spF X.K κ ps.length F) (WE W) t) := by
  obtain ⟨a, fd, G, hm, hk, hb⟩ := D.ex
  exact pe_callG G (hr.mono hl) hq hm hk hb tk ha hg hdb he hpl
theorem pe_def0 (D : Def X.prog X.w X.K κ X.mg X.base x l ps F) (hr : Room k X.A) (hl : l ≤ k) (hq : X.A.guards = some []) (tk : Takes X W) (hg : Gl X x := by rfl) (hdb : (x == ("__debug__" : Str)) = false := by decide) :
    PE X (.Call (.Name x p) [] [] pos) (tCallS (spF X.K κ ps.length F) (WE W) tNil) := by
  obtain ⟨a, fd, G, hm, hk, hb⟩ := D.ex
  exact pe_callG0 G (hr.mono hl) hq hm hk hb tk hg hdb
end
section
variable {K : PySem.W.Frag} {κ : Cls}
/-- never reached -/
def sNever : SS K κ where
  ts := fun _ => tNever
  sv := fun _ => .bad
  asg := []
  ok := fun Wx G H ρ σ L E hG hE hN p => p.elim
/-- a, b = x, y (names i, j) -/
def sPar (i j : Nat) (hij : i ≠ j) (a b : SE K κ) : SS K κ where
  ts := fun Wx => tPar i j (tCons (a.te Wx) (tCons (b.te Wx) tNil))
  sv := fun ρ => (a.ev ρ).bindD fun x ρ => (b.ev ρ).bindD fun y ρ => if i < ρ.length ∧ j < ρ.length then .ok .nx ((ρ.set i (some (.d x))).set j (some (.d y))) else .bad
  asg := [i, j]
  ok := fun Wx G H ρ σ L E hG hE hN p => a.ok.thenS hG hE hN p fun x vx ρ1 G1 H1 L1 u1 e1 n1 r1 p => b.ok.thenS u1.gh e1 n1 p fun y vy ρ2 G2 H2 L2 u2 e2 n2 r2 p => by
    split at p
    · rename_i h
      obtain ⟨L3, f1, f2, f3⟩ := e2.put (w := .d x) (v := vx) (B := []) i ⟨rfl, r1.mono u2.g⟩ n2 h.1
      obtain ⟨L4, g1, g2, g3⟩ := f1.put (w := .d y) (v := vy) (B := []) j ⟨rfl, r2⟩ f2 (by simpa using h.2)
      refine ⟨vx, vy, rfl, p _ G2 H2 L4 ((Stp.refl u2.gh).sub fun c z => ?_) g1 g2 ⟨by simp, fun m hm => ?_⟩⟩
      · exact f3 c (by simpa using g3 c z) |> fun z => by simpa using z
      · rw [List.getElem?_set_ne (fun z => hm (by simp [z])), List.getElem?_set_ne (fun z => hm (by simp [z]))]
    · exact p.elim
/-! ### tuples and lists made of others -/
def gTupOf : List D → Option D
  | [.lst xs] => some (.tup xs)
  | [.tup xs] => some (.tup xs)
  | _ => none
theorem cbTupOf : CbS K κ (rTupOfP K) gTupOf := fun G H vs xs z Q hG ra e k => by
  unfold gTupOf at e
  split at e
  · cases e
    cases ra with
    | cons h t =>
      cases t
      cases h with
      | lst hs rs => exact ⟨_, _, rfl, .inl ⟨ex_l hG hs, fun l o hl hd => k _ _ _ (.new hG hl) (.tup (.new hd) (rs.mono (Evl.Ex.new (fresh hG hl))))⟩⟩
  · cases e
    cases ra with
    | cons h t =>
      cases t
      cases h with
      | tup hs rs => exact ⟨_, _, rfl, .inr ⟨ex_t hG hs.sq, k _ G H (.refl0 hG) (.tup hs rs)⟩⟩
  · cases e
def eTupOf := eCB (K := K) (κ := κ) _ _ cbTupOf
def gLstOf : List D → Option D
  | [.lst xs] => some (.lst xs)
  | [.tup xs] => some (.lst xs)
  | _ => none
def rLstOf (K : PySem.W.Frag) : List V → Hp → VK → Prop := fun xs H Q => ∃ p ys, xs = [.ref p] ∧ (SqL K H p ys ∨ SqT K H p ys) ∧ ∀ l, H l = none → Q (.ref l) (upd H l (.lst ys))
theorem cbLstOf : CbS K κ (rLstOf K) gLstOf := fun G H vs xs z Q hG ra e k => by
  unfold gLstOf at e
  split at e
  · cases e
    cases ra with
    | cons h t =>
      cases t
      cases h with
      | lst hs rs => exact ⟨_, _, rfl, .inl (ex_l hG hs), fun l hl => k _ _ _ (.new hG hl) (.lst (SqL.of upd_same) (rs.mono (Evl.Ex.new (fresh hG hl))))⟩
  · cases e
    cases ra with
    | cons h t =>
      cases t
      cases h with
      | tup hs rs => exact ⟨_, _, rfl, .inr (ex_t hG hs.sq), fun l hl => k _ _ _ (.new hG hl) (.lst (SqL.of upd_same) (rs.mono (Evl.Ex.new (fresh hG hl))))⟩
  · cases e
def eLstOf := eCB (K := K) (κ := κ) _ _ cbLstOf
/-- t + u, tuples -/
def gCatT : D → D → Option D
  | .tup xs, .tup ys => if xs.length + ys.length ≤ 1000000 then some (.tup (xs ++ ys)) else none
  | _, _ => none
theorem opCatT : OpS K κ (rCatP K) gCatT := fun G H vx vy x y z Q hG rx ry e k => by
  cases rx with
  | @tup a us xs hs ra =>
    cases ry with
    | @tup b ws ys ht rb =>
      simp only [gCatT] at e
      split at e
      · rename_i hz
        cases e
        have l1 := ra.length
        have l2 := rb.length
        refine ⟨a, b, us, ws, rfl, rfl, ex_t hG hs.sq, ex_t hG ht.sq, Nat.le_trans (by omega : us.length + ws.length ≤ 1000000) (by decide), fun h => ?_, fun _ h => ?_, fun _ _ p o hp hd => ?_⟩
        · subst h
          cases ra
          exact k _ G H (.refl0 hG) (.tup ht rb)
        · subst h
          cases rb
          exact k _ G H (.refl0 hG) (by rw [List.append_nil]; exact .tup hs ra)
        · exact k _ _ _ (.new hG hp) (.tup (.new hd) ((ra.append rb).mono (Evl.Ex.new (fresh hG hp))))
      · cases e
    | _ => cases e
  | _ => cases e
def eCatT := eOp (K := K) (κ := κ) _ _ opCatT
/-- t[lo:hi] of a tuple -/
def cutD (xs : List D) (lo hi : Option Int) : List D := (xs.drop (HT.sIx xs.length 0 lo)).take (HT.sIx xs.length xs.length hi - HT.sIx xs.length 0 lo)
theorem cut_ok {G : Hp} {vs : List V} {xs : List D} (r : RpAll K κ G vs xs) (lo hi : Option Int) : RpAll K κ G (cutV vs lo hi) (cutD xs lo hi) := by
  unfold cutV cutD
  rw [r.length]
  exact (r.drop _).take _
theorem cut_whole {xs : List D} {lo hi : Option Int} (h : HT.sIx xs.length 0 lo = 0 ∧ HT.sIx xs.length xs.length hi = xs.length) : cutD xs lo hi = xs := by
  unfold cutD
  rw [h.1, h.2]
  simp
/-- an optional end: an expression for an int -/
structure SO (K : PySem.W.Frag) (κ : Cls) where
  to : WX → TO
  ev : Env → R Env (Option Int)
  ok : ∀ (Wx : WX) (G H : Hp) (ρ : Env) (σ : St) (L : List Addr) (Q : Option Int → Hp → Prop), Ex G H → EnvR K κ G H ρ σ L → L.Nodup → Post K κ (fun _ _ a b L => L = [] ∧ a = b) Wx σ G H L (ev ρ) Q → to Wx σ H Q
def o0 : SO K κ where
  to := fun _ => tNoPart
  ev := fun ρ => .ok none ρ
  ok := fun Wx G H ρ σ L Q hG hE hN p => p none G H [] L (.refl hG) hE ⟨rfl, rfl⟩ hN
def o1 (a : SE K κ) : SO K κ where
  to := fun Wx => tPart (a.te Wx)
  ev := fun ρ => (a.ev ρ).bindD fun x ρ => match x with
    | .int i => .ok (some i) ρ
    | _ => .bad
  ok := fun Wx G H ρ σ L Q hG hE hN p => a.ok.then hG hE hN p fun x vx ρ1 G1 H1 L1 u1 e1 n1 r1 p => by
    cases r1 with
    | int i => exact ⟨i, rfl, p (some i) G1 H1 [] L1 (.refl u1.gh) e1 ⟨rfl, rfl⟩ n1⟩
    | _ => exact p.elim
theorem SO.then (s : SO K κ) {β ν : Type} {Rel : Hp → Hp → β → ν → List Addr → Prop} {Wx : WX} {G H : Hp} {ρ : Env} {σ : St} {L : List Addr} {Q : ν → Hp → Prop} {k : Option Int → Env → R Env β} {q : Option Int → Hp → Prop} (hG : Ex G H) (hE : EnvR K κ G H ρ σ L) (hN : L.Nodup) (p : Post K κ Rel Wx σ G H L (R.bind (s.ev ρ) k) Q)
    (go : ∀ o ρ1 G1 H1 L1, Stp G H L G1 H1 L1 → EnvR K κ G1 H1 ρ1 σ L1 → L1.Nodup → Post K κ Rel Wx σ G1 H1 L1 (k o ρ1) Q → q o H1) : s.to Wx σ H q := by
  refine s.ok Wx G H ρ σ L q hG hE hN ?_
  cases h : s.ev ρ with
  | ok as ρ1 =>
    rw [h] at p
    intro v G1 H1 Lw L1 st e r nd
    obtain ⟨rfl, rfl⟩ := r
    exact go as ρ1 G1 H1 L1 st e nd (p.trans st)
  | exc c f ρ1 => rw [h] at p; exact p
  | bad => rw [h] at p; exact p.elim
def eSlT (a : SE K κ) (lo hi : SO K κ) : SE K κ where
  te := fun Wx => tSl (rSlP K) (a.te Wx) (lo.to Wx) (hi.to Wx)
  ev := fun ρ => (a.ev ρ).bindD fun x ρ => (lo.ev ρ).bind fun i ρ => (hi.ev ρ).bind fun j ρ => match x with
    | .tup xs => .ok (.d (.tup (cutD xs i j))) ρ
    | _ => .bad
  ok := fun Wx G H ρ σ L Q hG hE hN p => a.ok.then hG hE hN p fun x vx ρ1 G1 H1 L1 u1 e1 n1 r1 p => lo.then u1.gh e1 n1 p fun i ρ2 G2 H2 L2 u2 e2 n2 p => hi.then u2.gh e2 n2 p fun j ρ3 G3 H3 L3 u3 e3 n3 p => by
    have r3 := r1.mono (u2.g.trans u3.g)
    cases r3 with
    | @tup b us xs hs ra =>
      have ll := ra.length
      refine ⟨b, us, rfl, ex_t u3.gh hs.sq, fun h => ?_, fun h q o hq hd => ?_⟩
      · rw [ll] at h
        dsimp only at p
        rw [cut_whole h] at p
        exact p.ret (.refl u3.gh) e3 n3 (.tup hs ra)
      · exact p.ret (.new u3.gh hq) (e3.new u3.gh hq) n3 (.tup (.new hd) ((cut_ok ra i j).mono (Evl.Ex.new (fresh u3.gh hq))))
    | _ => exact p.elim
end
end Pv

set_option maxRecDepth 100000
set_option maxHeartbeats 4000000
namespace Pv
open PySem PySem.Spec PyProof.Rows L2
/-! ### dicts that a slot owns -/
def lookD (kvs : List (Key × D)) (k : Key) : Option D := (kvs.find? fun p => decide (p.1 = k)).map (·.2)
def storeD (kvs : List (Key × D)) (k : Key) (x : D) : List (Key × D) :=
  if (kvs.any fun p => decide (p.1 = k)) = true then kvs.map (fun p => if p.1 = k then (p.1, x) else p) else kvs ++ [(k, x)]
def D.key : D → Option Key
  | .int i => some (.inl i)
  | .str s => some (.inr s)
  | _ => none
section
variable {K : PySem.W.Frag} {κ : Cls} {G H : Hp}
theorem Rp.key {v : V} {x : D} {k : Key} (r : Rp K κ G v x) (h : D.key x = some k) : v = kV k := by
  cases r <;> first | (cases h; rfl) | exact nomatch h
theorem KvAll.length : ∀ {ks : List (Key × V)} {kvs : List (Key × D)}, KvAll K κ G ks kvs → ks.length = kvs.length
  | [], [], _ => rfl
  | (_, _) :: _, (_, _) :: _, ⟨_, _, q⟩ => congrArg (· + 1) (KvAll.length q)
theorem KvAll.look {k : Key} : ∀ {ks : List (Key × V)} {kvs : List (Key × D)}, KvAll K κ G ks kvs → match lookD kvs k with
    | some x => ∃ v, valV ks k = some v ∧ Rp K κ G v x
    | none => valV ks k = none
  | [], [], _ => by
    show (valV ([] : List (Key × V)) k = none)
    rfl
  | (a, v) :: ks, (b, x) :: kvs, ⟨e, r, q⟩ => by
    subst e
    unfold lookD valV
    by_cases h : a = k
    · simp only [List.find?, decide_eq_true h]
      exact ⟨v, rfl, r⟩
    · simp only [List.find?, decide_eq_false h]
      exact KvAll.look q
theorem KvAll.any {k : Key} : ∀ {ks : List (Key × V)} {kvs : List (Key × D)}, KvAll K κ G ks kvs → (ks.any fun p => decide (p.1 = k)) = (kvs.any fun p => decide (p.1 = k))
  | [], [], _ => rfl
  | (a, v) :: ks, (b, x) :: kvs, ⟨e, r, q⟩ => by
    subst e
    simp only [List.any_cons, KvAll.any q]
theorem KvAll.mapped {k : Key} {v : V} {x : D} (h : Rp K κ G v x) : ∀ {ks : List (Key × V)} {kvs : List (Key × D)}, KvAll K κ G ks kvs → KvAll K κ G (ks.map fun p => if p.1 = k then (p.1, v) else p) (kvs.map fun p => if p.1 = k then (p.1, x) else p)
  | [], [], _ => trivial
  | (a, u) :: ks, (b, y) :: kvs, ⟨e, r, q⟩ => by
    subst e
    simp only [List.map_cons]
    by_cases z : a = k
    · rw [if_pos z, if_pos z]
      exact ⟨rfl, h, KvAll.mapped h q⟩
    · rw [if_neg z, if_neg z]
      exact ⟨rfl, r, KvAll.mapped h q⟩
theorem KvAll.snoc {k : Key} {v : V} {x : D} (h : Rp K κ G v x) : ∀ {ks : List (Key × V)} {kvs : List (Key × D)}, KvAll K κ G ks kvs → KvAll K κ G (ks ++ [(k, v)]) (kvs ++ [(k, x)])
  | [], [], _ => ⟨rfl, h, trivial⟩
  | (a, u) :: ks, (b, y) :: kvs, ⟨e, r, q⟩ => ⟨e, r, KvAll.snoc h q⟩
theorem KvAll.store {k : Key} {v : V} {x : D} {ks : List (Key × V)} {kvs : List (Key × D)} (r : KvAll K κ G ks kvs) (h : Rp K κ G v x) : KvAll K κ G (putK ks k v) (storeD kvs k x) := by
  unfold putK storeD
  rw [r.any]
  split
  · exact r.mapped h
  · exact r.snoc h
theorem KvAll.merge : ∀ {ms : List (Key × V)} {mvs : List (Key × D)} {ks : List (Key × V)} {kvs : List (Key × D)}, KvAll K κ G ms mvs → KvAll K κ G ks kvs → KvAll K κ G (mergeK ks ms) (mvs.foldl (fun acc p => storeD acc p.1 p.2) kvs)
  | [], [], _, _, _, r => r
  | (a, v) :: ms, (b, x) :: mvs, ks, kvs, ⟨e, h, q⟩, r => by
    subst e
    exact KvAll.merge (ms := ms) (mvs := mvs) q (r.store h)
theorem KvAll.keys : ∀ {ks : List (Key × V)} {kvs : List (Key × D)}, KvAll K κ G ks kvs → ks.map (·.1) = kvs.map (·.1)
  | [], [], _ => rfl
  | (_, _) :: _, (_, _) :: _, ⟨e, _, q⟩ => by
    rw [List.map_cons, List.map_cons, KvAll.keys q]
    exact congrArg (· :: _) e
/-- an owned dict of slot i, as it stands, and changed -/
theorem EnvR.dict {ρ : Env} {σ : St} {L : List Addr} {i : Nat} {kvs : List (Key × D)} (hG : Ex G H) (r : EnvR K κ G H ρ σ L) (nd : L.Nodup) (e : ρ[i]? = some (some (.md kvs))) :
    ∃ a ks, σ[i]? = some (some (.ref a)) ∧ G a = none ∧ H a = some (.dK ks) ∧ KvAll K κ G ks kvs ∧
      (∀ us ys, KvAll K κ G us ys → Stp G H L G (upd H a (.dK us)) L ∧ EnvR K κ G (upd H a (.dK us)) (ρ.set i (some (.md ys))) σ L) := by
  obtain ⟨v, A, B, C, h1, h2, h3, h4⟩ := r.at e
  obtain ⟨a, ks, rfl, rfl, g, h, q⟩ := h3
  subst h2
  have hi : σ.set i (some (.ref a)) = σ := set_same h1
  have nd1 := List.nodup_append.mp nd
  have nd2 := List.nodup_append.mp nd1.1
  have ne : ∀ b ∈ A ++ C, b ≠ a := fun b hb z => by
    subst z
    rcases List.mem_append.mp hb with hb | hb
    · exact nd2.2.2 b hb b (by simp) rfl
    · exact nd1.2.2 b (by simp) b hb rfl
  have there := r.there
  refine ⟨a, ks, h1, g, h, q, fun us ys qu => ⟨⟨Evl.Ex.refl G, fun b o p n => ?_, fun b p => ?_, fun _ _ _ n => n, fun _ z => .inl z, fun b o p => ?_⟩, ?_⟩⟩
  · have z : b ≠ a := fun z => n (by rw [z]; simp)
    rw [upd_ne z]; exact p
  · by_cases z : b = a
    · rw [z, upd_same] at p; cases p
    · rw [upd_ne z] at p; exact p
  · have z : b ≠ a := fun z => by rw [z, g] at p; cases p
    rw [upd_ne z]; exact hG b o p
  · have := h4 G (upd H a (.dK us)) (.md ys) (.ref a) [a] (Evl.Ex.refl G) (fun b hb => (there b (by
      rcases List.mem_append.mp hb with hb | hb <;> simp [hb])).2) (fun b hb o p => by rw [upd_ne (ne b hb)]; exact p) ⟨a, us, rfl, rfl, g, upd_same, qu⟩
    rw [hi] at this
    exact this
/-- d[k] = v, d the name in slot i -/
def sSetD (i : Nat) (k e : SE K κ) : SS K κ where
  ts := fun Wx => sDPut (tVar i) (k.te Wx) (e.te Wx)
  sv := fun ρ => (e.ev ρ).bindD fun x ρ => match ρ[i]? with
    | some (some (.md _)) => (k.ev ρ).bindD fun y ρ => match D.key y, ρ[i]? with
      | some kk, some (some (.md kvs)) => if kvs.length < 1000000 then .ok .nx (ρ.set i (some (.md (storeD kvs kk x)))) else .bad
      | _, _ => .bad
    | _ => .bad
  asg := []
  ok := fun Wx G H ρ σ L E hG hE hN p => e.ok.thenS hG hE hN p fun x vx ρ1 G1 H1 L1 u1 e1 n1 r1 p => by
    split at p
    · rename_i kv0 h0
      obtain ⟨a0, _, s0, _⟩ := e1.dict u1.gh n1 h0
      refine ⟨_, s0, k.ok.thenS u1.gh e1 n1 p fun y vy ρ2 G2 H2 L2 u2 e2 n2 r2 p => ?_⟩
      split at p
      · rename_i kk kvs hk h
        split at p
        · rename_i hz
          obtain ⟨a, ks, s1, g, hd, q, put⟩ := e2.dict u2.gh n2 h
          rw [s0] at s1
          cases s1
          obtain ⟨st, en⟩ := put _ _ (q.store (k := kk) (r1.mono u2.g))
          have hl := q.length
          refine ⟨a0, _, rfl, ?_, p σ G2 _ L2 st en n2 (.refl _ _)⟩
          rw [r2.key hk]
          exact .k hd (Nat.lt_of_lt_of_le (by omega : ks.length < 1000000) (by decide))
        · exact p.elim
      · exact p.elim
    · exact p.elim
/-- d[k] -/
def eIxD (i : Nat) (k : SE K κ) : SE K κ where
  te := fun Wx => tDGet (tVar i) (k.te Wx)
  ev := fun ρ => match ρ[i]? with
    | some (some (.md _)) => (k.ev ρ).bindD fun y ρ => match D.key y, ρ[i]? with
      | some kk, some (some (.md kvs)) => R.of (lookD kvs kk) ρ
      | _, _ => .bad
    | _ => .bad
  ok := fun Wx G H ρ σ L Q hG hE hN p => by
    dsimp only at p
    split at p
    · rename_i kv0 h0
      obtain ⟨a0, _, s0, _⟩ := hE.dict hG hN h0
      refine ⟨_, s0, k.ok.then hG hE hN p fun y vy ρ2 G2 H2 L2 u2 e2 n2 r2 p => ?_⟩
      split at p
      · rename_i kk kvs hk h
        obtain ⟨a, ks, s1, g, hd, q, put⟩ := e2.dict u2.gh n2 h
        rw [s0] at s1
        cases s1
        obtain ⟨x, hx⟩ := p.some
        have hl := q.look (k := kk)
        rw [hx] at hl
        obtain ⟨v, hv, rv⟩ := hl
        refine ⟨a0, v, rfl, ?_, p.of hx (.refl u2.gh) e2 n2 rv⟩
        rw [r2.key hk, ← hv]
        exact .k hd
      · exact p.elim
    · exact p.elim
/-- d.get(k, x) -/
def eGetD (i : Nat) (k e : SE K κ) : SE K κ where
  te := fun Wx => tDGet2 (tVar i) (k.te Wx) (e.te Wx)
  ev := fun ρ => match ρ[i]? with
    | some (some (.md _)) => (k.ev ρ).bindD fun y ρ => (e.ev ρ).bindD fun z ρ => match D.key y, ρ[i]? with
      | some kk, some (some (.md kvs)) => .ok (.d ((lookD kvs kk).getD z)) ρ
      | _, _ => .bad
    | _ => .bad
  ok := fun Wx G H ρ σ L Q hG hE hN p => by
    dsimp only at p
    split at p
    · rename_i kv0 h0
      obtain ⟨a0, ks0, s0, _, hd0, _⟩ := hE.dict hG hN h0
      refine ⟨_, s0, a0, rfl, .inl ⟨ks0, .of hd0⟩, k.ok.then hG hE hN p fun y vy ρ2 G2 H2 L2 u2 e2 n2 r2 p => e.ok.then u2.gh e2 n2 p fun z vz ρ3 G3 H3 L3 u3 e3 n3 r3 p => ?_⟩
      split at p
      · rename_i kk kvs hk h
        obtain ⟨a, ks, s1, g, hd, q, put⟩ := e3.dict u3.gh n3 h
        rw [s0] at s1
        cases s1
        have hl := q.look (k := kk)
        refine ⟨valV ks kk, ?_, ?_⟩
        · rw [r2.key hk]
          exact .k hd
        · cases hx : lookD kvs kk with
          | none =>
            rw [hx] at hl p
            rw [hl]
            exact p.ret (.refl u3.gh) e3 n3 r3
          | some x =>
            rw [hx] at hl p
            obtain ⟨v, hv, rv⟩ := hl
            rw [hv]
            exact p.ret (.refl u3.gh) e3 n3 rv
      · exact p.elim
    · exact p.elim
/-- the ints of a dict's keys -/
def keysI : List (Key × D) → Option (List Int)
  | [] => some []
  | (.inl i, _) :: kvs => match keysI kvs with
    | some is => some (i :: is)
    | none => none
  | (.inr _, _) :: _ => none
theorem keysI_ok : ∀ {kvs : List (Key × D)} {is : List Int}, keysI kvs = some is → kvs.map (·.1) = is.map Sum.inl
  | [], is, e => by cases e; rfl
  | (.inl i, x) :: kvs, is, e => by
    simp only [keysI] at e
    split at e
    · rename_i js hj
      cases e
      rw [List.map_cons, List.map_cons, keysI_ok hj]
    · cases e
  | (.inr s, x) :: kvs, is, e => by cases e
def insI (i : Int) : List Int → List Int
  | [] => [i]
  | j :: js => if i ≤ j then i :: j :: js else j :: insI i js
def sortI : List Int → List Int
  | [] => []
  | i :: is => insI i (sortI is)
theorem insI_perm (i : Int) : ∀ js : List Int, (insI i js).Perm (i :: js)
  | [] => .refl _
  | j :: js => by
    unfold insI
    split
    · exact .refl _
    · exact ((insI_perm i js).cons j).trans (.swap i j js)
theorem sortI_perm : ∀ is : List Int, (sortI is).Perm is
  | [] => .refl _
  | i :: is => (insI_perm i (sortI is)).trans ((sortI_perm is).cons i)
theorem insI_sorted (i : Int) : ∀ {js : List Int}, js.Pairwise (· ≤ ·) → (insI i js).Pairwise (· ≤ ·)
  | [], _ => by simp [insI]
  | j :: js, h => by
    unfold insI
    have h' := List.pairwise_cons.mp h
    split
    · rename_i hij
      exact List.pairwise_cons.mpr ⟨fun a ha => by
        rcases List.mem_cons.mp ha with z | z
        · omega
        · have := h'.1 a z
          omega, h⟩
    · rename_i hij
      refine List.pairwise_cons.mpr ⟨fun a ha => ?_, insI_sorted i h'.2⟩
      rcases List.mem_cons.mp ((insI_perm i js).mem_iff.mp ha) with z | z
      · omega
      · exact h'.1 a z
theorem sortI_sorted : ∀ is : List Int, (sortI is).Pairwise (· ≤ ·)
  | [] => .nil
  | i :: is => insI_sorted i (sortI_sorted is)
theorem sorted_one : ∀ {xs ys : List Int}, xs.Perm ys → xs.Pairwise (· ≤ ·) → ys.Pairwise (· ≤ ·) → xs = ys
  | [], ys, p, _, _ => (List.nil_perm.mp p).symm
  | x :: xs, [], p, _, _ => absurd p.symm (by simp)
  | x :: xs, y :: ys, p, hx, hy => by
    have hx' := List.pairwise_cons.mp hx
    have hy' := List.pairwise_cons.mp hy
    have exy : x = y := by
      have m1 : x ∈ y :: ys := p.mem_iff.mp List.mem_cons_self
      have m2 : y ∈ x :: xs := p.mem_iff.mpr List.mem_cons_self
      rcases List.mem_cons.mp m1 with z | z
      · exact z
      · rcases List.mem_cons.mp m2 with z2 | z2
        · exact z2.symm
        · have := hx'.1 y z2
          have := hy'.1 x z
          omega
    subst exy
    rw [sorted_one (p.cons_inv) hx'.2 hy'.2]
/-- sorted(d), d the name in slot i, fewer than 64 whole numbers for keys -/
def rSortD : List V → Hp → VK → Prop := fun xs H Q => ∃ (a : Addr) (kvs : List (Key × V)) (ks : List Int), xs = [.ref a] ∧ Rd H a (.dK kvs) ∧ kvs.map (·.1) = ks.map Sum.inl ∧ ks.length < 64 ∧
    ∀ (ys : List Int) (p : Addr), ys.Perm ks → ys.Pairwise (· ≤ ·) → H p = none → Q (.ref p) (upd H p (.lst (ys.map V.int)))
theorem ints_ok {G : Hp} : ∀ is : List Int, RpAll K κ G (is.map V.int) (is.map D.int)
  | [] => .nil
  | i :: is => .cons (.int i) (ints_ok is)
def eSortD (i : Nat) : SE K κ where
  te := fun _ => tCB rSortD (tCons (tVar i) tNil)
  ev := fun ρ => match ρ[i]? with
    | some (some (.md kvs)) => match keysI kvs with
      | some is => if is.length < 64 then .ok (.d (.lst ((sortI is).map .int))) ρ else .bad
      | none => .bad
    | _ => .bad
  ok := fun Wx G H ρ σ L Q hG hE hN p => by
    dsimp only at p
    split at p
    · rename_i kvs h
      split at p
      · rename_i is hk
        split at p
        · rename_i hz
          obtain ⟨a, ks, s0, g, hd, q, _⟩ := hE.dict hG hN h
          refine ⟨_, s0, a, ks, is, rfl, .of hd, by rw [q.keys]; exact keysI_ok hk, hz, fun ys b py sy hb => ?_⟩
          have e := sorted_one (py.trans (sortI_perm is).symm) sy (sortI_sorted is)
          subst e
          exact p.ret (.new hG hb) (hE.new hG hb) hN (.lst (SqL.of upd_same) (ints_ok _))
        · exact p.elim
      · exact p.elim
    · exact p.elim
/-! ### dict(pairs) -/
/-- the pairs of a sequence of tuples of two -/
def pairsD : List D → Option (List (Key × D))
  | [] => some []
  | .tup [x, y] :: xs => match D.key x, pairsD xs with
    | some k, some kvs => some ((k, y) :: kvs)
    | _, _ => none
  | _ :: _ => none
theorem pairs_ok {G : Hp} : ∀ {vs : List V} {xs : List D} {kvs : List (Key × D)}, RpAll K κ G vs xs → pairsD xs = some kvs → ∃ (ps : List Addr) (ks : List (Key × V)), vs = ps.map V.ref ∧ KvAll K κ G ks kvs ∧ Paired (fun p kv => SqT K G p [kV kv.1, kv.2]) ps ks
  | _, _, kvs, .nil, e => by
    cases e
    exact ⟨[], [], rfl, trivial, .nil⟩
  | _, _, kvs, .cons (x := x) h t, e => by
    cases h with
    | tup hs ra =>
      cases ra with
      | nil => cases e
      | cons h1 ra =>
        cases ra with
        | nil => cases e
        | cons h2 ra =>
          cases ra with
          | cons _ _ => cases e
          | nil =>
            simp only [pairsD] at e
            split at e
            · rename_i k kvs' hk hp
              cases e
              obtain ⟨ps, ks, rfl, q1, q2⟩ := pairs_ok t hp
              have ev := h1.key hk
              subst ev
              exact ⟨_ :: ps, (k, _) :: ks, rfl, ⟨rfl, h2, q1⟩, .cons hs.sq q2⟩
            · cases e
    | _ => cases e
def rDictP (K : PySem.W.Frag) : List V → Hp → VK → Prop := fun xs H Q => ∃ (a : Addr) (ps : List Addr) (kvs : List (Key × V)), xs = [.ref a] ∧ (SqL K H a (ps.map V.ref) ∨ Tp K H a (ps.map V.ref)) ∧ Paired (fun p kv => SqT K H p [kV kv.1, kv.2]) ps kvs ∧
    ∀ p, H p = none → Q (.ref p) (upd H p (.dK (mergeK [] kvs)))
/-- dict(e), e a list or tuple of pairs; the slot that is assigned it owns it -/
def eDict (a : SE K κ) : SE K κ where
  te := fun Wx => tCB (rDictP K) (tCons (a.te Wx) tNil)
  ev := fun ρ => (a.ev ρ).bindD fun x ρ => match D.seq x with
    | some xs => match pairsD xs with
      | some kvs => .ok (.md (kvs.foldl (fun acc p => storeD acc p.1 p.2) [])) ρ
      | none => .bad
    | none => .bad
  ok := fun Wx G H ρ σ L Q hG hE hN p => a.ok.then hG hE hN p fun x vx ρ1 G1 H1 L1 u1 e1 n1 r1 p => by
    have fin : ∀ (b : Addr) (vs : List V) (xs : List D), vx = .ref b → D.seq x = some xs → RpAll K κ G1 vs xs → (SqL K H1 b vs ∨ Tp K H1 b vs) → rDictP K [vx] H1 Q := fun b vs xs eb es ra hs => by
      subst eb
      rw [es] at p
      dsimp only at p
      split at p
      · rename_i kvs hp
        obtain ⟨ps, ks, rfl, q1, q2⟩ := pairs_ok ra hp
        refine ⟨b, ps, ks, rfl, hs, Paired.mapP q2 fun _ _ z => ex_t u1.gh z, fun c hc => ?_⟩
        exact p _ G1 _ [c] L1 (.own u1.gh hc) (e1.ownNew hc) ⟨c, _, rfl, rfl, fresh u1.gh hc, upd_same, KvAll.merge (ks := []) (kvs := []) q1 trivial⟩ (own_nodup hc e1 n1)
      · exact p.elim
    cases r1 with
    | tup hs ra => exact fin _ _ _ rfl rfl ra (.inr (hs.mono u1.gh))
    | lst hs ra => exact fin _ _ _ rfl rfl ra (.inl (ex_l u1.gh hs))
    | _ => exact p.elim
end
theorem pairs2 {X : Cx} {pins : List (Addr × Obj)} {σ : St} {H : Hp} {s : Shared} (I : Inv X pins σ H s) : ∀ {ps : List Addr} {kvs : List (Key × V)}, Paired (fun p kv => SqT X.K H p [kV kv.1, kv.2]) ps kvs →
    ∃ (prs : List (Key × Value)) (uvs : List (Value × Value)), KV kvs prs ∧ prs.length = ps.length ∧ uvs.length = ps.length ∧
      ∀ (j : Nat) (u v : Value), uvs[j]? = some (u, v) → ∃ (b : Addr) (k : Key), ps[j]? = some b ∧ PairAt s.heap b u v ∧ prs[j]? = some (k, v) ∧ keyIs k u = true
  | _, _, .nil => ⟨[], [], .nil, rfl, rfl, fun j u v e => by simp at e⟩
  | _, _, .cons (a := p) (b := kv) h t => by
    obtain ⟨prs, uvs, r, l1, l2, each⟩ := pairs2 I t
    obtain ⟨its, rv, ht, _⟩ := I.tuple h
    cases rv with
    | cons ru rv =>
      rename_i u0 us0
      cases rv with
      | cons ry rv =>
        rename_i v0 us1
        cases rv
        have hk : keyIs kv.1 u0 = true := by
          obtain ⟨k, y⟩ := kv
          cases k with
          | inl i => obtain ⟨t, rfl⟩ := ru; exact keyIs_int i t
          | inr x => obtain ⟨t, rfl⟩ := ru; exact keyIs_str x t
        refine ⟨(kv.1, v0) :: prs, (u0, v0) :: uvs, .cons ⟨rfl, ry⟩ r, by simp [l1], by simp [l2], fun j u v e => ?_⟩
        cases j with
        | zero =>
          simp only [List.getElem?_cons_zero, Option.some.injEq, Prod.mk.injEq] at e
          obtain ⟨rfl, rfl⟩ := e
          exact ⟨p, kv.1, rfl, .inl ht, rfl, hk⟩
        | succ j =>
          obtain ⟨b, k, e1, e2, e3, e4⟩ := each j u v (by simpa using e)
          exact ⟨b, k, by simpa using e1, e2, by simpa using e3, e4⟩
theorem call_dictS {X : Cx} (hc : X.calm = true) : CallR X (.type "dict") (rDictP X.K) := by
  intro pins s σ H xs us Q I r h
  obtain ⟨a, ps, kvs, rfl, hs | hs, hp, q⟩ := h
  · exact call_dictP hc pins s σ H _ us Q I r ⟨a, ps, kvs, rfl, hs, hp, q⟩
  · cases r with
    | cons r1 r =>
      cases r
      cases r1
      obtain ⟨its, vals, tup, z⟩ := I.tuple hs.sq
      have eits := refs_at vals
      subst eits
      rw [List.length_map] at z
      obtain ⟨prs, uvs, rel, len, len2, each⟩ := pairs2 I hp
      have plain : PlainSeq "tuple" s.heap a (ps.map Value.ref).toArray := by
        obtain ⟨o', get', c', n, d'⟩ := tup
        rcases hs with ⟨o, ho, hd⟩ | ⟨o, arr, m, hk, _, _, _, _, hd⟩
        · have get := (I.hok a _ ho).1
          rw [get] at get'
          cases get'
          exact ⟨_, n, get, c', hd, d'⟩
        · have get := I.kIn a o hk
          rw [get] at get'
          cases get'
          exact ⟨_, n, get, c', hd, d'⟩
      refine PySem.call_dict_pairs (knd := mixKind X.prog X.w) (kvs := prs) (PairArg.tuple a _ (fun j => ps.getD j 0) uvs) (I.ok.hd hc) ⟨plain, by rw [List.size_toArray, List.length_map, len2], fun j u v e => ?_⟩ ⟨by rw [len, len2], fun j u v e => ?_⟩ (by rw [len2]; exact z) fun h' tk hd' kept => ?_
      · obtain ⟨b, k, e1, e2, e3, e4⟩ := each j u v e
        have eg : ps.getD j 0 = b := by rw [List.getD_eq_getElem?_getD, e1]; rfl
        dsimp only
        rw [eg]
        exact ⟨by simp [e1], e2⟩
      · obtain ⟨b, k, e1, e2, e3, e4⟩ := each j u v e
        exact ⟨k, e3, e4⟩
      · have hm : (s.heap.objs.size == sysModules) = false := beq_eq_false_iff_ne.mpr (Nat.ne_of_gt I.big)
        have small : (mergeK [] kvs).length ≤ sizeLine := by
          have := length_mergeK kvs []
          have r2 := rel.length
          rw [List.length_nil] at this
          omega
        have J : Inv X pins σ (upd H s.heap.objs.size (.dK (mergeK [] kvs))) { s with heap := h', toks := tk } :=
          I.laid (t' := tk) (fun b o q => kept b o (fun w => nomatch w) q) (Nat.le_refl _) (show ObjOk X.prog X.w _ _ _ (.dK (mergeK [] kvs)) from ⟨small, hm, merged [] prs, KV.merge rel .nil, hd'⟩)
        exact ⟨.ref s.heap.objs.size, _, J, rfl, q _ (I.hok.fresh (Nat.le_refl _))⟩
end Pv

set_option maxRecDepth 100000
set_option maxHeartbeats 4000000
namespace Pv
open PySem PySem.Spec PyProof.Rows L2
section
variable {K : PySem.W.Frag} {κ : Cls}
/-- -3, written -/
def eNegC (i : Int) : SE K κ where
  te := fun _ => tUn (rU fun i => .int (-i)) (tC (.int i))
  ev := fun ρ => .ok (.d (.int (-i))) ρ
  ok := fun Wx G H ρ σ L Q hG hE hN p => ⟨i, rfl, p.ret (.refl hG) hE hN (.int _)⟩
/-- t[::-1] of a tuple -/
def tRevT (K : PySem.W.Frag) (te : TE) : TE := fun σ H Q => te σ H fun x H1 => ∃ a xs, x = .ref a ∧ SqT K H1 a xs ∧ NewT xs.reverse H1 Q
def eRevT (a : SE K κ) : SE K κ where
  te := fun Wx => tRevT K (a.te Wx)
  ev := fun ρ => (a.ev ρ).bindD fun x ρ => match x with
    | .tup xs => .ok (.d (.tup xs.reverse)) ρ
    | _ => .bad
  ok := fun Wx G H ρ σ L Q hG hE hN p => a.ok.then hG hE hN p fun x vx ρ1 G1 H1 L1 u1 e1 n1 r1 p => by
    cases r1 with
    | @tup b us xs hs ra => exact ⟨b, us, rfl, ex_t u1.gh hs.sq, fun q o hq hd => p.ret (.new u1.gh hq) (e1.new u1.gh hq) n1 (.tup (.new hd) (ra.reverse.mono (Evl.Ex.new (fresh u1.gh hq))))⟩
    | _ => exact p.elim
theorem back_pick (xs : Array Value) : ((List.range xs.size).filterMap fun (k : Nat) => xs[(((xs.size : Int) - 1) + (k : Int) * (-1)).toNat]?).toArray = xs.toList.reverse.toArray := by
  congr 1
  apply List.ext_getElem?
  intro i
  have e : ∀ k ∈ List.range xs.size, xs[(((xs.size : Int) - 1) + (k : Int) * (-1)).toNat]? = some (xs.toList.reverse.getD k .none) := by
    intro k hk
    rw [List.mem_range] at hk
    have : (((xs.size : Int) - 1) + (k : Int) * (-1)).toNat = xs.size - 1 - k := by omega
    rw [this, List.getD_eq_getElem?_getD, List.getElem?_reverse (by simpa using hk), Array.getElem?_toList, Array.length_toList, Array.getElem?_eq_getElem (by omega)]
    rfl
  have e2 : ∀ (f g : Nat → Option Value) (l : List Nat), (∀ k ∈ l, f k = g k) → l.filterMap f = l.filterMap g := by
    intro f g l h
    induction l with
    | nil => rfl
    | cons a l ih => rw [List.filterMap_cons, List.filterMap_cons, h a (by simp), ih fun k z => h k (by simp [z])]
  rw [e2 _ (fun k => some (xs.toList.reverse.getD k .none)) _ e]
  have e3 : ∀ l : List Nat, l.filterMap (fun k => some (xs.toList.reverse.getD k .none)) = l.map fun k => xs.toList.reverse.getD k .none := by
    intro l
    induction l with
    | nil => rfl
    | cons a l ih => rw [List.filterMap_cons, ih, List.map_cons]
  rw [e3, List.getElem?_map]
  by_cases h : i < xs.size
  · rw [List.getElem?_range h, Option.map_some, List.getD_eq_getElem?_getD, List.getElem?_eq_getElem (by simpa using h)]
    rfl
  · rw [List.getElem?_eq_none (by simpa using h), List.getElem?_eq_none (by simpa using h)]
    rfl
section
variable {prog : Program} {w : World} {A : Around} {E : Value → Shared → Prop} {s : Shared}
theorem back_bounds {sl : Addr} {vl vu vs : Value} {n : Nat} {Q : Int × Int × Nat → Shared → Prop} (hs : s.heap.IsSliceOf sl vl vu vs) (pl : IsPart vl none) (pu : IsPart vu none) (ps : IsPart vs (some (-1)))
    (h : Q ((n : Int) - 1, -1, n) s) : wpAny (model prog w) A (Builtin.Slice.sliceApplied (.ref sl) (pure (n : Int))) Q E s := by
  obtain ⟨o, ho, hc, hd⟩ := id hs
  unfold Builtin.Slice.sliceApplied Builtin.Slice.sliceFields
  refine wpAny_bind (wpAny_bind (wpAny_field ho hd (x := vl) rfl (wpAny_bind (wpAny_field ho hd (x := vu) rfl (wpAny_bind (wpAny_field ho hd (x := vs) rfl (wpAny_pure ?_)))))))
  refine wpAny_bind (HT.slicePart_ ps ?_)
  show wpAny _ _ (if ((-1 : Int) == 0) = true then _ else _) _ _ s
  rw [if_neg (by decide)]
  refine wpAny_bind (HT.slicePart_ pl (wpAny_bind (HT.slicePart_ pu (wpAny_bind (wpAny_pure (wpAny_pure ?_))))))
  have e : Builtin.Slice.slicePlaces ((n : Int) - 1) (-1) (-1) = n := by
    unfold Builtin.Slice.slicePlaces
    have h1 : ¬ ((-1 : Int) > 0) := by omega
    simp only [h1, if_false]
    have : (- -1 : Int) = 1 := rfl
    rw [this, Int.ediv_one]
    split <;> omega
  show Q ((n : Int) - 1, -1, Builtin.Slice.slicePlaces ((n : Int) - 1) (-1) (-1)) s
  rw [e]
  exact h
theorem back_tuple {t sl : Addr} {items : Array Value} {vl vu vs : Value} {Q : Value → Shared → Prop} (ht : IsTup s.heap t items) (hs : s.heap.IsSliceOf sl vl vu vs) (pl : IsPart vl none) (pu : IsPart vu none) (ps : IsPart vs (some (-1)))
    (h : Q (.ref s.heap.objs.size) { s with heap := s.heap.push { cls := .type "tuple", data := .seq items.toList.reverse.toArray } })
    (hsz : items.size ≤ sizeLine) : wpAny (model prog w) A (getItem (.ref t) (.ref sl)) Q E s := by
  have big : sizeOk (.seq items.toList.reverse.toArray) := by
    show items.toList.reverse.toArray.size ≤ sizeLine
    rw [List.size_toArray, List.length_reverse, Array.length_toList]
    exact hsz
  obtain ⟨o, ho, hc, hd⟩ := id hs
  have hT : s.TypeIs (.ref sl) "slice" := ⟨o, ho, hc⟩
  unfold getItem
  try with_reducible refine wpAny_holding ?_
  first | refine wpAny_bind (wpAny_pure ?_) | skip
  refine wpAny_bind (wpAny_sequenceKey ht.typeIs (by decide) ?_)
  refine wpAny_bind (wpAny_callSpecial?_slot (name := Str.ofString "__getitem__") ht.typeIs PyProof.Rows.slot_tuple_getitem
    (wpAny_call_entry PyProof.Rows.slot_tuple_getitem ht.typeIs entry_tuple_getitem ?_ (args_tuple_getitem _ _)))
  show wpAny _ _ (Builtin.Tuple.tupleItemsOf (.ref t) >>= _) _ _ s
  refine wpAny_bind (tupleItemsOf_ ht ?_)
  refine wpAny_bind (wpAny_typeOf hT ?_)
  rw [if_pos (by decide)]
  refine wpAny_bind (back_bounds hs pl pu ps ?_)
  have no : ¬ ((((items.size : Int) - 1) == 0 && (-1 : Int) == 1 && items.size == items.size) = true) := by
    intro q
    rw [Bool.and_eq_true, Bool.and_eq_true] at q
    exact absurd q.1.2 (by decide)
  show wpAny _ _ (if (((items.size : Int) - 1) == 0 && (-1 : Int) == 1 && items.size == items.size) = true then _ else _) _ _ s
  rw [if_neg no, back_pick]
  first
    | exact wpAny_bind (m := Builtin.Tuple.tupleExact _) (wpAny_newObj_type (wpAny_pure ⟨_, rfl, wpAny_pure h⟩) big)
    | exact wpAny_bind (m := Builtin.Tuple.tupleExact _) (wpAny_newObj_type (wpAny_bind (wpAny_pure (wpAny_pure ⟨_, rfl, wpAny_pure h⟩))) big)
    | exact wpAny_bind (wpAny_bind (m := Builtin.Tuple.tupleExact _) (wpAny_newObj_type (wpAny_pure (wpAny_pure ⟨_, rfl, wpAny_pure h⟩)) big))
    | exact wpAny_bind (wpAny_bind (m := Builtin.Tuple.tupleExact _) (wpAny_newObj_type (wpAny_pure ⟨_, rfl, wpAny_pure h⟩) big))
end
theorem pe_revT {X : Cx} {e : Expr} {te : TE} {k : Nat} {p1 p2 p3 pos : Pos} (he : PE X e te) : PE X (.Subscript e (.Slice none none (some (.UnaryOp .USub (.Constant (.int 1) k p1) p2)) p3) pos) (tRevT X.K te) := by
  refine ⟨fun pins s σ H Q I h => ?_⟩
  refine Subscript_ (thn (he.run pins s σ H _ I h) fun v s1 ⟨x, H1, I1, r1, q1⟩ => ?_)
  obtain ⟨a, xs, rfl, hx, q⟩ := q1
  cases r1
  have step : PO X (some (.UnaryOp .USub (.Constant (.int 1) k p1) p2)) (tPart (tUn (rU fun i => .int (-i)) (tC (.int 1)))) := po_some (pe_un un_neg pe_int)
  refine wpAny_Slice (thn (po_none.run pins s1 σ H1 (fun o G => o = none ∧ G = H1) I1 ⟨rfl, rfl⟩) fun vl s2 ⟨_, _, I2, pl, w1, w2⟩ => ?_)
  subst w1 w2
  refine thn (po_none.run pins s2 σ _ (fun o G => o = none ∧ G = _) I2 ⟨rfl, rfl⟩) fun vu s3 ⟨_, _, I3, pu, w1, w2⟩ => ?_
  subst w1 w2
  refine thn (step.run pins s3 σ _ (fun o G => o = some (-1) ∧ G = _) I3 ⟨1, rfl, -1, rfl, rfl, rfl⟩) fun vs s4 ⟨_, _, I4, ps, w1, w2⟩ => ?_
  subst w1 w2
  have I5 := I4.kept (h' := s4.heap.push { cls := .type "slice", data := .fields #[vl, vu, vs] }) (t' := s4.toks) fun b ob q => Heap.get?_push_of_some _ q
  obtain ⟨its, r, ht, hz⟩ := I5.tuple hx
  have size : its.toArray.size = xs.length := by rw [List.size_toArray]; exact r.length.symm
  show wpAny (model X.prog X.w) X.A (subscriptTail e (.Slice none none (some (.UnaryOp .USub (.Constant (.int 1) k p1) p2)) p3) (.ref a) (.ref s4.heap.objs.size)) (EP X pins σ Q) X.xe { s4 with heap := s4.heap.push { cls := .type "slice", data := .fields #[vl, vu, vs] } }
  refine tail_any (ops := [.ref a, .ref s4.heap.objs.size]) ht.typeIs (PyProof.Rows.slot_tuple_getitem.lookup) ?_ (by with_unfolding_all rfl)
  refine back_tuple ht (Heap.IsSliceOf.new _ vl vu vs) pl pu ps ?_ (by rw [size]; exact hz)
  exact ⟨.ref _, _, laid_tup I5 r.reverse (by rw [List.length_reverse]; exact hz), rfl, q _ _ (free_tup I5) rfl⟩
theorem psc {X : Cx} {b : List Stmt} {t t' : TS} (h : PSs X b t) (e : t = t') : PSs X b t' := e ▸ h
end
section
variable {X : Cx} {P : Program} {w : World} {K : PySem.W.Frag} {mg : Str → Option Value} {base : Heap} {κ : Cls} {l k : Nat} {ps : List Str} {F : Fn} {W : WX} {x : Str} {p pos : Pos} {e : Expr} {es : List Expr} {t : TA}
theorem pe_defK (D : Def P w K κ mg base x l ps F) (hX : X.prog = P ∧ X.w = w ∧ X.K = K ∧ X.mg = mg ∧ X.base = base) (hr : Room k X.A) (hl : l ≤ k) (hq : X.A.guards = some []) (tk : Takes X W) (ha : PA X (e :: es) t) (hg : Gl X x := by rfl) (hdb : (x == ("__debug__" : Str)) = false := by decide)
    (he : starEach (e :: es) X.env = (false, eval e X.env) :: starEach es X.env := by rfl) (hpl : (backTo pos (starEach es X.env)).any (·.1) = false := by rfl) : PE X (.Call (.Name x p) (e :: es) [] pos) (tCallS (spF K κ ps.length F) (WE W) t) := by
  obtain ⟨rfl, rfl, rfl, rfl, rfl⟩ := hX
  exact pe_def D hr hl hq tk ha hg hdb he hpl
end
end Pv

set_option maxRecDepth 100000
set_option maxHeartbeats 4000000
namespace Pv
open PySem PySem.Spec PyProof.Rows L2
section
variable {K : PySem.W.Frag} {κ : Cls}
/-! ### x += e -/
def gAdd : D → D → Option D
  | .int i, .int j => some (.int (i + j))
  | _, _ => none
def gSubI : D → D → Option D
  | .int i, .int j => some (.int (i - j))
  | _, _ => none
/-- x op= e, x the name in slot i: whole numbers -/
def sAugI (f : Int → Int → Int) (i : Nat) (e : SE K κ) : SS K κ where
  ts := fun Wx => tAug i (e.te Wx) (ipI f)
  sv := fun ρ => match ρ[i]? with
    | some (some (.d (.int m))) => (e.ev ρ).bindD fun y ρ => match y with
      | .int n => .ok .nx (ρ.set i (some (.d (.int (f m n)))))
      | _ => .bad
    | _ => .bad
  asg := [i]
  ok := fun Wx G H ρ σ L E hG hE hN p => by
    dsimp only at p
    split at p
    · rename_i m h
      obtain ⟨v, h1, h2⟩ := hE.data h
      cases h2
      refine ⟨_, h1, e.ok.thenS hG hE hN p fun y vy ρ1 G1 H1 L1 u1 e1 n1 r1 p => ?_⟩
      cases r1 with
      | int n =>
        dsimp only at p
        refine ⟨m, n, rfl, rfl, ?_⟩
        have hi : i < ρ1.length := by
          have hl := e1.length
          rw [hl]
          exact (List.getElem?_eq_some_iff.mp h1).1
        obtain ⟨L', f1, f2, f3⟩ := e1.put (w := .d (.int (f m n))) (v := .int (f m n)) (B := []) i ⟨rfl, .int _⟩ n1 hi
        exact p _ G1 H1 L' ((Stp.refl u1.gh).sub fun a z => by simpa using f3 a z) f1 f2 .set
      | _ => exact p.elim
    · exact p.elim
def sAugAdd := sAugI (K := K) (κ := κ) fun i j => i + j
def sAugSub := sAugI (K := K) (κ := κ) fun i j => i - j
/-! ### a or b, by truth -/
def D.tru : D → Option Bool
  | .non => some false
  | .bl b => some b
  | .int i => some (i != 0)
  | _ => none
theorem Rp.tru {G H : Hp} {v : V} {x : D} {k : Bool} (r : Rp K κ G v x) (h : D.tru x = some k) : TruV K v H k := by
  cases r <;> first | (cases h; rfl) | exact nomatch h
/-- a or b: a where it is true, else b; data alone -/
def eOrD (a b : SE K κ) : SE K κ where
  te := fun Wx => tOrT K (a.te Wx) (b.te Wx)
  ev := fun ρ => (a.ev ρ).bindD fun x ρ => match D.tru x with
    | some true => .ok (.d x) ρ
    | some false => b.ev ρ
    | none => .bad
  ok := fun Wx G H ρ σ L Q hG hE hN p => a.ok.then hG hE hN p fun x vx ρ1 G1 H1 L1 u1 e1 n1 r1 p => by
    split at p
    · rename_i h
      exact ⟨true, r1.tru h, by rw [if_pos rfl]; exact p.ret (.refl u1.gh) e1 n1 r1⟩
    · rename_i h
      exact ⟨false, r1.tru h, by rw [if_neg Bool.false_ne_true]; exact b.ok Wx G1 H1 ρ1 σ L1 Q u1.gh e1 n1 p⟩
    · exact p.elim
/-! ### int(x) -/
def gIntOf : List D → Option D
  | [.int i] => some (.int i)
  | [.bl b] => some (.int (if b then 1 else 0))
  | _ => none
def rIntOf : List V → Hp → VK → Prop := fun xs H Q => (∃ i, xs = [.int i] ∧ Q (.int i) H) ∨ ∃ k, xs = [.bl k] ∧ Q (.int (if k then 1 else 0)) H
theorem cbIntOf : CbS K κ rIntOf gIntOf := fun G H vs xs z Q hG ra e k => by
  unfold gIntOf at e
  split at e
  · cases e
    cases ra with
    | cons h t =>
      cases t
      cases h
      exact .inl ⟨_, rfl, k _ G H (.refl0 hG) (.int _)⟩
  · cases e
    cases ra with
    | cons h t =>
      cases t
      cases h
      exact .inr ⟨_, rfl, k _ G H (.refl0 hG) (.int _)⟩
  · cases e
def eIntOf := eCB (K := K) (κ := κ) _ _ cbIntOf
/-! ### list + list -/
def gCatL : D → D → Option D
  | .lst xs, .lst ys => if xs.length + ys.length ≤ 1000000 then some (.lst (xs ++ ys)) else none
  | _, _ => none
/-! ### [..] * n, whose list is new -/
def eRepM (a k : SE K κ) : SE K κ where
  te := fun Wx => tOp rRep (a.te Wx) (k.te Wx)
  ev := fun ρ => match a.ev ρ with
    | .ok (.ml xs) ρ => (k.ev ρ).bindD fun y ρ => match y with
      | .int n => if 0 ≤ n ∧ n ≤ 1000 ∧ xs.length ≤ 1000 then .ok (.ml (List.replicate n.toNat xs).flatten) ρ else .bad
      | _ => .bad
    | _ => .bad
  ok := fun Wx G H ρ σ L Q hG hE hN p => by
    refine a.ok Wx G H ρ σ L _ hG hE hN ?_
    dsimp only at p
    cases h : a.ev ρ with
    | exc c f ρ1 => rw [h] at p; exact p.elim
    | bad => rw [h] at p; exact p.elim
    | ok w ρ1 =>
      rw [h] at p
      cases w with
      | d x => exact p.elim
      | md x => exact p.elim
      | mm z => exact p.elim
      | ml xs =>
        dsimp only at p
        intro v G1 H1 Lw L1 u1 e1 r1 n1
        have r1' := r1
        obtain ⟨c, vs, rfl, rfl, g1, h1, q1⟩ := r1
        have nda := List.nodup_append.mp n1
        have ncL : c ∉ L1 := fun z => nda.2.2 c (by simp) c z rfl
        have u1' : Stp G H L G1 H1 L1 := u1.sub fun b z => List.mem_append_right _ z
        refine k.ok.then (Wx := Wx) u1.gh e1 nda.2.1 (p.trans u1') fun y vy ρ2 G2 H2 L2 u2 e2 n2 r2 p => ?_
        have c2 : H2 c = some (.lst vs) := u2.h c _ h1 ncL
        have q2 := q1.mono u2.g
        cases r2 with
        | int n =>
          dsimp only at p
          split at p
          · rename_i hz
            obtain ⟨z1, z2, z3⟩ := hz
            have hl := q2.length
            refine ⟨c, n, vs, rfl, rfl, c2, by omega, by omega, ?_, fun q hq => ?_⟩
            · rw [hl]
              have : xs.length * n.toNat ≤ 1000 * 1000 := Nat.mul_le_mul z3 (by omega)
              exact Nat.le_trans this (by decide)
            · refine p _ G2 _ [q] L2 (.own u2.gh hq) (e2.ownNew hq) ⟨q, _, rfl, rfl, fresh u2.gh hq, upd_same, ?_⟩ (own_nodup hq e2 n2)
              have rep : ∀ m : Nat, RpAll K κ G2 (List.replicate m vs).flatten (List.replicate m xs).flatten := by
                intro m
                induction m with
                | zero => exact .nil
                | succ m ih =>
                  rw [List.replicate_succ, List.replicate_succ, List.flatten_cons, List.flatten_cons]
                  exact q2.append ih
              exact rep _
          · exact p.elim
        | _ => exact p.elim
end
end Pv

set_option maxRecDepth 100000
set_option maxHeartbeats 4000000
namespace Pv
open PySem PySem.Spec PyProof.Rows L2
/-! ### a tuple taken once, or not at all -/
theorem tup_one (c : Addr) (xs : Array Value) (m : Nat) (q : Option Addr) (sl : Array (Option Value)) (t : Tok) :
    Meets (Builtin.«tuple.__mul__» ⟨[.ref c, .int 1 t], []⟩) (fun _ R s => s.heap.get? c = some { cls := .type "tuple", dict := q, data := .seq xs m, slots := sl } ∧ R (.ok (.ret (Value.ref c))) s) :=
  .of_wp fun prog w A R s h => by
    obtain ⟨hp, g, d, tk, os⟩ := s
    obtain ⟨hl, h⟩ := h
    have f1 := AutoSeq1.idx_int
    have e : (xs.isEmpty || (1 : Int) == 1) = true := by simp
    wp_walk using wpAny_loadPart' hl
    repeat (first
      | (refine wpAny_ite_true (decide_eq_true (by rw [e])) ?_; wp_walk using wpAny_loadPart' hl)
      | (refine wpAny_ite_true (by rw [e]) ?_; wp_walk using wpAny_loadPart' hl))
    exact ⟨_, rfl, h⟩
theorem tup_zero (c : Addr) (xs : Array Value) (m : Nat) (q : Option Addr) (sl : Array (Option Value)) (t : Tok) (hx : xs.isEmpty = false) :
    Meets (Builtin.«tuple.__mul__» ⟨[.ref c, .int 0 t], []⟩) (fun _ R s => s.heap.get? c = some { cls := .type "tuple", dict := q, data := .seq xs m, slots := sl } ∧
      R (.ok (.ret (Value.ref s.heap.objs.size))) { s with heap := s.heap.push { cls := Value.type "tuple", data := Data.seq #[] }, toks := s.toks }) :=
  .of_wp fun prog w A R s h => by
    obtain ⟨hp, g, d, tk, os⟩ := s
    obtain ⟨hl, h⟩ := h
    have f1 := AutoSeq1.idx_int
    have e : (xs.isEmpty || (0 : Int) == 1) = false := by rw [hx]; rfl
    have e2 : (decide ((0 : Int) ≤ 0) || xs.isEmpty) = true := by simp
    wp_walk using wpAny_loadPart' hl
    repeat (first
      | (refine wpAny_ite_false (decide_eq_false (by rw [e]; exact Bool.false_ne_true)) ?_; wp_walk using wpAny_loadPart' hl)
      | (refine wpAny_ite_true (decide_eq_true (by rw [e2])) ?_; wp_walk using wpAny_loadPart' hl))
    exact ⟨_, rfl, h⟩
/-- t * n, n 0 or 1, t not empty -/
def rRep01 (K : PySem.W.Frag) : R2 := fun x y H Q => ∃ c k xs, x = .ref c ∧ y = .int k ∧ SqT K H c xs ∧ xs ≠ [] ∧ ((k = 1 ∧ Q (.ref c) H) ∨ (k = 0 ∧ NewT [] H Q))
theorem op_rep01 {X : Cx} : OpR X (binaryOp .Mult) (rRep01 X.K) := by
  intro pins s σ H x y v u Q I rx ry h
  obtain ⟨c, k, xs, rfl, rfl, hT, hne, h⟩ := h
  cases rx
  obtain ⟨t, rfl⟩ := ry
  obtain ⟨its, r, ⟨⟨cl, q, data, sl⟩, ho, hc, m, hd⟩, hs⟩ := I.tuple hT
  simp only at hc hd
  subst hc hd
  have nonempty : its.toArray.isEmpty = false := by
    cases r with
    | nil => exact absurd rfl hne
    | cons _ _ => rfl
  have road : ∀ (Z : Value → Shared → Prop), wpAny (model X.prog X.w) X.A (call (.builtin "tuple.__mul__") [.ref c, .int k t]) Z X.xe s → wpAny (model X.prog X.w) X.A (binaryOp .Mult (.ref c) (.int k t)) Z X.xe s := fun Z z =>
    wpAny_binaryOp_repeat_ref (T := "tuple") (U := "int") (by decide) ⟨_, ho, rfl⟩ (fun s' => typeIs_int s' k t) noFill_tuple_mul F.fills_int_mul F.slot_int_rmul repeat_tuple F.slot_int_index.lookup
      (call_meets F.slot_int_rmul (typeIs_int s k t) F.entry_int_rmul (F.args_int_rmul_2 _ _) (int_rmul_tuple k t c its.toArray m q sl) ⟨ho, rfl, ⟨_, ho, rfl⟩, z⟩)
  refine road _ ?_
  rcases h with ⟨rfl, z⟩ | ⟨rfl, z⟩
  · exact call_meets F.slot_tuple_mul ⟨_, ho, rfl⟩ F.entry_tuple_mul (F.args_tuple_mul_2 _ _) (tup_one c its.toArray m q sl t) ⟨ho, .ref c, H, I, rfl, z⟩
  · refine call_meets F.slot_tuple_mul ⟨_, ho, rfl⟩ F.entry_tuple_mul (F.args_tuple_mul_2 _ _) (tup_zero c its.toArray m q sl t nonempty) ⟨ho, ?_⟩
    exact ⟨.ref s.heap.objs.size, _, laid_tup (us := []) I .nil (Nat.zero_le _), rfl, z _ _ (free_tup I) rfl⟩
section
variable {K : PySem.W.Frag} {κ : Cls}
def gRep01 : D → D → Option D
  | .tup (x :: xs), .int k => if k = 1 then some (.tup (x :: xs)) else if k = 0 then some (.tup []) else none
  | _, _ => none
theorem opRep01 : OpS K κ (rRep01 K) gRep01 := fun G H vx vy x y z Q hG rx ry e k => by
  unfold gRep01 at e
  split at e
  · rename_i x xs n
    cases rx with
    | tup hs ra =>
      cases ry
      have ne : ∀ {vs : List V}, RpAll K κ G vs (x :: xs) → vs ≠ [] := fun r z => by subst z; cases r
      split at e
      · rename_i h1
        cases e
        exact ⟨_, _, _, rfl, rfl, ex_t hG hs.sq, ne ra, .inl ⟨h1, k _ G H (.refl0 hG) (.tup hs ra)⟩⟩
      · split at e
        · rename_i h0
          cases e
          exact ⟨_, _, _, rfl, rfl, ex_t hG hs.sq, ne ra, .inr ⟨h0, fun p o hp hd => k _ _ _ (.new hG hp) (.tup (.new hd) .nil)⟩⟩
        · cases e
  · cases e
def eRep01 := eOp (K := K) (κ := κ) _ _ opRep01
end
end Pv

set_option maxRecDepth 100000
set_option maxHeartbeats 4000000
namespace Pv
open PySem PySem.Spec PyProof.Rows L2
/-! ### d.items() of a dict that a slot owns, walked; the slot is empty from then on -/
def keyD : Key → D
  | .inl i => .int i
  | .inr s => .str s
def iItemsK (i : Nat) : TI := fun σ H R => ∃ (c : Addr) (ks : List (Key × V)), σ[i]? = some (some (.ref c)) ∧ H c = some (.dK ks) ∧ ∀ o, R (Iti c o ks) (upd H c (.frz o (.dK ks)))
theorem pi_itemsK {X : Cx} {i : Nat} {e : Expr} {es : List Expr} {kk : Nat} {tpos apos cpos : Pos} (he : PE X e (tVar i)) (hb : attributeBase e "items" X.env (eval e X.env) = eval e X.env := by rfl) (hl : (apos.endLine == cpos.line) = true := by rfl) :
    PI X (.Tuple es kk tpos) (.Call (.Attribute e "items" apos) [] [] cpos) (iItemsK i) := by
  refine ⟨fun pins s σ H R I h => ?_⟩
  obtain ⟨c, ks, hs, hc, q⟩ := h
  obtain ⟨o, J⟩ := I.lock hc trivial
  exact (pi_items he hb hl).run pins s σ _ R J ⟨_, hs, c, o, ks, rfl, upd_same, q o⟩
section
variable {K : PySem.W.Frag} {κ : Cls}
theorem key_rp {G : Hp} : ∀ k : Key, Rp K κ G (kV k) (keyD k)
  | .inl i => .int i
  | .inr s => .str s
theorem KvAll.at {G : Hp} : ∀ {ks : List (Key × V)} {kvs : List (Key × D)} {i : Nat} {k : Key} {v : V}, KvAll K κ G ks kvs → ks[i]? = some (k, v) → ∃ x, kvs[i]? = some (k, x) ∧ Rp K κ G v x
  | (a, u) :: ks, (b, y) :: kvs, 0, k, v, ⟨e, r, q⟩, h => by
    simp only [List.getElem?_cons_zero, Option.some.injEq, Prod.mk.injEq] at h
    obtain ⟨rfl, rfl⟩ := h
    subst e
    exact ⟨y, rfl, r⟩
  | (a, u) :: ks, (b, y) :: kvs, i + 1, k, v, ⟨e, r, q⟩, h => by
    simp only [List.getElem?_cons_succ] at h
    obtain ⟨x, e1, e2⟩ := KvAll.at q h
    exact ⟨x, by simpa using e1, e2⟩
theorem yl_items {G : Hp} {c : Addr} {o : Obj} {ks : List (Key × V)} {kvs : List (Key × D)} (h : G c = some (.frz o (.dK ks))) (r : KvAll K κ G ks kvs) : Yl K κ (Iti c o ks) G (kvs.map fun p => .tupW [keyD p.1, p.2]) := fun G' H' i g gh => by
  have hl := r.length
  refine ⟨fun x e => ?_, fun n => ⟨gh _ _ (g _ _ h), by simpa [hl] using n⟩⟩
  rw [List.getElem?_map] at e
  cases hk : kvs[i]? with
  | none => rw [hk] at e; cases e
  | some p =>
    rw [hk] at e
    cases e
    have lt : i < ks.length := by
      rw [hl]
      exact (List.getElem?_eq_some_iff.mp hk).1
    refine ⟨⟨gh _ _ (g _ _ h), lt⟩, fun u H'' y => ?_⟩
    obtain ⟨T, k, v, e1, rfl, hT, rfl⟩ := y
    obtain ⟨x, e2, rx⟩ := r.at e1
    rw [hk] at e2
    cases e2
    have gT : G' T = none := fresh gh hT
    exact ⟨_, .new gh hT, .tupW (.inl (.inl upd_same)) (.cons (key_rp k) (.cons (rx.mono (g.trans (Evl.Ex.new gT))) .nil))⟩
def iItemsD (i : Nat) : SI K κ where
  ti := fun _ => iItemsK i
  ev := fun ρ => match ρ[i]? with
    | some (some (.md kvs)) => .ok (kvs.map fun p => .tupW [keyD p.1, p.2]) (ρ.set i none)
    | _ => .bad
  ok := fun Wx G H ρ σ L Q hG hE hN p => by
    dsimp only at p
    split at p
    · rename_i kvs h
      obtain ⟨v, B, L', h1, h2, h3, h4, h5⟩ := hE.take hN h
      obtain ⟨c, ks, rfl, rfl, gc, hc, q⟩ := h2
      have nd := List.nodup_append.mp h4
      have cL : c ∈ L := h5 c (by simp)
      have ne : ∀ b ∈ L', b ≠ c := fun b hb z => nd.2.2 c (by simp) b hb z.symm
      refine ⟨c, ks, h1, hc, fun o => ?_⟩
      have ex : Ex G (upd G c (.frz o (.dK ks))) := Evl.Ex.new gc
      refine p _ (upd G c (.frz o (.dK ks))) _ [] L' ⟨ex, fun b u e n => ?_, fun b e => ?_, fun b e n z => ?_, fun b z => .inl (h5 b (List.mem_append_right _ z)), fun b u e => ?_⟩ (h3.keep ex (fun b hb => ?_) fun b hb u e => ?_) ⟨rfl, yl_items upd_same (KvAll.mono ex q)⟩ nd.2.1
      · rw [upd_ne (fun z => n (by rw [z]; exact cL))]; exact e
      · by_cases z : b = c
        · rw [z, upd_same] at e; cases e
        · rw [upd_ne z] at e; exact e
      · rw [upd_ne (fun w => n (by rw [w]; exact cL))]; exact z
      · by_cases z : b = c
        · rw [z, upd_same] at e ⊢; exact e
        · rw [upd_ne z] at e ⊢; exact hG b u e
      · rw [upd_ne (ne b hb)]; exact (h3.there b hb).2
      · rw [upd_ne (ne b hb)]; exact e
    · exact p.elim
end
end Pv

set_option maxRecDepth 100000
set_option maxHeartbeats 4000000
namespace Pv
open PySem PySem.Spec PyProof.Rows L2
/-! ### zip of a tuple and a list -/
abbrev zm1 (G : Heap) (a : Addr) : Heap := G.push { cls := .type "tuple_iterator", data := .fields #[.ref a, .int 0 0] }
abbrev zm2 (G : Heap) (a b : Addr) : Heap := (zm1 G a).push { cls := .type "list_iterator", data := .fields #[.ref b, .int 0 0] }
abbrev zm3 (G : Heap) (a b : Addr) : Heap := (zm2 G a b).push { cls := .type "tuple", data := .seq #[.ref G.objs.size, .ref (zm1 G a).objs.size] }
abbrev zm4 (G : Heap) (a b : Addr) : Heap := (zm3 G a b).push { cls := .type "tuple", data := .seq #[.none, .none] }
abbrev zm5 (G : Heap) (a b : Addr) : Heap := (zm4 G a b).push { cls := .type "zip", data := .fields #[.none, .bool false, .bool false, .ref (zm2 G a b).objs.size, .ref (zm3 G a b).objs.size] }
theorem zip_made (a b : Addr) (us ws : Array Value) :
    Meets (Builtin.«zip.__new__» ⟨[.type "zip", .ref a, .ref b], []⟩) (fun _ R s => s.heap.IsTuple a us ∧ s.heap.IsList b ws ∧ R (.ok (.ret (.ref (zm4 s.heap a b).objs.size))) { s with heap := zm5 s.heap a b }) :=
  .of_wp fun prog w A R s h => by
    obtain ⟨G, g, d, tk, os⟩ := s; obtain ⟨ha, hb, h⟩ := h
    have isZip := sub_zip
    have first : Heap.IsTuple (Shared.heap ⟨G, g, d, tk, os⟩) a us := ha
    have second : Heap.IsList (Shared.heap ⟨zm1 G a, g, d, tk, os⟩) b ws := Heap.IsList.push hb _
    wp_walk using wpAny_pyIter_tuple first, wpAny_pyIter_list second
    exact ⟨_, rfl, h⟩
theorem zip_called {prog : Program} {w : World} {A : Around} {E : Value → Shared → Prop} {s : Shared} {a b : Addr} {us ws : Array Value} {Q : Value → Shared → Prop} (ha : s.heap.IsTuple a us) (hb : s.heap.IsList b ws)
    (h : ∀ G, IsZip G (s.heap.objs.size + 4) (s.heap.objs.size + 2) (s.heap.objs.size + 3) .none → IsTupOf2 G (s.heap.objs.size + 2) (.ref s.heap.objs.size) (.ref (s.heap.objs.size + 1)) → IsTupOf2 G (s.heap.objs.size + 3) .none .none →
      G.IsTupleIter s.heap.objs.size a 0 → G.IsListIter (s.heap.objs.size + 1) b 0 → (∀ c o, s.heap.get? c = some o → G.get? c = some o) → Q (.ref (s.heap.objs.size + 4)) { s with heap := G }) :
    wpAny (model prog w) A (call (.type "zip") [.ref a, .ref b]) Q E s := by
  refine callType_new F.called_zip (by decide) (F.typeCall_zip_2 _ _) (F.newCall_zip_2 _ _) (fun ob => F.args_object_init_3 ob _ _) F.entry_zip_new (zip_made a b us ws) ⟨ha, hb, ?_⟩
  obtain ⟨n, en⟩ : ∃ n, s.heap.objs.size = n := ⟨_, rfl⟩
  have n1 : (zm1 s.heap a).objs.size = n + 1 := (Heap.size_push ..).trans (by rw [en])
  have n2 : (zm2 s.heap a b).objs.size = n + 2 := (Heap.size_push ..).trans (by rw [n1])
  have n3 : (zm3 s.heap a b).objs.size = n + 3 := (Heap.size_push ..).trans (by rw [n2])
  have n4 : (zm4 s.heap a b).objs.size = n + 4 := (Heap.size_push ..).trans (by rw [n3])
  have up : ∀ {G : Heap} {o p : Obj} {c : Addr}, G.get? c = some o → (G.push p).get? c = some o := fun e => Heap.get?_push_of_some _ e
  have o1 : (zm1 s.heap a).get? n = some { cls := .type "tuple_iterator", data := .fields #[.ref a, .int 0 0] } := by rw [← en]; exact Heap.get?_push_size _ rfl
  have o2 : (zm2 s.heap a b).get? (n + 1) = some { cls := .type "list_iterator", data := .fields #[.ref b, .int 0 0] } := by rw [← n1]; exact Heap.get?_push_size _ rfl
  have o3 : (zm3 s.heap a b).get? (n + 2) = some { cls := .type "tuple", data := .seq #[.ref n, .ref (n + 1)] } := by
    rw [← n2]
    refine (Heap.get?_push_size _ rfl).trans ?_
    rw [en, n1]
  have o4 : (zm4 s.heap a b).get? (n + 3) = some { cls := .type "tuple", data := .seq #[.none, .none] } := by rw [← n3]; exact Heap.get?_push_size _ rfl
  have o5 : (zm5 s.heap a b).get? (n + 4) = some { cls := .type "zip", data := .fields #[.none, .bool false, .bool false, .ref (n + 2), .ref (n + 3)] } := by
    rw [← n4]
    refine (Heap.get?_push_size _ rfl).trans ?_
    rw [n2, n3]
  show _ ∧ _
  rw [n4]
  rw [en] at h
  exact ⟨⟨_, o5, rfl⟩, h _ o5 (up (up o3)) (up o4) ⟨_, up (up (up (up o1))), rfl, rfl⟩ ⟨_, up (up (up o2)), rfl, rfl⟩ fun c o z => up (up (up (up (up z))))⟩
/-- the tuple at a and the list at b as they stand at each turn, n things in each -/
def ItzM (K : PySem.W.Frag) (a b : Addr) (n : Nat) : It :=
  ⟨fun i H => ∃ (xs ys : List V) (x y : V), SqT K H a xs ∧ SqL K H b ys ∧ xs.length = n ∧ ys.length = n ∧ xs[i]? = some x ∧ ys[i]? = some y,
   fun i H v H' => ∃ T x y, v = .ref T ∧ H T = none ∧ H' = upd H T (.tup [x, y]) ∧ (∀ xs, SqT K H a xs → xs[i]? = some x) ∧ ∀ ys, SqL K H b ys → ys[i]? = some y,
   fun i H => ∃ (xs ys : List V), SqT K H a xs ∧ SqL K H b ys ∧ xs.length = n ∧ ys.length = n ∧ n ≤ i⟩
theorem sep_of {z TI TO i1 i2 a b : Addr} (D : ZipApart z TI TO i1 i2 a b) : ZipSep2 z TI TO i1 i2 [i1, a] [i2, b] where
  TIz := D.TIz
  TOz := D.TOz
  TITO := D.TITO
  TIi1 := D.TIi1
  mem1 := by simp
  zf1 := by simp [D.i1z.symm, D.l1z.symm]
  Tf1 := by simp [D.TOi1, D.l1TO.symm]
  TIi2 := D.TIi2
  mem2 := by simp
  zf2 := by simp [D.i2z.symm, D.l2z.symm]
  Tf2 := by simp [D.TOi2, D.l2TO.symm]
  sep1_2 := by simp [D.i12, D.l2i1.symm]
  sep2_1 := by simp [D.i12.symm, D.l1i2.symm]
section
variable {P : Program} {w : World} {K : PySem.W.Frag} {es : List Expr} {kk n : Nat} {tpos : Pos} {a b z TI TO i1 i2 : Addr}
def zmAt (z TI TO i1 i2 a b : Addr) (n i : Nat) (G : Heap) : Prop := i ≤ n ∧ IsZip G z TI TO .none ∧ IsTupOf2 G TI (.ref i1) (.ref i2) ∧ (∃ u v, IsTupOf2 G TO u v) ∧ G.IsTupleIter i1 a i ∧ G.IsListIter i2 b i
theorem zm_cells {p : Addr → Prop} (h : p z ∧ p TI ∧ p TO ∧ p i1 ∧ p i2) : ∀ c ∈ [z, TI, TO, i1, i2], p c := by
  intro c hc
  simp only [List.mem_cons, List.not_mem_nil, or_false] at hc
  obtain ⟨h1, h2, h3, h4, h5⟩ := h
  rcases hc with rfl | rfl | rfl | rfl | rfl <;> assumption
theorem turn_zm (D : ZipApart z TI TO i1 i2 a b) : Turn P w K (.Tuple es kk tpos) (ItzM K a b n) [z, TI, TO, i1, i2] z (zmAt z TI TO i1 i2 a b n) where
  mem := List.mem_cons_self ..
  obj := fun i G st => by
    obtain ⟨_, hz, hI, ⟨u, v, hO⟩, ⟨o1, e1, _, d1⟩, ⟨o2, e2, _, d2⟩⟩ := st
    exact zm_cells ⟨⟨_, hz, fun v q => nomatch q⟩, ⟨_, hI, fun v q => nomatch q⟩, ⟨_, hO, fun v q => nomatch q⟩, ⟨o1, e1, fun v q => by rw [d1] at q; cases q⟩, ⟨o2, e2, fun v q => by rw [d2] at q; cases q⟩⟩
  keep := fun i G G' st k => by
    obtain ⟨le, hz, hI, ⟨u, v, hO⟩, h1, h2⟩ := st
    have there : ∀ {c : Addr}, c ∈ [z, TI, TO, i1, i2] → ∀ {o : Obj}, G.get? c = some o → G'.get? c = some o := fun m _ e => k _ m _ e
    exact ⟨le, there (by simp) hz, there (by simp) hI, ⟨u, v, there (by simp) hO⟩, h1.at fun o e => there (by simp) e, h2.at fun o e => there (by simp) e⟩
  item := by
    intro X eP eW eK calm i pins s σ H E I cells st going
    subst eP eW eK
    obtain ⟨le, hz, hI, ⟨u0, v0, hO⟩, h1, h2⟩ := st
    obtain ⟨xs, ys, x, y, sx, sy, lx, ly, ex, ey⟩ := going
    obtain ⟨us, rx, px, _⟩ := I.tuple sx
    obtain ⟨ws, ry, py, _⟩ := I.list sy
    obtain ⟨u, eu, ru⟩ := rx.get ex
    obtain ⟨v, ev, rv⟩ := ry.get ey
    have quiet : X.A.in1.handled = none := I.ok.hd calm
    have lu := rx.length
    have lw := ry.length
    have lt : i < n := by have := (List.getElem?_eq_some_iff.mp ex).1; omega
    have live : z < s.heap.objs.size := Heap.lt_size hz
    refine wpAny_pyNext_zipD2_item (sep_of D) (Draws.tuple quiet i1 a D.l1i1 us.toArray) (Draws.list quiet i2 b D.l2i2 ws.toArray) hz hI hO ⟨h1, px⟩ ⟨h2, py.isList⟩ (by simp; omega) (by simp; omega) fun u' v' G tk eu' ev' z1 O1 s1 s2 T1 _ kept => ?_
    have eqU : u' = u := by
      have e : us[i]? = some u' := by simpa using eu'
      rw [eu] at e
      exact (Option.some.inj e).symm
    have eqV : v' = v := by
      have e : ws[i]? = some v' := by simpa using ev'
      rw [ev] at e
      exact (Option.some.inj e).symm
    subst eqU eqV
    refine ⟨_, rfl, wpAny_letOwnedTupleGo_zip z1 fun G2 z2 same => ?_⟩
    have T2 : G2.get? s.heap.objs.size = some { cls := .type "tuple", data := .seq #[u', v'] } := (same.2 _ (Nat.ne_of_gt live)).trans T1
    have good : ObjOk X.prog X.w (upd H s.heap.objs.size (.tup [x, y])) G2 s.heap.objs.size (.tup [x, y]) := ⟨by show 2 ≤ sizeLine; decide, [u', v'], .cons ru (.cons rv .nil), ⟨_, T2, rfl, _, rfl⟩⟩
    have off : ∀ {c : Addr}, c ∉ [z, TI, TO, i1, i2] → c ≠ z ∧ c ≠ TO ∧ c ≠ i1 ∧ c ≠ i2 := fun m => ⟨fun q => m (by simp [q]), fun q => m (by simp [q]), fun q => m (by simp [q]), fun q => m (by simp [q])⟩
    have J : Inv X pins σ (upd H s.heap.objs.size (.tup [x, y])) { s with heap := G2, toks := tk } :=
      I.turnedNew (t' := tk) (ch := [z, TI, TO, i1, i2]) (fun c o m q => (same.2 c (off m).1).trans (kept c o (off m).1 (off m).2.1 (off m).2.2.1 (off m).2.2.2 q)) cells (Nat.le_refl _) good
    refine ⟨.ref s.heap.objs.size, _, J, rfl, ⟨_, x, y, rfl, I.hok.fresh (Nat.le_refl _), rfl, fun l hl => by rw [I.tuple_inj hl sx]; exact ex, fun l hl => by rw [I.list_inj hl sy]; exact ey⟩, ⟨lt, z2, ?_, ⟨u', v', ?_⟩, ?_, ?_⟩, zm_cells ?_⟩
    · exact (same.2 _ D.TIz).trans (kept _ _ D.TIz D.TITO D.TIi1 D.TIi2 hI)
    · exact (same.2 _ D.TOz).trans O1
    · exact s1.1.at fun o q => (same.2 _ D.i1z).trans q
    · exact s2.1.at fun o q => (same.2 _ D.i2z).trans q
    · have low : ∀ {c : Addr}, H c = none → (∃ o, s.heap.get? c = some o) → upd H s.heap.objs.size (.tup [x, y]) c = none := fun e ⟨o, q⟩ => by rw [upd_ne (Nat.ne_of_lt (Heap.lt_size q))]; exact e
      have nn : ∀ {c : Addr}, c ∈ [z, TI, TO, i1, i2] → H c = none := fun m => (cells _ m).1
      exact ⟨low (nn (by simp)) ⟨_, hz⟩, low (nn (by simp)) ⟨_, hI⟩, low (nn (by simp)) ⟨_, hO⟩, low (nn (by simp)) ⟨_, h1.choose_spec.1⟩, low (nn (by simp)) ⟨_, h2.choose_spec.1⟩⟩
  done := by
    intro X eP eW eK calm i pins s σ H E I cells st over
    subst eP eW eK
    obtain ⟨le, hz, hI, ⟨u0, v0, hO⟩, h1, h2⟩ := st
    obtain ⟨xs, ys, sx, sy, lx, ly, ge⟩ := over
    obtain ⟨us, rx, px, _⟩ := I.tuple sx
    obtain ⟨ws, ry, py, _⟩ := I.list sy
    have quiet : X.A.in1.handled = none := I.ok.hd calm
    have lu := rx.length
    have lw := ry.length
    refine wpAny_pyNext_zipD2_end (i := i) (sep_of D) (Draws.tuple quiet i1 a D.l1i1 us.toArray) (Draws.list quiet i2 b D.l2i2 ws.toArray) hz hI hO ⟨h1, px⟩ ⟨h2, py.isList⟩ (by simp; omega) (by simp; omega) (by simp; omega) fun G tk kept => ?_
    exact ⟨rfl, I.turnedL (t' := tk) (ch := [z, TI, TO, i1, i2]) (fun c o m q => kept c o (fun e => m (by simp [e])) (fun e => m (by simp [e])) (fun e => m (by simp [e])) (fun e => m (by simp [e])) q) cells⟩
  self := fun A i s Q E st h => wpAny_pyIter_zip st.2.1 h
end
def iZipM (K : PySem.W.Frag) (ta : TA) : TI := fun σ H R => ta σ H fun vs H1 => ∃ (a b : Addr) (xs ys : List V), vs = [.ref a, .ref b] ∧ SqT K H1 a xs ∧ SqL K H1 b ys ∧ xs.length = ys.length ∧ R (ItzM K a b xs.length) H1
theorem pi_zipM {X : Cx} {e e2 : Expr} {ta : TA} {p pos tpos : Pos} {es : List Expr} {kk : Nat} (hg : Gl X "zip") (hm : X.mg "zip" = none) (ha : PA X [e, e2] ta)
    (st : starEach [e, e2] X.env = (false, eval e X.env) :: starEach [e2] X.env := by rfl) (pl : (backTo pos (starEach [e2] X.env)).any (·.1) = false := by rfl) :
    PI X (.Tuple es kk tpos) (.Call (.Name "zip" p) [e, e2] [] pos) (iZipM X.K ta) := by
  refine ⟨fun pins s σ H R I h => Call_ (ld_blt I hg hm PyProof.Rows.boot_zip (PyProof.Rows.callWith_type1 (thn (ha.run pos pins s σ H _ I h) fun us s1 ⟨vs, H1, J, r, a, b, xs, ys, ev, sx, sy, le, q⟩ => ?_) st pl))⟩
  subst ev
  obtain ⟨us1, rx, px, _⟩ := J.tuple sx
  obtain ⟨us2, ry, py, _⟩ := J.list sy
  cases r with
  | cons r1 r =>
    cases r with
    | cons r2 r =>
      cases r
      cases r1
      cases r2
      obtain ⟨oa, ea, _⟩ := id px
      refine zip_called (show s1.heap.IsTuple a us1.toArray from px) py.isList fun G hz hI hO h1 h2 kept => wpAny_pyIter_zip hz ?_
      have J2 : Inv X pins σ H1 { s1 with heap := G } := J.kept (t' := s1.toks) kept
      have new : ∀ k, FpOk X pins H1 (s1.heap.objs.size + k) := fun k => J.fpOk (Nat.le_add_right _ _) (J.hok.fresh (Nat.le_add_right _ _))
      exact ⟨s1.heap.objs.size + 4, _, _, _, H1, rfl, J2, turn_zm (PySem.W.ktu_apart s1.heap.objs.size a b (Heap.lt_size ea) py.lt), ⟨Nat.zero_le _, hz, hI, ⟨_, _, hO⟩, h1, h2⟩, zm_cells ⟨new 4, new 2, new 3, new 0, new 1⟩, q⟩
section
variable {K : PySem.W.Frag} {κ : Cls}
def pairD (p : D × D) : D := .tupW [p.1, p.2]
theorem RpAll.at {G : Hp} {vs : List V} {xs : List D} {i : Nat} {v : V} {x : D} (r : RpAll K κ G vs xs) (hv : vs[i]? = some v) (hx : xs[i]? = some x) : Rp K κ G v x := by
  obtain ⟨v', e, q⟩ := r.get hx
  rw [hv] at e
  cases e
  exact q
theorem yl_zm {G : Hp} {a b : Addr} {us ws : List V} {xs ys : List D} {n : Nat} (ha : SqT K G a us) (hb : SqL K G b ws) (rx : RpAll K κ G us xs) (ry : RpAll K κ G ws ys) (l1 : us.length = n) (l2 : ws.length = n) : Yl K κ (ItzM K a b n) G ((xs.zip ys).map pairD) := fun G' H' i g gh => by
  have e1 := rx.length
  have e2 := ry.length
  have sa : SqT K H' a us := ex_t (g.trans gh) ha
  have sb : SqL K H' b ws := ex_l (g.trans gh) hb
  refine ⟨fun x e => ?_, fun le => ⟨us, ws, sa, sb, l1, l2, ?_⟩⟩
  · have lt : i < ((xs.zip ys).map pairD).length := (List.getElem?_eq_some_iff.mp e).1
    rw [List.length_map, List.length_zip] at lt
    obtain ⟨u, hu⟩ : ∃ u, us[i]? = some u := ⟨_, List.getElem?_eq_getElem (by omega)⟩
    obtain ⟨w, hw⟩ : ∃ w, ws[i]? = some w := ⟨_, List.getElem?_eq_getElem (by omega)⟩
    obtain ⟨x1, hx1, _⟩ := rx.get' hu
    obtain ⟨y1, hy1, _⟩ := ry.get' hw
    have ex : x = .tupW [x1, y1] := by
      have ez : (xs.zip ys)[i]? = some (x1, y1) := List.getElem?_zip_eq_some.mpr ⟨hx1, hy1⟩
      rw [List.getElem?_map, ez] at e
      exact (Option.some.inj e).symm
    subst ex
    refine ⟨⟨us, ws, u, w, sa, sb, l1, l2, hu, hw⟩, fun v H'' y => ?_⟩
    obtain ⟨T, x', y', rfl, hT, rfl, f1, f2⟩ := y
    have q1 := f1 us sa
    have q2 := f2 ws sb
    rw [hu] at q1
    rw [hw] at q2
    cases q1
    cases q2
    have gx : Ex G (upd G' T (.tup [u, w])) := g.trans (Evl.Ex.new (fresh gh hT))
    exact ⟨_, .new gh hT, .tupW (.inl (.inl upd_same)) (.cons ((rx.at hu hx1).mono gx) (.cons ((ry.at hw hy1).mono gx) .nil))⟩
  · rw [List.length_map, List.length_zip] at le
    omega
/-- zip(a, b), a a tuple, b a list, of one length -/
def iZip (a b : SE K κ) : SI K κ where
  ti := fun Wx => iZipM K (tCons (a.te Wx) (tCons (b.te Wx) tNil))
  ev := fun ρ => (a.ev ρ).bindD fun x ρ => (b.ev ρ).bindD fun y ρ => match x, y with
    | .tup xs, .lst ys => if xs.length = ys.length then .ok ((xs.zip ys).map pairD) ρ else .bad
    | _, _ => .bad
  ok := fun Wx G H ρ σ L Q hG hE hN p => a.ok.then hG hE hN p fun x vx ρ1 G1 H1 L1 u1 e1 n1 r1 p => b.ok.then u1.gh e1 n1 p fun y vy ρ2 G2 H2 L2 u2 e2 n2 r2 p => by
    cases r1 with
    | tup hs ra =>
      cases r2 with
      | lst ht rb =>
        dsimp only at p
        split at p
        · rename_i hl
          have la := ra.length
          have lb := rb.length
          exact ⟨_, _, _, _, rfl, ex_t (u2.g.trans u2.gh) hs.sq, ex_l u2.gh ht, by omega, p _ G2 H2 [] L2 (.refl u2.gh) e2 ⟨rfl, yl_zm (ex_t u2.g hs.sq) ht (ra.mono u2.g) rb rfl (by omega)⟩ n2⟩
        · exact p.elim
      | _ => exact p.elim
    | _ => cases r2 <;> exact p.elim
end
end Pv

set_option maxRecDepth 100000
set_option maxHeartbeats 4000000
namespace Pv
open PySem PySem.Spec PyProof.Rows L2
/-! ### a def whose last parameter has to be named, None where it is left out -/
structure DefO (P : Program) (w : World) (K : PySem.W.Frag) (κ : Cls) (mg : Str → Option Value) (base : Heap) (x : Str) (l : Nat) (ps : List Str) (n : Nat) (nm : Str) (F : Fn) : Prop where
  ex : ∃ (a : Addr) (fd : FuncData), FnX P w K κ mg base l a fd ps F ∧ mg x = some (.ref a) ∧ PySem.W.keepIn K (.ref a) = true ∧ (∃ ds, Vals [V.non] ds ∧ Binds K fd ps ds) ∧
    ∀ (s : Shared) (us : List Value) (u : Value), K.In s.heap → us.length = n → BindsTo s fd ⟨us, [(nm, u)]⟩ (ps.zip (us ++ [u]))
section
variable {X : Cx} {k l n : Nat} {f : Addr} {fd : FuncData} {ps : List Str} {sp : Sp} {W : WX} {x nm : Str} {p pos kpos : Pos} {e e1 e2 e3 : Expr} {es : List Expr} {t : TA} {t1 t2 t3 : TE} {κ : Cls} {F : Fn}
theorem end_g {pins : List (Addr × Obj)} {σ : St} {H : Hp} {s : Shared} {Q : VK} {args : Args} {us : List Value} {vs : List V} (C : FnG X.prog X.w X.K X.mg X.base k f fd ps sp) (hr : Room k X.A) (hq : X.A.guards = some []) (bound : BindsTo s fd args (ps.zip us)) (tk : Takes X W)
    (I : Inv X pins σ H s) (r : Vals vs us) (h : sp vs H Q (WE W σ)) : wpAny (model X.prog X.w) X.A (call (.ref f) args.pos args.kw) (EP X pins σ Q) X.xe s := by
  refine wpAny_call (codeAny_mono (C.run X.A X.stack s H args us vs Q (WE W σ) hr hq I.env0 bound r h) fun res s' out => ?_)
  cases res with
  | error er => exact passAt tk σ pins H s er s' I out
  | ok fl =>
    cases fl with
    | ret u => exact I.after out
    | next => exact out.elim
    | brk => exact out.elim
    | cont => exact out.elim
/-- without it -/
theorem pe_defO (D : DefO X.prog X.w X.K κ X.mg X.base x l ps n nm F) (hr : Room k X.A) (hl : l ≤ k) (hq : X.A.guards = some []) (tk : Takes X W) (ha : PA X (e :: es) t) (hg : Gl X x := by rfl) (hdb : (x == ("__debug__" : Str)) = false := by decide)
    (he : starEach (e :: es) X.env = (false, eval e X.env) :: starEach es X.env := by rfl) (hpl : (backTo pos (starEach es X.env)).any (·.1) = false := by rfl) :
    PE X (.Call (.Name x p) (e :: es) [] pos) (fun σ H Q => t σ H fun vs H1 => spF X.K κ ps.length F (vs ++ [.non]) H1 Q (WE W σ)) := by
  obtain ⟨a, fd, C, hm, hk, ⟨ds, hd, hb⟩, _⟩ := D.ex
  refine ⟨fun pins s σ H Q I h => wpAny_Call_Name_kw (ld_glob I hg hm (PySem.W.callWith_K (h₀ := X.base) I.ok.mod.kin hk (thn (ha.run pos pins s σ H _ I h) fun us s1 ⟨vs, H1, I1, r, q⟩ => ⟨I1.kIn, ?_⟩) he hpl) hdb)⟩
  have rr := r.append hd
  have count : (us ++ ds).length = ps.length := rr.length.symm.trans (C.len _ _ _ _ q)
  exact end_g (args := ⟨us, []⟩) C (hr.mono hl) hq (hb s1 us I1.kIn count) tk I1 rr q
/-- with it, behind two others -/
theorem pe_defO2 (D : DefO X.prog X.w X.K κ X.mg X.base x l ps 2 nm F) (hr : Room k X.A) (hl : l ≤ k) (hq : X.A.guards = some []) (tk : Takes X W) (h1 : PE X e1 t1) (h2 : PE X e2 t2) (h3 : PE X e3 t3) (hg : Gl X x := by rfl) (hdb : (x == ("__debug__" : Str)) = false := by decide)
    (s1 : starEach [e1, e2] X.env = (false, eval e1 X.env) :: starEach [e2] X.env := by rfl) (s2 : starEach [e2] X.env = [(false, eval e2 X.env)] := by rfl)
    (hall : (backToKw pos (keywordEach [⟨some nm, e3, kpos⟩] X.env)).all (·.1.isSome) = true := by rfl) (hks : (backToKw pos (keywordEach [⟨some nm, e3, kpos⟩] X.env)).filterMap (·.1) = [nm] := by rfl)
    (hpl : ((backTo pos (starEach [e1, e2] X.env)).any (·.1) || (backToKw pos (keywordEach [⟨some nm, e3, kpos⟩] X.env)).any (·.1.isNone)) = false := by rfl) :
    PE X (.Call (.Name x p) [e1, e2] [⟨some nm, e3, kpos⟩] pos) (tCallS (spF X.K κ ps.length F) (WE W) (tCons t1 (tCons t2 (tCons t3 tNil)))) := by
  obtain ⟨a, fd, C, hm, hk, _, hb⟩ := D.ex
  refine ⟨fun pins s σ H Q I h => ?_⟩
  refine wpAny_Call_Name_kw (ld_glob I hg hm ?_ hdb)
  refine PySem.W.callWith_KW (h₀ := X.base) I.ok.mod.kin hk hall ?_ hpl s1
  rw [s1, s2]
  show wpAny _ _ (spliced ((false, eval e1 X.env) :: backTo pos [(false, eval e2 X.env)])) _ _ s
  refine Calls.spliced_cons (thn (h1.run pins s σ H _ I h) fun u1 z1 ⟨x1, H1, I1, r1, q1⟩ => ?_)
  show wpAny _ _ (spliced ((false, eval e2 X.env) :: [])) _ _ z1
  refine Calls.spliced_cons (thn (h2.run pins z1 σ H1 _ I1 q1) fun u2 z2 ⟨x2, H2, I2, r2, q2⟩ => ?_)
  refine Calls.spliced_nil ?_
  show wpAny _ _ (evalAll [do let v ← eval e3 X.env; standAt pos; pure v]) _ _ z2
  refine wpAny_evalAll_cons (wpAny_bind (thn (h3.run pins z2 σ H2 _ I2 q2) fun u3 z3 ⟨x3, H3, I3, r3, q3⟩ => wpAny_bind (wpAny_standAt (wpAny_pure ?_))))
  refine wpAny_evalAll_nil ⟨I3.kIn, ?_⟩
  rw [hks]
  exact end_g (args := ⟨[u1, u2], [(nm, u3)]⟩) C (hr.mono hl) hq (hb z3 [u1, u2] u3 I3.kIn rfl) tk I3 (.cons r1 (.cons r2 (.cons r3 .nil))) q3
variable {P : Program} {w : World} {K : PySem.W.Frag} {mg : Str → Option Value} {base : Heap}
theorem pe_defOK (D : DefO P w K κ mg base x l ps n nm F) (hX : X.prog = P ∧ X.w = w ∧ X.K = K ∧ X.mg = mg ∧ X.base = base) (hr : Room k X.A) (hl : l ≤ k) (hq : X.A.guards = some []) (tk : Takes X W) (ha : PA X (e :: es) t) (hg : Gl X x := by rfl) (hdb : (x == ("__debug__" : Str)) = false := by decide)
    (he : starEach (e :: es) X.env = (false, eval e X.env) :: starEach es X.env := by rfl) (hpl : (backTo pos (starEach es X.env)).any (·.1) = false := by rfl) :
    PE X (.Call (.Name x p) (e :: es) [] pos) (fun σ H Q => t σ H fun vs H1 => spF K κ ps.length F (vs ++ [.non]) H1 Q (WE W σ)) := by
  obtain ⟨rfl, rfl, rfl, rfl, rfl⟩ := hX
  exact pe_defO D hr hl hq tk ha hg hdb he hpl
theorem pe_defO2K (D : DefO P w K κ mg base x l ps 2 nm F) (hX : X.prog = P ∧ X.w = w ∧ X.K = K ∧ X.mg = mg ∧ X.base = base) (hr : Room k X.A) (hl : l ≤ k) (hq : X.A.guards = some []) (tk : Takes X W) (h1 : PE X e1 t1) (h2 : PE X e2 t2) (h3 : PE X e3 t3) (hg : Gl X x := by rfl) (hdb : (x == ("__debug__" : Str)) = false := by decide)
    (s1 : starEach [e1, e2] X.env = (false, eval e1 X.env) :: starEach [e2] X.env := by rfl) (s2 : starEach [e2] X.env = [(false, eval e2 X.env)] := by rfl)
    (hall : (backToKw pos (keywordEach [⟨some nm, e3, kpos⟩] X.env)).all (·.1.isSome) = true := by rfl) (hks : (backToKw pos (keywordEach [⟨some nm, e3, kpos⟩] X.env)).filterMap (·.1) = [nm] := by rfl)
    (hpl : ((backTo pos (starEach [e1, e2] X.env)).any (·.1) || (backToKw pos (keywordEach [⟨some nm, e3, kpos⟩] X.env)).any (·.1.isNone)) = false := by rfl) :
    PE X (.Call (.Name x p) [e1, e2] [⟨some nm, e3, kpos⟩] pos) (tCallS (spF K κ ps.length F) (WE W) (tCons t1 (tCons t2 (tCons t3 tNil)))) := by
  obtain ⟨rfl, rfl, rfl, rfl, rfl⟩ := hX
  exact pe_defO2 D hr hl hq tk h1 h2 h3 hg hdb s1 s2 hall hks hpl
end
end Pv

set_option maxRecDepth 100000
set_option maxHeartbeats 4000000
namespace Pv
open PySem PySem.Spec PyProof.Rows L2
/-! ### exceptions with a field: an own __init__ -/
/-- what the written part says of an own class that has no __init__ of its own -/
structure TopC (K : PySem.W.Frag) (C : Addr) : Prop where
  gm : PySem.W.specialIn K (.ref C) "__getattribute__" = some (some (.builtin "type.__getattribute__"))
  rd : PySem.W.readsIn K C (.type "type") = true
  fi : PySem.W.findCls K (.ref C) (.type "type") "__init__" = some (.val (.builtin "ValueError.__init__"))
theorem pe_topinit {X : Cx} {C : Addr} {c : Str} {e : Expr} {es : List Expr} {ta : TA} {p1 p2 pos : Pos} {pl : Sem Bool} (T : TopC X.K C) (hg : Gl X c) (hm : X.mg c = some (.ref C)) (ha : PA X (e :: es) ta) (hdb : (c == ("__debug__" : Str)) = false := by decide)
    (hc : eval (.Call (.Attribute (.Name c p1) "__init__" p2) (e :: es) [] pos) X.env = (do
      let o ← eval (.Name c p1) X.env
      standAt p2.atName
      let (m, at0) ← holding [o] (getMethod o "__init__" pl)
      callWith pos m at0 (backTo pos (starEach (e :: es) X.env)) (backToKw pos (keywordEach [] X.env))) := by rfl)
    (hs : starEach (e :: es) X.env = (false, eval e X.env) :: starEach es X.env := by rfl) (hpl : (backTo pos (starEach es X.env)).any (·.1) = false := by rfl) :
    PE X (.Call (.Attribute (.Name c p1) "__init__" p2) (e :: es) [] pos) (tVeI X.K ta) := by
  refine ⟨fun pins s σ H Q I h => PySem.W.methodCall_KW (ld_glob I hg hm ?_ hdb) hc⟩
  refine PySem.W.method_cls I.kIn T.gm (PySem.W.cls_value I.kIn T.rd T.fi (by decide +kernel) ?_)
  show wpAny _ _ (callWith pos (Value.builtin "ValueError.__init__") [] (backTo pos (starEach (e :: es) X.env)) []) _ _ _
  refine PyProof.Rows.callWith_method1 (thn (ha.run pos pins _ σ H _ (I.tok _) h) fun us s1 ⟨vs, H1, I1, r, a, D, ws, ev, hl, O, ea, q⟩ => ?_) hs hpl
  subst ev
  cases r with
  | @cons _ u _ ur ru rr =>
    obtain rfl : u = Value.ref a := ru
    have fits : ur.length ≤ sizeLine := by
      have := Paired.length rr
      rw [sizeLine_eq]
      omega
    exact oinit_ok O I1 ea fits fun s' J => ⟨.non, H1, J, rfl, q⟩
/-- the promise of such an __init__: self.f is what it was handed -/
def spInit (C : Addr) (f : Str) : Sp := fun vs H Q _ => ∃ (a : Addr) (v : V), vs = [.ref a, v] ∧ H a = some (exo a C none) ∧ ∀ d, H d = none → d ≠ a → Q .non (upd (upd H d (exd d [(f, v)])) a (exo a C (some d)))
/-- the reading of its body -/
def tInit (K : PySem.W.Frag) (f : Str) (t : Str) : TS := tSeq (tDrop (tVeI K (tCons (tVar 0) (tCons (tC (.str t)) tNil)))) (tSeq (tOst K f (tVar 0) (tVar 1)) tNext)
theorem init_ok {K : PySem.W.Frag} {C : Addr} {f t : Str} {N : List Str} {vs : List V} {H : Hp} {Q : VK} {E : XK} (O : OexC K C) (hno : PySem.W.findIn K (.ref C) f = some none) (hN : N.length = 2) (h : spInit C f vs H Q E) :
    tInit K f t { nx := fun _ H' => Q .non H', rt := Q } (L2.start N vs) H := by
  obtain ⟨a, v, rfl, ha, q⟩ := h
  have s0 : (L2.start N [.ref a, v])[0]? = some (some (.ref a)) := rfl
  have s1 : (L2.start N [.ref a, v])[1]? = some (some v) := rfl
  exact ⟨_, s0, a, C, [.str t], rfl, by show 1 ≤ 1000; decide, O, ha, _, s1, _, s0, a, C, rfl, O, hno, .inl ⟨ha, fun d hd ne => q d hd ne⟩⟩
section
variable {K : PySem.W.Frag} {κ : Cls}
/-- raise X(e), X the k-th class -/
def sRaiseF (k : Nat) (e : SE K κ) : SS K κ where
  ts := fun Wx => fun _ σ H => tMkO (κ.at_ k) (spInit (κ.at_ k) (κ.fld k)) [] (tCons (e.te Wx) tNil) σ H fun cls d H' => Wx cls d σ H'
  sv := fun ρ => (e.ev ρ).bindD fun x ρ => .exc k (some x) ρ
  asg := []
  ok := fun Wx G H ρ σ L E hG hE hN p => e.ok.thenS hG hE hN p fun x vx ρ1 G1 H1 L1 u1 e1 n1 r1 p => by
    refine ⟨by show 1 ≤ 1000; decide, fun a ha => ⟨a, vx, rfl, upd_same, fun d hd ne => ⟨rfl, d, [(κ.fld k, vx)], upd_same, ?_, ?_, ?_⟩⟩⟩
    · rw [upd_ne ne, upd_same]
    · rw [upd_ne ne] at hd; exact hd
    · have hd1 : H1 d = none := by rw [upd_ne ne] at hd; exact hd
      have eh : upd (del (upd (upd (upd H1 a (exo a (κ.at_ k) none)) d (exd d [(κ.fld k, vx)])) a (exo a (κ.at_ k) (some d))) a) d (.xd [(κ.fld k, vx)]) = upd H1 d (.xd [(κ.fld k, vx)]) := by
        funext b
        by_cases h1 : b = d
        · rw [h1, upd_same, upd_same]
        · rw [upd_ne h1, upd_ne h1]
          by_cases h2 : b = a
          · rw [h2, del_same, ha]
          · rw [del_ne h2, upd_ne h2, upd_ne h1, upd_ne h2]
      rw [eh]
      have gd := fresh u1.gh hd1
      exact p (some d) σ (upd G1 d (.xd [(κ.fld k, vx)])) _ L1 (.new u1.gh hd1) (e1.new u1.gh hd1) n1 (.refl _ _) ⟨d, vx, rfl, upd_same, r1.mono (Evl.Ex.new gd)⟩
/-! ### isinstance(x, X) of one of X's own; x.f -/
def rIsX (C : Addr) : List V → Hp → VK → Prop := fun vs H Q => ∃ (a : Addr) (d : Option Addr), vs = [.ref a, .ref C] ∧ H a = some (ExV (.ref C) d a) ∧ Q (.bl true) H
theorem call_isX {X : Cx} {C : Addr} : CallR X (.builtin "isinstance") (rIsX C) := by
  intro pins s σ H vs us Q I r h
  obtain ⟨a, d, rfl, ha, q⟩ := h
  cases r with
  | cons r1 r =>
    cases r with
    | cons r2 r =>
      cases r
      cases r1
      cases r2
      obtain ⟨⟨oe, ve, get, z, data⟩, _⟩ := I.hok a _ ha
      exact PySem.W.isi_call I.kIn (t := .ref C) (fun M A Q E s k q => wpAny_typeOf_ref (k _ _ get) (by rw [z.1]; exact q)) (by simp [PySem.W.isIn]) (fun z => nomatch z) ⟨.bl true, H, I, rfl, q⟩
/-- isinstance(e, X), X the k-th class, of one of its own -/
def eIsX (k : Nat) (a : SE K κ) : SE K κ where
  te := fun Wx => tCB (rIsX (κ.at_ k)) (tCons (a.te Wx) (tCons (tC (.ref (κ.at_ k))) tNil))
  ev := fun ρ => (a.ev ρ).bindD fun x ρ => match x with
    | .excF j _ => if j = k then .ok (.d (.bl true)) ρ else .bad
    | .exc j => if j = k then .ok (.d (.bl true)) ρ else .bad
    | _ => .bad
  ok := fun Wx G H ρ σ L Q hG hE hN p => a.ok.then hG hE hN p fun x vx ρ1 G1 H1 L1 u1 e1 n1 r1 p => by
    have r2 := r1.mono u1.gh
    cases r2 with
    | excF h _ _ =>
      dsimp only at p
      split at p
      · rename_i e
        rw [e] at h
        exact ⟨_, _, rfl, h, p.ret (.refl u1.gh) e1 n1 (.bl _)⟩
      · exact p.elim
    | exc h =>
      dsimp only at p
      split at p
      · rename_i e
        rw [e] at h
        exact ⟨_, _, rfl, h, p.ret (.refl u1.gh) e1 n1 (.bl _)⟩
      · exact p.elim
    | _ => exact p.elim
def tFldX (K : PySem.W.Frag) (C : Addr) (n : Str) (te : TE) : TE := fun σ H Q => te σ H fun x H1 => ∃ (a d : Addr) (fs : List (Str × V)) (v : V), x = .ref a ∧ H1 a = some (ExV (.ref C) (some d) a) ∧ XfC K C ∧ PySem.W.findIn K (.ref C) n = some none ∧ H1 d = some (.xd fs) ∧ fs.lookup n = some v ∧ Q v H1
theorem pe_fldX {X : Cx} {C : Addr} {e : Expr} {te : TE} {pos : Pos} {n : Str} (he : PE X e te) (hb : attributeBase e n X.env (eval e X.env) = eval e X.env := by rfl) : PE X (.Attribute e n pos) (tFldX X.K C n te) := by
  refine ⟨fun pins s σ H Q I h => attr_of hb (thn (he.run pins s σ H _ I h) fun u s1 ⟨x, H1, J, rx, a, d, fs, v, ex, ha, T, hno, hd, l, q⟩ => ?_)⟩
  subst ex
  obtain rfl : u = Value.ref a := rx
  obtain ⟨⟨oe, ve, get, z, data⟩, _⟩ := J.hok a _ ha
  have hx : ObjOk X.prog X.w H1 s1.heap d (.xd fs) := J.hok d _ hd
  obtain ⟨mA, hns, hr⟩ := hx
  obtain ⟨od, ho, hl⟩ := lookIn_ns hns
  obtain ⟨w, hw, rw'⟩ := RelO.some_of (v := v) (o := mA n) (by rw [← l]; exact hr n)
  have inst : PySem.W.InstAt s1.heap a oe C (some od) := ⟨get, z.1, (by unfold PySem.W.notCls; rw [data] <;> rfl), (by rw [z.2]; exact ho)⟩
  exact HandSPX.exc_get J.kIn inst T.ga T.gg T.exC (PySem.W.findObj_own T.hdC hno rfl (by rw [hl, hw])) (handed_of rw') ⟨v, H1, J.tok _, rw', q⟩
/-- e.n, e an exception of the k-th class, n its field -/
def eFldX (k : Nat) (n : Str) (hn : κ.fld k = n) (T : XfC K (κ.at_ k)) (hno : PySem.W.findIn K (.ref (κ.at_ k)) n = some none) (a : SE K κ) : SE K κ where
  te := fun Wx => tFldX K (κ.at_ k) n (a.te Wx)
  ev := fun ρ => (a.ev ρ).bindD fun x ρ => match x with
    | .excF j y => if j = k then .ok (.d y) ρ else .bad
    | _ => .bad
  ok := fun Wx G H ρ σ L Q hG hE hN p => a.ok.then hG hE hN p fun x vx ρ1 G1 H1 L1 u1 e1 n1 r1 p => by
    cases r1 with
    | excF h1 h2 h3 =>
      dsimp only at p
      split at p
      · rename_i e
        rw [e] at h1 h2
        exact ⟨_, _, _, _, rfl, u1.gh _ _ h1, T, hno, u1.gh _ _ h2, by rw [hn]; simp [List.lookup], p.ret (.refl u1.gh) e1 n1 h3⟩
      · exact p.elim
    | _ => exact p.elim
end
end Pv

set_option maxRecDepth 100000
set_option maxHeartbeats 4000000
namespace Pv
open PySem PySem.Spec PyProof.Rows L2
/-! ### a def called by its parameters' names -/
structure DefW (P : Program) (w : World) (K : PySem.W.Frag) (κ : Cls) (mg : Str → Option Value) (base : Heap) (x : Str) (l : Nat) (ps : List Str) (F : Fn) : Prop where
  ex : ∃ (a : Addr) (fd : FuncData), FnX P w K κ mg base l a fd ps F ∧ mg x = some (.ref a) ∧ PySem.W.keepIn K (.ref a) = true ∧ Binds K fd ps [] ∧ ∀ us : List Value, us.length = ps.length → bindArgs fd ⟨[], ps.zip us⟩ = pure (ps.zip us)
section
variable {P : Program} {w : World} {K : PySem.W.Frag} {κ : Cls} {mg : Str → Option Value} {base : Heap}
theorem DefW.d {x : Str} {l : Nat} {ps : List Str} {F : Fn} (D : DefW P w K κ mg base x l ps F) : Def P w K κ mg base x l ps F :=
  let ⟨a, fd, h1, h2, h3, h4, _⟩ := D.ex
  ⟨a, fd, h1, h2, h3, h4⟩
theorem defW_of {x qual : Str} {st : Stmt} {a : Addr} {fd : FuncData} {l : Nat} {ps : List Str} {F : Fn} (D : Fun K x qual st a fd) (hm : mg x = some (.ref a)) (hb : Binds K fd ps []) (hk : ∀ us : List Value, us.length = ps.length → bindArgs fd ⟨[], ps.zip us⟩ = pure (ps.zip us)) (h : FnX P w K κ mg base l a fd ps F) : DefW P w K κ mg base x l ps F := ⟨a, fd, h, hm, D.kp, hb, hk⟩
end
section
variable {X : Cx} {P : Program} {w : World} {K : PySem.W.Frag} {mg : Str → Option Value} {base : Heap} {κ : Cls} {l k : Nat} {ps : List Str} {F : Fn} {W : WX} {x : Str} {p pos : Pos} {kws : List Keyword} {t : TA}
theorem pe_defW0 (D : DefW X.prog X.w X.K κ X.mg X.base x l ps F) (hr : Room k X.A) (hl : l ≤ k) (hq : X.A.guards = some []) (tk : Takes X W) (ha : PK X kws t) (hg : Gl X x := by rfl) (hdb : (x == ("__debug__" : Str)) = false := by decide)
    (all : (backToKw pos (keywordEach kws X.env)).all (·.1.isSome) = true := by rfl) (nms : (backToKw pos (keywordEach kws X.env)).filterMap (·.1) = ps := by rfl)
    (pl : ((backTo pos (starEach [] X.env)).any (·.1) || (backToKw pos (keywordEach kws X.env)).any (·.1.isNone)) = false := by rfl) :
    PE X (.Call (.Name x p) [] kws pos) (tCallS (spF X.K κ ps.length F) (WE W) t) := by
  obtain ⟨a, fd, C, hm, hk, _, hb⟩ := D.ex
  refine ⟨fun pins s σ H Q I h => wpAny_Call_Name_kw (ld_glob I hg hm ?_ hdb)⟩
  refine PySem.W.callWith_KW0 (h₀ := X.base) I.ok.mod.kin hk all ?_ pl
  refine thn (ha.run pos pins s σ H _ I h) fun us s1 ⟨vs, H1, J, r, q⟩ => ⟨J.kIn, ?_⟩
  rw [nms]
  have count : us.length = ps.length := r.length.symm.trans (C.len _ _ _ _ q)
  exact end_g (args := ⟨[], ps.zip us⟩) C (hr.mono hl) hq (.of_eq (hb us count)) tk J r q
theorem pe_defWK (D : DefW P w K κ mg base x l ps F) (hX : X.prog = P ∧ X.w = w ∧ X.K = K ∧ X.mg = mg ∧ X.base = base) (hr : Room k X.A) (hl : l ≤ k) (hq : X.A.guards = some []) (tk : Takes X W) (ha : PK X kws t) (hg : Gl X x := by rfl) (hdb : (x == ("__debug__" : Str)) = false := by decide)
    (all : (backToKw pos (keywordEach kws X.env)).all (·.1.isSome) = true := by rfl) (nms : (backToKw pos (keywordEach kws X.env)).filterMap (·.1) = ps := by rfl)
    (pl : ((backTo pos (starEach [] X.env)).any (·.1) || (backToKw pos (keywordEach kws X.env)).any (·.1.isNone)) = false := by rfl) :
    PE X (.Call (.Name x p) [] kws pos) (tCallS (spF K κ ps.length F) (WE W) t) := by
  obtain ⟨rfl, rfl, rfl, rfl, rfl⟩ := hX
  exact pe_defW0 D hr hl hq tk ha hg hdb all nms pl
end
/-! ### x + [..], x a list that slot i owns -/
section
variable {K : PySem.W.Frag} {κ : Cls}
def eCatM (i : Nat) (b : SE K κ) : SE K κ where
  te := fun Wx => tOp rCat (tVar i) (b.te Wx)
  ev := fun ρ => match ρ[i]? with
    | some (some (.ml _)) => match b.ev ρ with
      | .ok (.ml ys) ρ1 => match ρ1[i]? with
        | some (some (.ml xs)) => if xs.length + ys.length ≤ 1000000 then .ok (.ml (xs ++ ys)) ρ1 else .bad
        | _ => .bad
      | _ => .bad
    | _ => .bad
  ok := fun Wx G H ρ σ L Q hG hE hN p => by
    dsimp only at p
    split at p
    · rename_i zs h0
      obtain ⟨a, vs0, hs, _⟩ := hE.list hG hN h0
      refine ⟨_, hs, b.ok Wx G H ρ σ L _ hG hE hN ?_⟩
      cases hb : b.ev ρ with
      | exc c f ρ1 => rw [hb] at p; exact p.elim
      | bad => rw [hb] at p; exact p.elim
      | ok w ρ1 =>
        rw [hb] at p
        cases w with
        | d x => exact p.elim
        | md x => exact p.elim
        | mm z => exact p.elim
        | ml ys =>
          dsimp only at p
          intro v G1 H1 Lw L1 u1 e1 r1 n1
          obtain ⟨c, ws, rfl, rfl, gc, hc, qc⟩ := r1
          have nda := List.nodup_append.mp n1
          split at p
          · rename_i xs hx
            split at p
            · rename_i hz
              obtain ⟨a', vs, hs', ga, ha, qa, _⟩ := e1.list u1.gh nda.2.1 hx
              rw [hs] at hs'
              cases hs'
              have l1 := qa.length
              have l2 := qc.length
              refine ⟨a, c, vs, ws, rfl, rfl, ha, hc, Nat.le_trans (by omega : vs.length + ws.length ≤ 1000000) (by decide), fun q hq => ?_⟩
              have u2 : Stp G H L G1 H1 L1 := u1.sub fun b z => List.mem_append_right _ z
              exact p _ G1 _ [q] L1 (u2.trans (.own u1.gh hq)) (e1.ownNew hq) ⟨q, _, rfl, rfl, fresh u1.gh hq, upd_same, qa.append qc⟩ (own_nodup hq e1 nda.2.1)
            · exact p.elim
          · exact p.elim
    · exact p.elim
end
end Pv

set_option maxRecDepth 100000
set_option maxHeartbeats 1000000
namespace Pv
open PySem PySem.Spec PyProof.Rows L2
/-! ### several new objects at once -/
def ext (H : Hp) (N : Addr → Option HO) : Hp := fun b => match N b with
  | some o => some o
  | none => H b
theorem ext_old {H : Hp} {N : Addr → Option HO} {b : Addr} (h : N b = none) : ext H N b = H b := by unfold ext; rw [h]
theorem ext_new {H : Hp} {N : Addr → Option HO} {b : Addr} {o : HO} (h : N b = some o) : ext H N b = some o := by unfold ext; rw [h]
theorem inv_more {X : Cx} {pins : List (Addr × Obj)} {σ : St} {H : Hp} {s : Shared} {G : Heap} {tk : Nat} {N : Addr → Option HO} (I : Inv X pins σ H s) (keep : ∀ b o, s.heap.get? b = some o → G.get? b = some o) (above : ∀ b o, N b = some o → s.heap.objs.size ≤ b)
    (good : ∀ b o, N b = some o → ObjOk X.prog X.w (ext H N) G b o) : Inv X pins σ (ext H N) { s with heap := G, toks := tk } := by
  have stands : ∀ {b : Addr} {o : Obj}, s.heap.get? b = some o → N b = none := fun {b o} q => by
    cases e : N b with
    | none => rfl
    | some u => exact absurd (Heap.lt_size q) (Nat.not_lt.mpr (above b u e))
  have known : ∀ {b : Addr} {u : HO}, H b = some u → ext H N b = some u := fun {b u} q => by
    have : N b = none := by
      cases e : N b with
      | none => rfl
      | some v =>
        have z := I.hok.fresh (above b v e)
        rw [q] at z
        cases z
    rw [ext_old this]
    exact q
  refine I.call' (ch := []) rfl ⟨fun b o q _ _ _ => keep b o q, fun b o q _ _ _ => ⟨o.slots, keep b o q⟩, fun b o q n _ => by rw [ext_old (stands q)]; exact n, fun b o q _ => ⟨o, keep b o q⟩, fun b xs q => known q, fun b o u q => known q, fun b ps q => ⟨#[], by rw [known q]; simp⟩⟩ (fun b u q => ?_) I.bare fun b z => by simp at z
  cases e : N b with
  | some v =>
    rw [ext_new e] at q
    cases q
    exact good b _ e
  | none =>
    rw [ext_old e] at q
    exact (I.hok b u q).stay (fun d v _ y => keep d v y) (fun d y => known y) fun d xs y => known y
/-! ### sorted(d.items()), the dict's keys rising already -/
def pk (p : Int × Int) : Key × V := (.inl p.1, .int p.2)
def nS (c : Addr) (ts : List Addr) (os : Addr → Obj) (ps : List (Int × Int)) : Addr → Option HO := fun b =>
  if b = c then some (.lst (ts.map V.ref)) else match (ts.zip ps).lookup b with
    | some p => some (.frz (os b) (.tup [.int p.1, .int p.2]))
    | none => none
def Rising (ps : List (Int × Int)) : Prop := ps.Pairwise fun p q => p.1 < q.1
def tSortIt (te : TE) : TE := fun σ H Q => te σ H fun x H1 => ∃ (d : Addr) (ps : List (Int × Int)), x = .ref d ∧ H1 d = some (.dK (ps.map pk)) ∧ Rising ps ∧
  ∀ (c : Addr) (ts : List Addr) (os : Addr → Obj), H1 c = none → (∀ t ∈ ts, H1 t = none) → c ∉ ts → ts.Nodup → ts.length = ps.length → (∀ t ∈ ts, (os t).dict = none) → Q (.ref c) (ext H1 (nS c ts os ps))
theorem kv_pk {P : Program} {w : World} : ∀ (ps : List (Int × Int)) (vs : List (Key × Value)) (es : List DictEntry), KV (ps.map pk) vs → Pairs (mixKind P w) es vs → ∀ (j : Nat) (e : DictEntry), es[j]? = some e → ∃ p t u, ps[j]? = some p ∧ e.key = .int p.1 t ∧ e.val = .int p.2 u := by
  intro ps
  induction ps with
  | nil =>
    intro vs es hk hp j e h
    cases hk
    cases hp
    simp at h
  | cons p ps ih =>
    intro vs es hk hp j e h
    cases hk with
    | @cons _ v _ vs hk hr =>
      cases hp with
      | @cons e0 _ es _ h1 h2 h3 =>
        cases j with
        | zero =>
          simp only [List.getElem?_cons_zero, Option.some.injEq] at h
          subst h
          obtain ⟨kk, vv⟩ := v
          have ek : (Sum.inl p.1 : Key) = kk := hk.1
          subst ek
          obtain ⟨u, eu⟩ := (show RelV (.int p.2) vv from hk.2)
          obtain ⟨t, et⟩ := (show RelV (.int p.1) e0.key from L2.relV_key (k := .inl p.1) h1)
          exact ⟨p, t, u, rfl, et, by rw [h2]; exact eu⟩
        | succ j =>
          simp only [List.getElem?_cons_succ] at h
          obtain ⟨q, t, u, e1, e2, e3⟩ := ih vs es hr h3 j e h
          exact ⟨q, t, u, by simpa using e1, e2, e3⟩
theorem look_zip : ∀ {ts : List Addr} {ps : List (Int × Int)} {j : Nat} {t : Addr} {p : Int × Int}, ts.Nodup → ts[j]? = some t → ps[j]? = some p → (ts.zip ps).lookup t = some p
  | [], _, _, _, _, _, h, _ => by simp at h
  | _ :: _, [], _, _, _, _, _, h => by simp at h
  | a :: ts, q :: ps, 0, t, p, nd, h1, h2 => by
    simp only [List.getElem?_cons_zero, Option.some.injEq] at h1 h2
    subst h1 h2
    simp [List.lookup]
  | a :: ts, q :: ps, j + 1, t, p, nd, h1, h2 => by
    have n := List.nodup_cons.mp nd
    have h1 : ts[j]? = some t := by simpa using h1
    have h2 : ps[j]? = some p := by simpa using h2
    have ne : (t == a) = false := beq_eq_false_iff_ne.mpr fun z => n.1 (by rw [← z]; exact List.mem_of_getElem? h1)
    rw [List.zip_cons_cons]
    simp only [List.lookup, ne]
    exact look_zip n.2 h1 h2
theorem zip_mem : ∀ {ts : List Addr} {ps : List (Int × Int)} {b : Addr} {p : Int × Int}, (ts.zip ps).lookup b = some p → b ∈ ts
  | [], _, _, _, h => by simp at h
  | _ :: _, [], _, _, h => by simp at h
  | a :: ts, q :: ps, b, p, h => by
    rw [List.zip_cons_cons] at h
    by_cases e : b = a
    · rw [e]; exact List.mem_cons_self
    · have ne : (b == a) = false := beq_eq_false_iff_ne.mpr e
      simp only [List.lookup, ne] at h
      exact List.mem_cons_of_mem _ (zip_mem h)
section
variable {X : Cx} {e : Expr} {te : TE} {p apos cpos pos : Pos}
theorem pe_sortIt (calm : X.calm = true) (he : PE X e te) (hg : Gl X "sorted") (hm : X.mg "sorted" = none) (hv : bootBuiltins "sorted" = some (.builtin "sorted")) (hbase : attributeBase e "items" X.env (eval e X.env) = eval e X.env := by rfl) (hline : (apos.endLine == cpos.line) = true := by rfl)
    (st : starEach [.Call (.Attribute e "items" apos) [] [] cpos] X.env = (false, eval (.Call (.Attribute e "items" apos) [] [] cpos) X.env) :: starEach [] X.env := by rfl) :
    PE X (.Call (.Name "sorted" p) [.Call (.Attribute e "items" apos) [] [] cpos] [] pos) (tSortIt te) := by
  refine ⟨fun pins s σ H Q I h => Call_ (ld_blt I hg hm hv ?_)⟩
  refine PyProof.Rows.callWith_builtin1 (PyProof.Rows.args_cons ?_ st) rfl rfl
  refine wpAny_Call_method (T := "dict") (id := "dict.items") hbase rfl hline F.plainAttrs_dict F.slot_dict_items F.type_dict_items (thn (he.run pins s σ H _ I h) fun u s1 ⟨x, H1, J, rx, d, ps, ex, hd, rise, q⟩ => ?_)
  subst ex
  obtain rfl : u = Value.ref d := rx
  obtain ⟨hz, hs0, vs, kv, hdo⟩ := J.hok d _ hd
  obtain ⟨o, es, ep, ho, hex, hdat, _, hpr, _⟩ := id hdo
  have raw : DT.Raw s1.heap d es ep := ⟨o, ho, hex, hdat⟩
  refine ⟨hdo.typeIs, hdo.mapOf.noDict, ?_⟩
  show wpAny _ _ (callWith cpos (.builtin "dict.items") [.ref d] [] []) _ X.xe s1
  refine method_meetsIn F.slot_dict_items F.entry_dict_items rfl (PySem.evalArgs_none ⟨rfl, hdo.typeIs, F.args_dict_items_1 _, _, meets_dict_items (mixKind X.prog X.w) d hs0, ⟨vs, hdo⟩, ?_⟩)
  refine PyProof.Rows.args_nil ?_
  have le : es.size = ps.length := by
    have a := hpr.length
    have b : (ps.map pk).length = vs.length := Paired.length kv
    rw [List.length_map] at b
    rw [Array.length_toList] at a
    omega
  have small : es.size ≤ sizeLine := by rw [le]; rw [List.length_map] at hz; exact hz
  refine DT.sortedI (J.ok.hd calm) ⟨_, Heap.get?_push_size _ rfl, rfl, rfl⟩ (raw.push _) small fun G tk ts kept lt len made => ?_
  have there : ∀ {j : Nat} {t : Addr}, ts[j]? = some t → ∃ q t1 t2, ps[j]? = some q ∧ G.get? t = some { cls := .type "tuple", data := .seq #[.int q.1 t1, .int q.2 t2] } := fun {j t} hj => by
    obtain ⟨en, e1, e2⟩ := made.pairs j t hj
    obtain ⟨q, t1, t2, e3, e4, e5⟩ := kv_pk ps vs es.toList kv hpr j en (by rw [Array.getElem?_toList]; exact e1)
    exact ⟨q, t1, t2, e3, by rw [e2, e4, e5]⟩
  have nd : ts.Nodup := made.rise.imp fun h => Nat.ne_of_lt h
  have lts : ts.length = ps.length := by rw [len, le]
  have low : ∀ t ∈ ts, s1.heap.objs.size < t := fun t ht => by
    have z : (s1.heap.push { cls := .type "dict_items", data := .fields #[.ref d] }).objs.size < t := made.above t ht
    rw [Heap.size_push] at z
    omega
  have high : ∀ t ∈ ts, t < G.objs.size := fun t ht => made.there ht
  -- the list's own sort leaves it as it is
  obtain ⟨k, hk⟩ : ∃ k : Value → Int × Int, ∀ (j : Nat) (t : Addr) (q : Int × Int), ts[j]? = some t → ps[j]? = some q → k (.ref t) = q :=
    ⟨fun v => match v with
      | .ref t => ((ts.zip ps).lookup t).getD (0, 0)
      | _ => (0, 0), fun j t q h1 h2 => by
      show ((ts.zip ps).lookup t).getD (0, 0) = q
      rw [look_zip nd h1 h2]
      rfl⟩
  have szG : (s1.heap.push { cls := .type "dict_items", data := .fields #[.ref d] }).objs.size < G.objs.size := lt
  rw [Heap.size_push] at szG
  have hob : (G.push { cls := .type "list", data := .seq (ts.map Value.ref).toArray }).get? G.objs.size = some (seqObj "list" (ts.map Value.ref).toArray 0) := Heap.get?_push_size _ rfl
  have isP : ∀ v ∈ ts.map Value.ref, Srt.IsPair (G.push { cls := .type "list", data := .seq (ts.map Value.ref).toArray }) v (k v).1 (k v).2 := fun v hv => by
    obtain ⟨t, ht, rfl⟩ := List.mem_map.mp hv
    obtain ⟨j, hj⟩ := List.mem_iff_getElem?.mp ht
    obtain ⟨q, t1, t2, e1, e2⟩ := there hj
    rw [hk j t q hj e1]
    exact ⟨t, _, t1, t2, 0, rfl, Heap.get?_push_of_some _ e2, rfl, rfl⟩
  have srt : SrtO.Srtd (fun v u => SrtO.lexB (k v) (k u)) (ts.map Value.ref) := by
    rw [SrtO.Srtd, List.pairwise_map, List.pairwise_iff_getElem]
    intro i j hi hj hij
    have hi' : i < ps.length := by omega
    have hj' : j < ps.length := by omega
    have r := (List.pairwise_iff_getElem.mp rise) i j hi' hj' hij
    rw [hk i _ _ (List.getElem?_eq_getElem hi) (List.getElem?_eq_getElem hi'), hk j _ _ (List.getElem?_eq_getElem hj) (List.getElem?_eq_getElem hj')]
    exact SrtO.lexB_no.mpr (by omega)
  refine wpAny_call_entry PyProof.Rows.slot_list_sort ⟨_, hob, rfl⟩ PyProof.Rows.entry_list_sort
    (SrtO.list_sort_ord (SrtO.swo_lex k) hob (by rw [List.length_map, lts, ← le]; exact small) (fun h2 => SrtO.pairs_sortableO (by omega) isP fun o' e' => ?_) fun out h1 h2 => ⟨.none, rfl, ?_⟩) (PyProof.Rows.args_list_sort _)
  · have z : some o' = some (seqObj "list" (ts.map Value.ref).toArray 0) := e'.symm.trans hob
    cases z
    intro c
    exact absurd (Value.type.inj c) (by decide)
  · have eo : out = ts.map Value.ref := SrtO.stb_uniq (SrtO.swo_lex k) h1 srt h2
    subst eo
    obtain ⟨n, hlist⟩ := PyProof.Rows.sortedHeap_at (vs := ts.map Value.ref) (out := (ts.map Value.ref).toArray) hob
    obtain ⟨F0, hF0⟩ : ∃ F0, sortedHeap (G.push { cls := .type "list", data := .seq (ts.map Value.ref).toArray }) G.objs.size (ts.map Value.ref) (ts.map Value.ref).toArray = F0 := ⟨_, rfl⟩
    have old : ∀ b o, G.get? b = some o → F0.get? b = some o := fun b o q => by
      have hb : b < G.objs.size := Heap.lt_size q
      have hb' : b < (G.push { cls := .type "list", data := .seq (ts.map Value.ref).toArray }).objs.size := by
        rw [Heap.size_push]
        exact Nat.lt_succ_of_lt hb
      rw [← hF0, PyProof.Rows.sortedHeap_old (Nat.ne_of_lt hb) hb']
      exact Heap.get?_push_of_some _ q
    have keep : ∀ b o, s1.heap.get? b = some o → F0.get? b = some o := fun b o q => old b o (kept b o (Heap.get?_push_of_some _ q))
    have osAt : ∀ t ∈ ts, ∃ o, F0.get? t = some o ∧ o.dict = none ∧ ∃ (q : Int × Int) (t1 t2 : Tok) (j : Nat), ts[j]? = some t ∧ ps[j]? = some q ∧ o = { cls := .type "tuple", data := .seq #[.int q.1 t1, .int q.2 t2] } := fun t ht => by
      obtain ⟨j, hj⟩ := List.mem_iff_getElem?.mp ht
      obtain ⟨q, t1, t2, e1, e2⟩ := there hj
      exact ⟨_, old t _ e2, rfl, q, t1, t2, j, hj, e1, rfl⟩
    obtain ⟨os, hos⟩ : ∃ os : Addr → Obj, ∀ t ∈ ts, F0.get? t = some (os t) := ⟨fun t => (F0.get? t).getD { cls := .none, data := .fields #[] }, fun t ht => by
      obtain ⟨o, e1, _⟩ := osAt t ht
      show F0.get? t = some ((F0.get? t).getD _)
      rw [e1]
      rfl⟩
    have hosd : ∀ t ∈ ts, (os t).dict = none := fun t ht => by
      obtain ⟨o, e1, e2, _⟩ := osAt t ht
      have := hos t ht
      rw [e1] at this
      cases this
      exact e2
    have cts : G.objs.size ∉ ts := fun z => absurd (high _ z) (Nat.lt_irrefl _)
    have hlist : F0.get? G.objs.size = some (seqObj "list" (ts.map Value.ref).toArray n) := by rw [← hF0]; exact hlist
    have K2 : Inv X pins σ (ext H1 (nS G.objs.size ts os ps)) { s1 with heap := F0, toks := tk } := by
      refine inv_more J keep (fun b o hb => ?_) (fun b o hb => ?_)
      · unfold nS at hb
        split at hb
        · rename_i eb
          rw [eb]
          omega
        · split at hb
          · rename_i q0 hl
            exact Nat.le_of_lt (low b (zip_mem hl))
          · cases hb
      · unfold nS at hb
        split at hb
        · rename_i eb
          cases hb
          rw [eb]
          refine ⟨by rw [List.length_map, lts, ← le]; exact small, ts.map Value.ref, n, LiI.vals_refs ts, hlist⟩
        · split at hb
          · rename_i q0 hl
            cases hb
            have bt := zip_mem hl
            obtain ⟨o2, e1, e2, q, t1, t2, j, e3, e4, e5⟩ := osAt b bt
            have eo : os b = o2 := by
              have := hos b bt
              rw [e1] at this
              exact (Option.some.inj this).symm
            have eq : q0 = q := by
              rw [look_zip nd e3 e4] at hl
              exact (Option.some.inj hl).symm
            subst eq
            rw [eo]
            refine ⟨e1, by show 2 ≤ sizeLine; decide, [.int q0.1 t1, .int q0.2 t2], .cons ⟨t1, rfl⟩ (.cons ⟨t2, rfl⟩ .nil), ?_⟩
            exact ⟨o2, e1, by rw [e5], 0, by rw [e5]⟩
          · cases hb
    subst hF0
    refine ⟨.ref G.objs.size, _, K2, rfl, q G.objs.size ts os ?_ (fun t ht => ?_) cts nd lts hosd⟩
    · exact J.hok.fresh (by omega)
    · exact J.hok.fresh (Nat.le_of_lt (low t ht))
end
end Pv

set_option maxRecDepth 100000
set_option maxHeartbeats 1000000
namespace Pv
open PySem PySem.Spec PyProof.Rows L2
section
variable {K : PySem.W.Frag} {κ : Cls}
def intPs : List (Key × D) → Option (List (Int × Int))
  | [] => some []
  | (.inl i, .int j) :: r => match intPs r with
    | some ps => some ((i, j) :: ps)
    | none => none
  | _ :: _ => none
theorem intPs_ok {G : Hp} : ∀ (ks : List (Key × V)) (kvs : List (Key × D)) (ps : List (Int × Int)), KvAll K κ G ks kvs → intPs kvs = some ps → ks = ps.map pk := by
  intro ks
  induction ks with
  | nil =>
    intro kvs ps r h
    cases kvs with
    | nil => cases h; rfl
    | cons p kvs => exact r.elim
  | cons q ks ih =>
    intro kvs ps r h
    cases kvs with
    | nil => exact r.elim
    | cons p kvs =>
      obtain ⟨a, v⟩ := q
      obtain ⟨b, x⟩ := p
      obtain ⟨e, rx, r⟩ := r
      subst e
      cases a with
      | inr s => cases h
      | inl i =>
        cases rx <;> first | (cases h; done) | skip
        rename_i j
        simp only [intPs] at h
        split at h
        · rename_i ps' hp
          cases h
          rw [ih kvs ps' r hp]
          rfl
        · cases h
theorem rpall_of {G : Hp} : ∀ (vs : List V) (xs : List D), vs.length = xs.length → (∀ (j : Nat) (v : V) (x : D), vs[j]? = some v → xs[j]? = some x → Rp K κ G v x) → RpAll K κ G vs xs := by
  intro vs
  induction vs with
  | nil =>
    intro xs hl _
    cases xs with
    | nil => exact .nil
    | cons _ _ => cases hl
  | cons v vs ih =>
    intro xs hl h
    cases xs with
    | nil => cases hl
    | cons x xs => exact .cons (h 0 v x rfl rfl) (ih xs (Nat.succ.inj hl) fun j v' x' h1 h2 => h (j + 1) v' x' (by simpa using h1) (by simpa using h2))
instance (ps : List (Int × Int)) : Decidable (Rising ps) := by unfold Rising; infer_instance
/-- sorted(e.items()), the dict's keys whole numbers that rise, its values whole numbers -/
def eSortIt (a : SE K κ) : SE K κ where
  te := fun Wx => tSortIt (a.te Wx)
  ev := fun ρ => match a.ev ρ with
    | .ok (.md kvs) ρ => match intPs kvs with
      | some ps => if Rising ps then .ok (.d (.lst (ps.map fun p => .tup [.int p.1, .int p.2]))) ρ else .bad
      | none => .bad
    | _ => .bad
  ok := fun Wx G H ρ σ L Q hG hE hN p => by
    refine a.ok Wx G H ρ σ L _ hG hE hN ?_
    dsimp only at p
    cases h : a.ev ρ with
    | exc c f ρ1 => rw [h] at p; exact p.elim
    | bad => rw [h] at p; exact p.elim
    | ok w ρ1 =>
      rw [h] at p
      cases w with
      | d x => exact p.elim
      | ml x => exact p.elim
      | mm z => exact p.elim
      | md kvs =>
        dsimp only at p
        intro v G1 H1 Lw L1 u1 e1 r1 n1
        obtain ⟨d, ks, rfl, rfl, gd, hd, q⟩ := r1
        split at p
        · rename_i ps hp
          split at p
          · rename_i rise
            have ek := intPs_ok ks kvs ps q hp
            subst ek
            refine ⟨d, ps, rfl, hd, rise, fun c ts os hc hts cts nd len hos => ?_⟩
            have dom : ∀ b o, nS c ts os ps b = some o → H1 b = none := fun b o hb => by
              unfold nS at hb
              split at hb
              · rename_i e; rw [e]; exact hc
              · split at hb
                · rename_i p0 hl; exact hts b (zip_mem hl)
                · cases hb
            have off : ∀ b, H1 b ≠ none → nS c ts os ps b = none := fun b hb => by
              cases e : nS c ts os ps b with
              | none => rfl
              | some o => exact absurd (dom b o e) hb
            have gH : ∀ {b : Addr} {o : HO}, G1 b = some o → H1 b ≠ none := fun {b o} e z => by
              rw [u1.gh b o e] at z
              cases z
            have exG : Ex G1 (ext G1 (nS c ts os ps)) := fun b o e => by rw [ext_old (off b (gH e))]; exact e
            have nda := List.nodup_append.mp n1
            have st : Stp G1 H1 L1 (ext G1 (nS c ts os ps)) (ext H1 (nS c ts os ps)) L1 := by
              refine ⟨exG, fun b o e _ => by rw [ext_old (off b (by rw [e]; exact Option.some_ne_none _))]; exact e, fun b e => ?_, fun b n _ g => by rw [ext_old (off b n)]; exact g, fun b z => .inl z, fun b o e => ?_⟩
              · cases z : nS c ts os ps b with
                | some o => rw [ext_new z] at e; cases e
                | none => rw [ext_old z] at e; exact e
              · cases z : nS c ts os ps b with
                | some o' => rw [ext_new z] at e ⊢; exact e
                | none => rw [ext_old z] at e ⊢; exact u1.gh b o e
            have env : EnvR K κ (ext G1 (nS c ts os ps)) (ext H1 (nS c ts os ps)) ρ1 σ L1 :=
              e1.keep exG (fun b hb => by rw [ext_old (off b (e1.there b hb).1)]; exact (e1.there b hb).2) fun b hb o e => by rw [ext_old (off b (by rw [e]; exact Option.some_ne_none _))]; exact e
            have atc : nS c ts os ps c = some (.lst (ts.map V.ref)) := if_pos rfl
            have u2 : Stp G H L G1 H1 L1 := u1.sub fun b z => List.mem_append_right _ z
            refine p (.ref c) _ _ [] L1 (u2.trans st) env ⟨rfl, .lst (SqL.of (ext_new atc)) (rpall_of _ _ (by simp [len]) fun j v x h1 h2 => ?_)⟩ nda.2.1
            rw [List.getElem?_map] at h1 h2
            cases ht : ts[j]? with
            | none => rw [ht] at h1; cases h1
            | some t =>
              cases hq : ps[j]? with
              | none => rw [hq] at h2; cases h2
              | some q0 =>
                rw [ht] at h1
                rw [hq] at h2
                cases h1
                cases h2
                have tt : t ∈ ts := List.mem_of_getElem? ht
                have ne : t ≠ c := fun z => cts (by rw [← z]; exact tt)
                have att : nS c ts os ps t = some (.frz (os t) (.tup [.int q0.1, .int q0.2])) := by
                  unfold nS
                  rw [if_neg ne, look_zip nd ht hq]
                exact .tup (.inl ⟨os t, ext_new att, hos t tt⟩) (.cons (.int _) (.cons (.int _) .nil))
          · exact p.elim
        · exact p.elim
end
end Pv

set_option maxRecDepth 100000
set_option maxHeartbeats 1000000
namespace Pv
open PySem PySem.Spec PyProof.Rows L2
/-- the k-th class's own __init__ -/
structure InitD (P : Program) (w : World) (K : PySem.W.Frag) (κ : Cls) (mg : Str → Option Value) (base : Heap) (k : Nat) : Prop where
  ex : ∃ (f : Addr) (fd : FuncData) (ps : List Str), OexC K (κ.at_ k) ∧ PySem.W.findIn K (.ref (κ.at_ k)) "__init__" = some (some (.ref f)) ∧ PySem.W.typeIn K (.ref f) = some (.type "function") ∧
    FnOk P w K mg base (L2.CX P w) 1 f fd ps (spInit (κ.at_ k) (κ.fld k)) ∧ Binds K fd ps []
theorem pmk_init {X : Cx} {P : Program} {w : World} {K : PySem.W.Frag} {mg : Str → Option Value} {base : Heap} {κ : Cls} {k m : Nat} {x : Str} {e : Expr} {te : TE} {p pos : Pos} (D : InitD P w K κ mg base k) (hX : X.prog = P ∧ X.w = w ∧ X.K = K ∧ X.mg = mg ∧ X.base = base) (hr : Room m X.A) (hl : 2 ≤ m)
    (hm : mg x = some (.ref (κ.at_ k))) (he : PE X e te) (hg : Gl X x := by rfl) (hdb : (x == ("__debug__" : Str)) = false := by decide) (st : starEach [e] X.env = (false, eval e X.env) :: starEach [] X.env := by rfl) :
    PMk X (.Call (.Name x p) [e] [] pos) (tMkO (κ.at_ k) (spInit (κ.at_ k) (κ.fld k)) [] (tCons te tNil)) := by
  obtain ⟨rfl, rfl, rfl, rfl, rfl⟩ := hX
  obtain ⟨f, fd, ps, O, h1, h2, F1, hb⟩ := D.ex
  exact pmk_oex O h1 h2 F1 (hr.mono hl) hb .nil passL hg hm (pa_cons (hs := st) he pa_nil) hdb st rfl
end Pv

set_option maxRecDepth 100000
set_option maxHeartbeats 4000000
namespace Pv
open PySem PySem.Spec PyProof.Rows L2
section
variable {K : PySem.W.Frag} {κ : Cls}
theorem eV_ev (i : Nat) : (eV (K := K) (κ := κ) i).ev = evV i := rfl
theorem eC_ev (x : D) (v : V) (r : ∀ G, Rp K κ G v x) : (eC (K := K) (κ := κ) x v r).ev = fun ρ => .ok (.d x) ρ := rfl
theorem eOp_ev (r : R2) (g : D → D → Option D) (h : OpS K κ r g) (a b : SE K κ) : (eOp (K := K) (κ := κ) r g h a b).ev = fun ρ => (a.ev ρ).bindD fun x ρ => (b.ev ρ).bindD fun y ρ => R.of (g x y) ρ := rfl
theorem eUn_ev (r : V → Hp → VK → Prop) (g : D → Option D) (h : UnS K κ r g) (a : SE K κ) : (eUn (K := K) (κ := κ) r g h a).ev = fun ρ => (a.ev ρ).bindD fun x ρ => R.of (g x) ρ := rfl
theorem eIsN_ev (a : SE K κ) : (eIsN (K := K) (κ := κ) a).ev = fun ρ => (a.ev ρ).bindD fun x ρ => .ok (.d (.bl (D.isN x))) ρ := rfl
theorem eNotN_ev (a : SE K κ) : (eNotN (K := K) (κ := κ) a).ev = fun ρ => (a.ev ρ).bindD fun x ρ => .ok (.d (.bl (!D.isN x))) ρ := rfl
theorem aNil_ev : (aNil (K := K) (κ := κ) ).ev = fun ρ => .ok [] ρ := rfl
theorem aCons_ev (a : SE K κ) (r : SA K κ) : (aCons (K := K) (κ := κ) a r).ev = fun ρ => (a.ev ρ).bindD fun x ρ => (r.ev ρ).bind fun as ρ => .ok (.a x :: as) ρ := rfl
theorem aM_ev (i : Nat) (r : SA K κ) : (aM (K := K) (κ := κ) i r).ev = fun ρ => match ρ[i]? with
    | some (some _) => (r.ev ρ).bind fun as ρ => .ok (.m i :: as) ρ
    | _ => .bad := rfl
theorem eTup_ev (r : SA K κ) : (eTup (K := K) (κ := κ) r).ev = fun ρ => (r.ev ρ).bind fun as ρ => evD as fun xs => if xs.length ≤ 1000000 then .ok (.d (.tup xs)) ρ else .bad := rfl
theorem eLst_ev (r : SA K κ) : (eLst (K := K) (κ := κ) r).ev = fun ρ => (r.ev ρ).bind fun as ρ => evD as fun xs => if xs.length ≤ 1000000 then .ok (.d (.lst xs)) ρ else .bad := rfl
theorem eLstM_ev (r : SA K κ) : (eLstM (K := K) (κ := κ) r).ev = fun ρ => (r.ev ρ).bind fun as ρ => evD as fun xs => if xs.length ≤ 1000000 then .ok (.ml xs) ρ else .bad := rfl
theorem eCall_ev (n : Nat) (f : Fn) (r : SA K κ) : (eCall (K := K) (κ := κ) n f r).ev = fun ρ => (r.ev ρ).bind fun as ρ => if as.length = n then callOn f as ρ else .bad := rfl
theorem eCB_ev (r : List V → Hp → VK → Prop) (g : List D → Option D) (h : CbS K κ r g) (a : SA K κ) : (eCB (K := K) (κ := κ) r g h a).ev = fun ρ => (a.ev ρ).bind fun as ρ => evD as fun xs => R.of (g xs) ρ := rfl
theorem tV_ev (a : SE K κ) : (tV (K := K) (κ := κ) a).ev = fun ρ => (a.ev ρ).bindD fun x ρ => match x with
    | .bl b => .ok b ρ
    | _ => .bad := rfl
theorem tV'_ev (a : SE K κ) : (tV' (K := K) (κ := κ) a).ev = (tV a).ev := rfl
theorem tAnd'_ev (a b : ST K κ) : (tAnd' (K := K) (κ := κ) a b).ev = fun ρ => (a.ev ρ).bind fun c ρ => if c = true then b.ev ρ else .ok false ρ := rfl
theorem tOr'_ev (a b : ST K κ) : (tOr' (K := K) (κ := κ) a b).ev = fun ρ => (a.ev ρ).bind fun c ρ => if c = true then .ok true ρ else b.ev ρ := rfl
theorem tNot'_ev (a : ST K κ) : (tNot' (K := K) (κ := κ) a).ev = fun ρ => (a.ev ρ).bind fun c ρ => .ok (!c) ρ := rfl
theorem eAndV_ev (a b : SE K κ) : (eAndV (K := K) (κ := κ) a b).ev = fun ρ => (a.ev ρ).bindD fun x ρ => match x with
    | .bl c => if c = true then b.ev ρ else .ok (.d (.bl false)) ρ
    | _ => .bad := rfl
theorem eOrV_ev (a b : SE K κ) : (eOrV (K := K) (κ := κ) a b).ev = fun ρ => (a.ev ρ).bindD fun x ρ => match x with
    | .bl c => if c = true then .ok (.d (.bl true)) ρ else b.ev ρ
    | _ => .bad := rfl
theorem eNotV_ev (a : SE K κ) : (eNotV (K := K) (κ := κ) a).ev = fun ρ => (a.ev ρ).bindD fun x ρ => match x with
    | .bl c => .ok (.d (.bl (!c))) ρ
    | _ => .bad := rfl
theorem eIf_ev (t : ST K κ) (a b : SE K κ) : (eIf (K := K) (κ := κ) t a b).ev = fun ρ => (t.ev ρ).bind fun c ρ => if c = true then a.ev ρ else b.ev ρ := rfl
theorem sNil_sv : (sNil (K := K) (κ := κ) ).sv = fun ρ => .ok .nx ρ := rfl
theorem sSeq_sv (a b : SS K κ) : (sSeq (K := K) (κ := κ) a b).sv = fun ρ => (a.sv ρ).flow b.sv := rfl
theorem sAsg_sv (i : Nat) (e : SE K κ) : (sAsg (K := K) (κ := κ) i e).sv = fun ρ => (e.ev ρ).bind fun w ρ => if i < ρ.length then .ok .nx (ρ.set i (some w)) else .bad := rfl
theorem sIf_sv (t : ST K κ) (a b : SS K κ) : (sIf (K := K) (κ := κ) t a b).sv = fun ρ => (t.ev ρ).bind fun c ρ => if c = true then a.sv ρ else b.sv ρ := rfl
theorem sRet_sv (e : SE K κ) : (sRet (K := K) (κ := κ) e).sv = fun ρ => (e.ev ρ).bind fun w ρ => .ok (.rt w) ρ := rfl
theorem sDrop_sv (e : SE K κ) : (sDrop (K := K) (κ := κ) e).sv = fun ρ => (e.ev ρ).bind fun _ ρ => .ok .nx ρ := rfl
theorem sSetL_sv (i j : Nat) (e : SE K κ) : (sSetL (K := K) (κ := κ) i j e).sv = fun ρ => (e.ev ρ).bindD fun x ρ => match ρ[i]? with
    | some (some (.ml xs)) => if j < xs.length then .ok .nx (ρ.set i (some (.ml (xs.set j x)))) else .bad
    | _ => .bad := rfl
theorem sApp_sv (K' : PySem.W.Frag) (hK : K' = K) (i : Nat) (e : SE K κ) : (sApp (K := K) (κ := κ) K' hK i e).sv = fun ρ => match ρ[i]? with
    | some (some (.ml _)) => (e.ev ρ).bindD fun x ρ => match ρ[i]? with
      | some (some (.ml xs)) => if xs.length < 1000000 then .ok .nx (ρ.set i (some (.ml (xs ++ [x])))) else .bad
      | _ => .bad
    | _ => .bad := rfl
theorem eIxM_ev (i : Nat) (b : SE K κ) : (eIxM (K := K) (κ := κ) i b).ev = fun ρ => match ρ[i]? with
    | some (some (.ml _)) => (b.ev ρ).bindD fun y ρ => match y, ρ[i]? with
      | .int j, some (some (.ml xs)) => match atI xs j with
        | some z => .ok (.d z) ρ
        | none => .bad
      | _, _ => .bad
    | _ => .bad := rfl
theorem eLenM_ev (i : Nat) : (eLenM (K := K) (κ := κ) i).ev = fun ρ => match ρ[i]? with
    | some (some (.ml xs)) => .ok (.d (.int xs.length)) ρ
    | _ => .bad := rfl
theorem iT_ev (a : SE K κ) : (iT (K := K) (κ := κ) a).ev = fun ρ => (a.ev ρ).bindD fun x ρ => match x with
    | .tup xs => .ok xs ρ
    | _ => .bad := rfl
theorem iL_ev (a : SE K κ) : (iL (K := K) (κ := κ) a).ev = fun ρ => (a.ev ρ).bindD fun x ρ => match x with
    | .lst xs => .ok xs ρ
    | _ => .bad := rfl
theorem iR1_ev (a : SE K κ) : (iR1 (K := K) (κ := κ) a).ev = fun ρ => (a.ev ρ).bindD fun x ρ => match x with
    | .int n => if -(2 ^ 62) ≤ n ∧ n < 2 ^ 62 then .ok (nums 0 n.toNat) ρ else .bad
    | _ => .bad := rfl
theorem iR2_ev (a b : SE K κ) : (iR2 (K := K) (κ := κ) a b).ev = fun ρ => (a.ev ρ).bindD fun x ρ => (b.ev ρ).bindD fun y ρ => match x, y with
    | .int m, .int n => if -(2 ^ 62) ≤ m ∧ m < 2 ^ 62 ∧ -(2 ^ 62) ≤ n ∧ n < 2 ^ 62 then .ok (nums m (n - m).toNat) ρ else .bad
    | _, _ => .bad := rfl
theorem gN_put (i : Nat) : (gN (K := K) (κ := κ) i).put = fun x ρ => if i < ρ.length then some (ρ.set i (some (.d x))) else none := rfl
theorem gs0_put : (gs0 (K := K) (κ := κ) ).put = fun xs ρ => match xs with
    | [] => some ρ
    | _ => none := rfl
theorem gs1_put (g : SG K κ) (r : SGs K κ) : (gs1 (K := K) (κ := κ) g r).put = fun xs ρ => match xs with
    | x :: xs => match g.put x ρ with
      | some ρ => r.put xs ρ
      | none => none
    | [] => none := rfl
theorem gT_put (n : Nat) (r : SGs K κ) : (gT (K := K) (κ := κ) n r).put = fun x ρ => match x with
    | .tup xs => if xs.length = n then r.put xs ρ else none
    | .tupW xs => if xs.length = n then r.put xs ρ else none
    | _ => none := rfl
theorem sAsgG_sv (g : SG K κ) (e : SE K κ) : (sAsgG (K := K) (κ := κ) g e).sv = fun ρ => (e.ev ρ).bindD fun x ρ => match g.put x ρ with
    | some ρ => .ok .nx ρ
    | none => .bad := rfl
theorem sFor_sv (it : SI K κ) (g : SG K κ) (b : SS K κ) : (sFor (K := K) (κ := κ) it g b).sv = fun ρ => (it.ev ρ).bind fun xs ρ => loopS g.put b.sv xs ρ := rfl
theorem eLc_ev (it : SI K κ) (g : SG K κ) (t : ST K κ) (e : SE K κ) (vs : List Nat) (hv : ∀ i ∈ g.asg, i ∈ vs) : (eLc (K := K) (κ := κ) it g t e vs hv).ev = fun ρ => (evLc it.ev g.put t.ev e.ev vs ρ).bind fun ys ρ => .ok (.d (.lst ys)) ρ := rfl
theorem eLcM_ev (it : SI K κ) (g : SG K κ) (t : ST K κ) (e : SE K κ) (vs : List Nat) (hv : ∀ i ∈ g.asg, i ∈ vs) : (eLcM (K := K) (κ := κ) it g t e vs hv).ev = fun ρ => (evLc it.ev g.put t.ev e.ev vs ρ).bind fun ys ρ => .ok (.ml ys) ρ := rfl
theorem tYes'_ev : (tYes' (K := K) (κ := κ) ).ev = fun ρ => .ok true ρ := rfl
theorem eIs_ev (c : V) (u : Value) (hc : ClsV c u) (g : D → Option Bool) (hg : ∀ x b, g x = some b → IsK K κ x ∧ PySem.W.kitOne K (tyD κ x) u = some b) (a : SE K κ) : (eIs (K := K) (κ := κ) c u hc g hg a).ev = fun ρ => (a.ev ρ).bindD fun x ρ => match g x with
    | some b => .ok (.d (.bl b)) ρ
    | none => .bad := rfl
theorem sRaise_sv (k : Nat) : (sRaise (K := K) (κ := κ) k).sv = fun ρ => .exc k none ρ := rfl
theorem sTry_sv (c : Value) (i j : Nat) (hij : i ≠ j) (f : Nat → Bool) (hf : ∀ k, f k = true → PySem.W.exmOne K (.ref (κ.at_ k)) c = some true) (b : SS K κ) : (sTry (K := K) (κ := κ) c i j hij f hf b).sv = fun ρ => match b.sv ρ with
    | .exc k x ρ => if f k = true ∧ i < ρ.length ∧ j < ρ.length then .ok .nx ((ρ.set i none).set j (some (.d (D.ofExc k x)))) else .bad
    | r => r := rfl
theorem sNever_sv : (sNever (K := K) (κ := κ) ).sv = fun _ => .bad := rfl
theorem sPar_sv (i j : Nat) (hij : i ≠ j) (a b : SE K κ) : (sPar (K := K) (κ := κ) i j hij a b).sv = fun ρ => (a.ev ρ).bindD fun x ρ => (b.ev ρ).bindD fun y ρ => if i < ρ.length ∧ j < ρ.length then .ok .nx ((ρ.set i (some (.d x))).set j (some (.d y))) else .bad := rfl
theorem o0_ev : (o0 (K := K) (κ := κ) ).ev = fun ρ => .ok none ρ := rfl
theorem o1_ev (a : SE K κ) : (o1 (K := K) (κ := κ) a).ev = fun ρ => (a.ev ρ).bindD fun x ρ => match x with
    | .int i => .ok (some i) ρ
    | _ => .bad := rfl
theorem eSlT_ev (a : SE K κ) (lo hi : SO K κ) : (eSlT (K := K) (κ := κ) a lo hi).ev = fun ρ => (a.ev ρ).bindD fun x ρ => (lo.ev ρ).bind fun i ρ => (hi.ev ρ).bind fun j ρ => match x with
    | .tup xs => .ok (.d (.tup (cutD xs i j))) ρ
    | _ => .bad := rfl
theorem sSetD_sv (i : Nat) (k e : SE K κ) : (sSetD (K := K) (κ := κ) i k e).sv = fun ρ => (e.ev ρ).bindD fun x ρ => match ρ[i]? with
    | some (some (.md _)) => (k.ev ρ).bindD fun y ρ => match D.key y, ρ[i]? with
      | some kk, some (some (.md kvs)) => if kvs.length < 1000000 then .ok .nx (ρ.set i (some (.md (storeD kvs kk x)))) else .bad
      | _, _ => .bad
    | _ => .bad := rfl
theorem eIxD_ev (i : Nat) (k : SE K κ) : (eIxD (K := K) (κ := κ) i k).ev = fun ρ => match ρ[i]? with
    | some (some (.md _)) => (k.ev ρ).bindD fun y ρ => match D.key y, ρ[i]? with
      | some kk, some (some (.md kvs)) => R.of (lookD kvs kk) ρ
      | _, _ => .bad
    | _ => .bad := rfl
theorem eGetD_ev (i : Nat) (k e : SE K κ) : (eGetD (K := K) (κ := κ) i k e).ev = fun ρ => match ρ[i]? with
    | some (some (.md _)) => (k.ev ρ).bindD fun y ρ => (e.ev ρ).bindD fun z ρ => match D.key y, ρ[i]? with
      | some kk, some (some (.md kvs)) => .ok (.d ((lookD kvs kk).getD z)) ρ
      | _, _ => .bad
    | _ => .bad := rfl
theorem eSortD_ev (i : Nat) : (eSortD (K := K) (κ := κ) i).ev = fun ρ => match ρ[i]? with
    | some (some (.md kvs)) => match keysI kvs with
      | some is => if is.length < 64 then .ok (.d (.lst ((sortI is).map .int))) ρ else .bad
      | none => .bad
    | _ => .bad := rfl
theorem eDict_ev (a : SE K κ) : (eDict (K := K) (κ := κ) a).ev = fun ρ => (a.ev ρ).bindD fun x ρ => match D.seq x with
    | some xs => match pairsD xs with
      | some kvs => .ok (.md (kvs.foldl (fun acc p => storeD acc p.1 p.2) [])) ρ
      | none => .bad
    | none => .bad := rfl
theorem eNegC_ev (i : Int) : (eNegC (K := K) (κ := κ) i).ev = fun ρ => .ok (.d (.int (-i))) ρ := rfl
theorem eRevT_ev (a : SE K κ) : (eRevT (K := K) (κ := κ) a).ev = fun ρ => (a.ev ρ).bindD fun x ρ => match x with
    | .tup xs => .ok (.d (.tup xs.reverse)) ρ
    | _ => .bad := rfl
theorem sAugI_sv (f : Int → Int → Int) (i : Nat) (e : SE K κ) : (sAugI (K := K) (κ := κ) f i e).sv = fun ρ => match ρ[i]? with
    | some (some (.d (.int m))) => (e.ev ρ).bindD fun y ρ => match y with
      | .int n => .ok .nx (ρ.set i (some (.d (.int (f m n)))))
      | _ => .bad
    | _ => .bad := rfl
theorem eOrD_ev (a b : SE K κ) : (eOrD (K := K) (κ := κ) a b).ev = fun ρ => (a.ev ρ).bindD fun x ρ => match D.tru x with
    | some true => .ok (.d x) ρ
    | some false => b.ev ρ
    | none => .bad := rfl
theorem eRepM_ev (a k : SE K κ) : (eRepM (K := K) (κ := κ) a k).ev = fun ρ => match a.ev ρ with
    | .ok (.ml xs) ρ => (k.ev ρ).bindD fun y ρ => match y with
      | .int n => if 0 ≤ n ∧ n ≤ 1000 ∧ xs.length ≤ 1000 then .ok (.ml (List.replicate n.toNat xs).flatten) ρ else .bad
      | _ => .bad
    | _ => .bad := rfl
theorem iItemsD_ev (i : Nat) : (iItemsD (K := K) (κ := κ) i).ev = fun ρ => match ρ[i]? with
    | some (some (.md kvs)) => .ok (kvs.map fun p => .tupW [keyD p.1, p.2]) (ρ.set i none)
    | _ => .bad := rfl
theorem iZip_ev (a b : SE K κ) : (iZip (K := K) (κ := κ) a b).ev = fun ρ => (a.ev ρ).bindD fun x ρ => (b.ev ρ).bindD fun y ρ => match x, y with
    | .tup xs, .lst ys => if xs.length = ys.length then .ok ((xs.zip ys).map pairD) ρ else .bad
    | _, _ => .bad := rfl
theorem sRaiseF_sv (k : Nat) (e : SE K κ) : (sRaiseF (K := K) (κ := κ) k e).sv = fun ρ => (e.ev ρ).bindD fun x ρ => .exc k (some x) ρ := rfl
theorem eIsX_ev (k : Nat) (a : SE K κ) : (eIsX (K := K) (κ := κ) k a).ev = fun ρ => (a.ev ρ).bindD fun x ρ => match x with
    | .excF j _ => if j = k then .ok (.d (.bl true)) ρ else .bad
    | .exc j => if j = k then .ok (.d (.bl true)) ρ else .bad
    | _ => .bad := rfl
theorem eFldX_ev (k : Nat) (n : Str) (hn : κ.fld k = n) (T : XfC K (κ.at_ k)) (hno : PySem.W.findIn K (.ref (κ.at_ k)) n = some none) (a : SE K κ) : (eFldX (K := K) (κ := κ) k n hn T hno a).ev = fun ρ => (a.ev ρ).bindD fun x ρ => match x with
    | .excF j y => if j = k then .ok (.d y) ρ else .bad
    | _ => .bad := rfl
theorem eCatM_ev (i : Nat) (b : SE K κ) : (eCatM (K := K) (κ := κ) i b).ev = fun ρ => match ρ[i]? with
    | some (some (.ml _)) => match b.ev ρ with
      | .ok (.ml ys) ρ1 => match ρ1[i]? with
        | some (some (.ml xs)) => if xs.length + ys.length ≤ 1000000 then .ok (.ml (xs ++ ys)) ρ1 else .bad
        | _ => .bad
      | _ => .bad
    | _ => .bad := rfl
theorem eSortIt_ev (a : SE K κ) : (eSortIt (K := K) (κ := κ) a).ev = fun ρ => match a.ev ρ with
    | .ok (.md kvs) ρ => match intPs kvs with
      | some ps => if Rising ps then .ok (.d (.lst (ps.map fun p => .tup [.int p.1, .int p.2]))) ρ else .bad
      | none => .bad
    | _ => .bad := rfl
end
end Pv

namespace Pv
theorem ite_t {α : Sort _} {a b : α} : (if (true = true) then a else b) = a := rfl
theorem ite_f {α : Sort _} {a b : α} : (if (false = true) then a else b) = b := rfl
section
variable {put : D → Env → Option Env} {body : Env → R Env Flow} {x : D} {xs : List D} {ρ ρ1 ρ2 : Env} {w : W}
theorem loop_nx (hp : put x ρ = some ρ1) (hb : body ρ1 = .ok .nx ρ2) : loopS put body (x :: xs) ρ = loopS put body xs ρ2 := by
  rw [loopS.eq_2, hp]
  simp only [hb]
theorem loop_rt (hp : put x ρ = some ρ1) (hb : body ρ1 = .ok (.rt w) ρ2) : loopS put body (x :: xs) ρ = .ok (.rt w) ρ2 := by
  rw [loopS.eq_2, hp]
  simp only [hb]
theorem loop_nil : loopS put body [] ρ = .ok .nx ρ := rfl
end
end Pv

set_option maxRecDepth 100000
set_option maxHeartbeats 4000000
namespace Pv
open PySem PySem.Spec PyProof.Rows L2
theorem loopC_f {vs : List Nat} {put : D → Env → Option Env} {t : Env → R Env Bool} {e : Env → R Env W} {x : D} {xs acc : List D} {ρ ρ1 ρ2 : Env} (hp : put x ρ = some ρ1) (ht : t ρ1 = .ok false ρ2) :
    loopC vs put t e (x :: xs) ρ acc = loopC vs put t e xs (wipeE ρ2 vs) acc := by
  rw [loopC.eq_2, hp]
  simp only [ht]
theorem loopC_t {vs : List Nat} {put : D → Env → Option Env} {t : Env → R Env Bool} {e : Env → R Env W} {x y : D} {xs acc : List D} {ρ ρ1 ρ2 ρ3 : Env} (hp : put x ρ = some ρ1) (ht : t ρ1 = .ok true ρ2) (he : e ρ2 = .ok (.d y) ρ3) (hl : acc.length < 1000000) :
    loopC vs put t e (x :: xs) ρ acc = loopC vs put t e xs (wipeE ρ3 vs) (acc ++ [y]) := by
  rw [loopC.eq_2, hp]
  simp only [ht, he, if_pos hl]
section
variable {K : PySem.W.Frag} {κ : Cls} {mg : Str → Option Value}
theorem fn_rt {n : Nat} {asg : List Nat} {sv : Env → R Env Flow} {ws us : List W} {ρ : Env} {w : W} (h : sv (begun n ws) = .ok (.rt w) ρ) (l : left asg ρ 0 ws = some us) : fnOf n asg sv ws = .ok w us := by
  unfold fnOf
  rw [h]
  show (match left asg ρ 0 ws with | some us => R.ok w us | none => .bad) = _
  rw [l]
theorem for_of {it : SI K κ} {g : SG K κ} {b : SS K κ} {ρ ρ1 : Env} {xs : List D} {r : R Env Flow} (hi : it.ev ρ = .ok xs ρ1) (hl : loopS g.put b.sv xs ρ1 = r) : (sFor it g b).sv ρ = r := by
  show (it.ev ρ).bind _ = r
  rw [hi]
  exact hl
theorem divW {d n : Int} (h : 0 < n) (h' : n < 1000) : CDivW d n := ⟨h, Nat.lt_of_le_of_lt (Nat.log2_le_self _) (by omega)⟩
theorem seq_nx {a b : SS K κ} {ρ ρ' : Env} {r : R Env Flow} (h : a.sv ρ = .ok .nx ρ') (k : b.sv ρ' = r) : (sSeq a b).sv ρ = r := by
  show (a.sv ρ).flow b.sv = r
  rw [h]
  exact k
theorem seq_rt {a b : SS K κ} {ρ ρ' : Env} {w : W} (h : a.sv ρ = .ok (.rt w) ρ') : (sSeq a b).sv ρ = .ok (.rt w) ρ' := by
  show (a.sv ρ).flow b.sv = _
  rw [h]
  rfl
theorem at_in {xs : List D} {j : Int} (h : 0 ≤ j) (h' : j < xs.length) : ∃ z, L2.atI xs j = some z ∧ z ∈ xs := by
  have l : j.toNat < xs.length := by omega
  refine ⟨xs[j.toNat], ?_, List.getElem_mem l⟩
  unfold L2.atI L2.ixN
  rw [if_pos h, if_pos h']
  exact List.getElem?_eq_getElem l
theorem pickL {xs : List D} (d n : Int) (hn : (xs.length : Int) = n) (h0 : 0 < n) : ∃ z, gIxL (.lst xs) (.int (d % n)) = some z ∧ z ∈ xs :=
  at_in (Int.emod_nonneg d (by omega)) (by rw [hn]; exact Int.emod_lt_of_pos d h0)
theorem pickT {xs : List D} (d n : Int) (hn : (xs.length : Int) = n) (h0 : 0 < n) : ∃ z, gIxT (.tup xs) (.int (d % n)) = some z ∧ z ∈ xs :=
  at_in (Int.emod_nonneg d (by omega)) (by rw [hn]; exact Int.emod_lt_of_pos d h0)
theorem lastT {xs : List D} (h : 0 < xs.length) : ∃ z, gIxT (.tup xs) (.int (-1)) = some z ∧ z ∈ xs := by
  have l : xs.length - 1 < xs.length := by omega
  refine ⟨xs[xs.length - 1], ?_, List.getElem_mem l⟩
  show L2.atI xs (-1) = _
  unfold L2.atI L2.ixN
  rw [if_neg (by omega), if_pos (by omega)]
  have : ((-1 : Int) + (xs.length : Int)).toNat = xs.length - 1 := by omega
  show xs[((-1 : Int) + (xs.length : Int)).toNat]? = _
  rw [this]
  exact List.getElem?_eq_getElem l
theorem firstT {xs : List D} (h : 0 < xs.length) : ∃ z, gIxT (.tup xs) (.int 0) = some z ∧ z ∈ xs := at_in (Int.le_refl 0) (by omega)
theorem call2_of {f : Fn} {a b : SE K κ} {ρ ρ1 ρ2 : Env} {x y z : D} (ha : a.ev ρ = .ok (.d x) ρ1) (hb : b.ev ρ1 = .ok (.d y) ρ2) (hf : f [.d x, .d y] = .ok (.d z) [.d x, .d y]) : (eCall 2 f (aCons a (aCons b aNil))).ev ρ = .ok (.d z) ρ2 := by
  simp only [eV_ev, eC_ev, eOp_ev, eUn_ev, eIsN_ev, eNotN_ev, aNil_ev, aCons_ev, aM_ev, eTup_ev, eLst_ev, eLstM_ev, eCall_ev, eCB_ev, tV_ev, tV'_ev, tAnd'_ev, tOr'_ev, tNot'_ev, eAndV_ev, eOrV_ev, eNotV_ev, eIf_ev, sNil_sv, sSeq_sv, sAsg_sv, sIf_sv, sRet_sv, sDrop_sv, sSetL_sv, sApp_sv, eIxM_ev, eLenM_ev, iT_ev, iL_ev, iR1_ev, iR2_ev, gN_put, gs0_put, gs1_put, gT_put, sAsgG_sv, tYes'_ev, eIs_ev, sRaise_sv, sTry_sv, sNever_sv, sPar_sv, o0_ev, o1_ev, eSlT_ev, sSetD_sv, eIxD_ev, eGetD_ev, eSortD_ev, eDict_ev, eNegC_ev, eRevT_ev, eOrD_ev, eRepM_ev, sAugI_sv, iItemsD_ev, iZip_ev, sRaiseF_sv, eIsX_ev, eFldX_ev, eCatM_ev, eSortIt_ev, sAugAdd, sAugSub, eIntOf, eRep01, eStrOf, eTupOf, eLstOf, eCatT, eInt, eStr, eBl, eNon, eAdd, eSub, eMul, eMulW, eMod, eDiv, ePow, eLt, eLe, eGt, eGe, eEq, eNe, eIxL, eIxT, eLen, eMax2, eMin2, eAll, eAny, eSum, eIsTy, R.bindD_ok, gI, R.bindD_ok, R.bindD_exc, R.bind_ok, R.bind_exc, R.bind_bad, R.of, R.flow, evV, evD, dat, pull, push, callOn, left, begun, List.length_cons, List.length_nil, List.getElem?_cons_zero, List.getElem?_cons_succ, List.set_cons_zero, List.set_cons_succ, if_true, if_false, ite_t, ite_f, Nat.reduceAdd, Nat.reduceLT, Nat.reduceSub, Nat.reduceEqDiff, Nat.reduceLeDiff, List.map_cons, List.map_nil, List.replicate, List.append_nil, List.nil_append, List.cons_append, and_self, true_and, and_true, Bool.not_true, Bool.not_false, Bool.false_eq_true, reduceIte, Nat.zero_add, Nat.lt_add_left_iff_pos, ha, hb, hf]
theorem asg_of {i : Nat} {e : SE K κ} {ρ ρ1 : Env} {w : W} (h : e.ev ρ = .ok w ρ1) (hi : i < ρ1.length) : (sAsg i e).sv ρ = .ok .nx (ρ1.set i (some w)) := by
  show (e.ev ρ).bind _ = _
  rw [h]
  exact if_pos hi
theorem divW12 {d n : Int} (h : 0 < n) (h' : n < 10 ^ 12) : CDivW d n := ⟨h, by
  have : n.natAbs.log2 < 40 := (Nat.log2_lt (by omega)).mpr (Nat.lt_trans (by omega : n.natAbs < 10 ^ 12) (by decide))
  omega⟩
theorem gEq_int (i j : Int) : gEq (.int i) (.int j) = some (.bl (i == j)) := by kernel_rfl
theorem loopC_map {α : Type} {vs : List Nat} {put : D → Env → Option Env} {t : Env → R Env Bool} {e : Env → R Env W} {ρ0 : Env} (f : α → D) (h : α → Option D) : ∀ (qs : List α) (acc : List D),
    (∀ a ∈ qs, ∃ ρ1 ρ2, put (f a) ρ0 = some ρ1 ∧ match h a with
      | some y => ∃ ρ3, t ρ1 = .ok true ρ2 ∧ e ρ2 = .ok (.d y) ρ3 ∧ wipeE ρ3 vs = ρ0
      | none => t ρ1 = .ok false ρ2 ∧ wipeE ρ2 vs = ρ0) → acc.length + qs.length ≤ 1000 → loopC vs put t e (qs.map f) ρ0 acc = .ok (acc ++ qs.filterMap h) ρ0 := by
  intro qs
  induction qs with
  | nil => intro acc _ _; simp [loopC]
  | cons q qs ih =>
    intro acc hq hl
    simp only [List.length_cons] at hl
    obtain ⟨ρ1, ρ2, hp, hm⟩ := hq q (by simp)
    rw [List.map_cons]
    cases hh : h q with
    | none =>
      rw [hh] at hm
      rw [loopC_f hp hm.1, hm.2, ih acc (fun a z => hq a (by simp [z])) (by omega), List.filterMap_cons, hh]
    | some y =>
      rw [hh] at hm
      obtain ⟨ρ3, h1, h2, h3⟩ := hm
      rw [loopC_t hp h1 h2 (by omega), h3, ih (acc ++ [y]) (fun a z => hq a (by simp [z])) (by simp; omega), List.filterMap_cons, hh]
      simp
theorem lc_of {it : SI K κ} {g : SG K κ} {t : ST K κ} {e : SE K κ} {vs : List Nat} {hv : ∀ i ∈ g.asg, i ∈ vs} {ρ ρi ρ0 ρ' : Env} {xs ys : List D} (hi : it.ev ρ = .ok xs ρi) (hw : wipeE ρi vs = ρ0) (hl : loopC vs g.put t.ev e.ev xs ρ0 [] = .ok ys ρ0) (hu : unwE ρ0 vs = ρ') :
    (eLc it g t e vs hv).ev ρ = .ok (.d (.lst ys)) ρ' := by
  show ((it.ev ρ).bind fun xs ρ => (loopC vs g.put t.ev e.ev xs (wipeE ρ vs) []).bind fun ys ρ => .ok ys (unwE ρ vs)).bind _ = _
  rw [hi]
  show ((loopC vs g.put t.ev e.ev xs (wipeE ρi vs) []).bind fun ys ρ => .ok ys (unwE ρ vs)).bind _ = _
  rw [hw, hl]
  show R.ok (W.d (.lst ys)) (unwE ρ0 vs) = _
  rw [hu]
theorem numsOf_map : ∀ is : List Int, numsOf (is.map .int) = some is
  | [] => rfl
  | i :: is => by
    show numsOf (.int i :: is.map .int) = _
    unfold numsOf
    rw [numsOf_map is]
theorem gSum_map (is : List Int) : gSum [.lst (is.map .int)] = some (.int is.sum) := by
  show (match numsOf (is.map .int) with | some is => some (D.int is.sum) | none => none) = _
  rw [numsOf_map is]
end
end Pv

set_option maxRecDepth 100000
set_option maxHeartbeats 4000000
namespace Pv
open PySem PySem.Spec PyProof.Rows L2
section
variable {P : Program} {w : World} {K : PySem.W.Frag} {κ : Cls} {mg : Str → Option Value} {base : Heap}
theorem defO_mk {x nm : Str} {st : Stmt} {f kd : Addr} {oc dc pm cd ct : Value} {od an : Option Addr} {sl : Array (Option Value)} {l n : Nat} {ps : List Str} {F : Fn}
    (hl : K.lookup f = some ⟨oc, od, .func (PySem.W.fnOf x x (defArgs st) (defBody st) (defScope st) .none (.ref kd) dc pm an cd ct), sl⟩) (hc : PySem.W.codeIn K cd x = true) (hk : PySem.W.keepIn K (.ref f) = true) (hn : PySem.W.nsIn K kd nm = some (some .none)) (hm : mg x = some (.ref f)) (len : n + 1 = ps.length)
    (b0 : ∀ (D : Addr) (doc pm : Value) (an : Option Addr) (cdv ct : Value) (us ks : List Value), us.length = n → ks.length = 1 → KwChain D ([nm].zip ks) (bindArgs (PySem.W.fnOf x x (defArgs st) (defBody st) (defScope st) .none (.ref D) doc pm an cdv ct) ⟨us, []⟩) (ps.zip (us ++ ks)))
    (b1 : ∀ (D : Addr) (doc pm : Value) (an : Option Addr) (cdv ct : Value) (us : List Value) (u : Value), us.length = n → bindArgs (PySem.W.fnOf x x (defArgs st) (defBody st) (defScope st) .none (.ref D) doc pm an cdv ct) ⟨us, [(nm, u)]⟩ = pure (ps.zip (us ++ [u])))
    (h : FnX P w K κ mg base l f (PySem.W.fnOf x x (defArgs st) (defBody st) (defScope st) .none (.ref kd) dc pm an cd ct) ps F) : DefO P w K κ mg base x l ps n nm F := by
  have FD : FunD K x x (defArgs st) (defBody st) (defScope st) [] [(nm, V.non)] f (PySem.W.fnOf x x (defArgs st) (defBody st) (defScope st) .none (.ref kd) dc pm an cd ct) :=
    ⟨⟨oc, od, .none, .ref kd, dc, pm, an, cd, ct, sl, rfl, hl, hc, .inl ⟨rfl, rfl⟩, .inr ⟨kd, rfl, fun q hq => by
      rw [List.mem_singleton.mp hq]
      exact ⟨.none, hn, rfl⟩⟩⟩, hk⟩
  refine ⟨f, _, h, hm, hk, FD.binds0 n (by simp) (by simpa using len) (fun D doc pm an cdv ct us ks h1 h2 => b0 D doc pm an cdv ct us ks h1 h2), fun s us u _ hu => .of_eq (b1 kd dc pm an cd ct us u hu)⟩
end
end Pv

set_option maxRecDepth 100000
set_option maxHeartbeats 4000000
namespace Pv
open PySem PySem.Spec PyProof.Rows L2
def SOk (t : Str) : Prop := ∀ c ∈ t.cps.toList, c < 1114112
theorem SOk.ok {t : Str} (h : SOk t) : PyData.strOk t = true := by
  show t.cps.all (fun c => decide (c < 1114112)) = true
  rw [Array.all_eq_true']
  intro c hc
  exact decide_eq_true (h c (Array.mem_toList_iff.mpr hc))
theorem SOk.of {t : Str} (h : PyData.strOk t = true) : SOk t := by
  intro c hc
  have h' : t.cps.all (fun c => decide (c < 1114112)) = true := h
  rw [Array.all_eq_true'] at h'
  exact of_decide_eq_true (h' c (Array.mem_toList_iff.mp hc))
theorem SOk.append {a b : Str} (ha : SOk a) (hb : SOk b) : SOk (a ++ b) := by
  intro c hc
  have e : (a ++ b).cps.toList = a.cps.toList ++ b.cps.toList := by
    show (a.cps ++ b.cps).toList = _
    rw [Array.toList_append]
  rw [e] at hc
  rcases List.mem_append.mp hc with h | h
  · exact ha c h
  · exact hb c h
theorem SOk.lit (s : String) : SOk (Str.ofString s) := by
  intro c hc
  rw [signs_ofString] at hc
  obtain ⟨ch, _, rfl⟩ := List.mem_map.mp hc
  have := ch.valid
  show ch.val.toNat < 1114112
  rcases this with h | h
  · exact Nat.lt_trans h (by decide)
  · exact h.2
theorem SOk.from : ∀ (ts : List Str) (k : Nat) (acc : Str), SOk acc → (∀ t ∈ ts, SOk t) → SOk (textFrom k acc ts)
  | [], _, _, h, _ => h
  | t :: ts, k, acc, h, hs => by
    show SOk (textFrom (k + 1) (acc ++ (if k > 0 then ", " else "" : String) ++ t) ts)
    exact SOk.from ts _ _ ((h.append (by split <;> exact SOk.lit _)).append (hs t (by simp))) fun t z => hs t (by simp [z])
theorem SOk.join : ∀ (ts : List Str), (∀ t ∈ ts, SOk t) → SOk (Str.join ", " ts)
  | [], _ => fun c hc => nomatch hc
  | [x], h => h x (by simp)
  | x :: y :: r, h => by
    show SOk (x ++ ", " ++ Str.join ", " (y :: r))
    exact ((h x (by simp)).append (SOk.lit _)).append (SOk.join (y :: r) fun t z => h t (by simp [z]))
theorem SOk.listText {ts : List Str} (h : ∀ t ∈ ts, SOk t) : SOk (listText ts) := (SOk.from ts 0 _ (SOk.lit _) h).append (SOk.lit _)
theorem SOk.tupleText {ts : List Str} (h : ∀ t ∈ ts, SOk t) : SOk (tupleText ts) := ((SOk.lit _).append (SOk.join ts h)).append (by split <;> exact SOk.lit _)
/-! data of a few levels, each of a few things, small numbers -/
mutual
def okD : Nat → D → Bool
  | _, .exc _ => false
  | _, .excF _ _ => false
  | _, .tupW _ => false
  | _, .non => true
  | _, .bl _ => true
  | _, .int i => decide (i.natAbs < 10 ^ 12)
  | _, .str s => PyData.strOk s && (PyData.strOk (reprText s) && (decide ((reprText s).length ≤ 20) && decide (s.length ≤ 1000)))
  | 0, .tup _ => false
  | 0, .lst _ => false
  | n + 1, .tup xs => decide (xs.length ≤ 25) && okDs n xs
  | n + 1, .lst xs => decide (xs.length ≤ 25) && okDs n xs
def okDs : Nat → List D → Bool
  | _, [] => true
  | n, x :: xs => okD n x && okDs n xs
end
def lim : Nat → Nat
  | 0 => 20
  | n + 1 => 25 * (lim n + 2) + 3
theorem lim_ge : ∀ n, 20 ≤ lim n
  | 0 => Nat.le_refl _
  | n + 1 => by have := lim_ge n; unfold lim; omega
mutual
theorem okD_text : ∀ (n : Nat) (x : D), okD n x = true → D.flat n x = true ∧ (D.py x).showable = true ∧ SOk (D.py x).shown ∧ (D.py x).shown.length ≤ lim n
  | n, .non, _ => by
    refine ⟨by cases n <;> rfl, by rw [D.py]; rfl, ?_, ?_⟩
    · rw [D.py]; exact SOk.lit "None"
    · rw [D.py]; exact Nat.le_trans (by decide) (lim_ge n)
  | n, .bl b, _ => by
    refine ⟨by cases n <;> rfl, by rw [D.py]; rfl, ?_, ?_⟩
    · rw [D.py]; cases b <;> exact SOk.lit _
    · rw [D.py]; cases b <;> exact Nat.le_trans (by decide) (lim_ge n)
  | n, .int i, h => by
    have h : i.natAbs < 10 ^ 12 := by cases n <;> exact of_decide_eq_true h
    refine ⟨by cases n <;> rfl, ?_, ?_, ?_⟩
    · rw [D.py]
      show decide (i.natAbs.log2 < 1920) = true
      refine decide_eq_true ?_
      by_cases z : i.natAbs = 0
      · rw [z]; decide
      · exact (Nat.log2_lt z).mpr (Nat.lt_trans h (by decide))
    · rw [D.py]; exact SOk.lit _
    · rw [D.py]; exact Nat.le_trans (PyData.shown_int_le h) (Nat.le_trans (by decide) (lim_ge n))
  | n, .str s, h => by
    have h : (PyData.strOk s && (PyData.strOk (reprText s) && (decide ((reprText s).length ≤ 20) && decide (s.length ≤ 1000)))) = true := by cases n <;> exact h
    simp only [Bool.and_eq_true, decide_eq_true_eq] at h
    have h1 := h.1
    refine ⟨by cases n <;> exact h1, by rw [D.py]; rfl, ?_, ?_⟩
    · rw [D.py]; exact SOk.of h.2.1
    · rw [D.py]; exact Nat.le_trans h.2.2.1 (lim_ge n)
  | 0, .tup _, h => by simp [okD] at h
  | 0, .lst _, h => by simp [okD] at h
  | n + 1, .tup xs, h => by
    have h : (decide (xs.length ≤ 25) && okDs n xs) = true := by simpa [okD] using h
    simp only [Bool.and_eq_true, decide_eq_true_eq] at h
    obtain ⟨a, b, c, d⟩ := okDs_text n xs h.2
    have l := PyData.shownAll_length (D.pys xs)
    have lp := pys_len xs
    refine ⟨by simpa [D.flat] using a, by rw [D.py]; exact b, ?_, ?_⟩
    · rw [D.py]; exact SOk.tupleText c
    · rw [D.py]
      refine Nat.le_trans (tupleText_len_le (PyData.shownAll (D.pys xs))) ?_
      have : (lim n + 2) * xs.length ≤ (lim n + 2) * 25 := Nat.mul_le_mul_left _ h.1
      rw [Nat.add_mul] at this
      show _ ≤ 25 * (lim n + 2) + 3
      omega
  | n + 1, .lst xs, h => by
    have h : (decide (xs.length ≤ 25) && okDs n xs) = true := by simpa [okD] using h
    simp only [Bool.and_eq_true, decide_eq_true_eq] at h
    obtain ⟨a, b, c, d⟩ := okDs_text n xs h.2
    have l := PyData.shownAll_length (D.pys xs)
    have lp := pys_len xs
    refine ⟨by simpa [D.flat] using a, by rw [D.py]; exact b, ?_, ?_⟩
    · rw [D.py]; exact SOk.listText c
    · rw [D.py]
      refine Nat.le_trans (listText_len_le (PyData.shownAll (D.pys xs))) ?_
      have : (lim n + 2) * xs.length ≤ (lim n + 2) * 25 := Nat.mul_le_mul_left _ h.1
      rw [Nat.add_mul] at this
      show _ ≤ 25 * (lim n + 2) + 3
      omega
  | n, .exc _, h => by cases n <;> simp [okD] at h
  | n, .excF _ _, h => by cases n <;> simp [okD] at h
  | n, .tupW _, h => by cases n <;> simp [okD] at h
theorem okDs_text : ∀ (n : Nat) (xs : List D), okDs n xs = true → D.flats n xs = true ∧ PyData.showableAll (D.pys xs) = true ∧ (∀ t ∈ PyData.shownAll (D.pys xs), SOk t) ∧ ((PyData.shownAll (D.pys xs)).map (·.length)).sum ≤ lim n * xs.length
  | n, [], _ => by
    have e : PyData.shownAll (D.pys []) = [] := by rw [D.pys]; rfl
    refine ⟨by simp [D.flats], by rw [D.pys]; rfl, ?_, ?_⟩
    · rw [e]; exact fun _ z => nomatch z
    · rw [e]; exact Nat.zero_le _
  | n, x :: xs, h => by
    have h : (okD n x && okDs n xs) = true := by simpa [okDs] using h
    simp only [Bool.and_eq_true] at h
    obtain ⟨a, b, c, d⟩ := okD_text n x h.1
    obtain ⟨a', b', c', d'⟩ := okDs_text n xs h.2
    refine ⟨by simp [D.flats, a, a'], ?_, ?_, ?_⟩
    · rw [D.pys]; show (_ && _) = true; rw [b, b'] <;> rfl
    · rw [D.pys]
      intro t ht
      rcases List.mem_cons.mp ht with rfl | ht
      · exact c
      · exact c' t ht
    · rw [D.pys]
      show _ + _ ≤ _
      rw [List.length_cons, Nat.mul_add, Nat.mul_one]
      exact Nat.le_trans (Nat.add_le_add d d') (by omega)
theorem pys_len : ∀ xs : List D, (D.pys xs).length = xs.length
  | [] => by rw [D.pys]; rfl
  | x :: xs => by rw [D.pys, List.length_cons, List.length_cons, pys_len xs]
end
end Pv

set_option maxRecDepth 100000
set_option maxHeartbeats 4000000
namespace Pv
open PySem PySem.Spec PyProof.Rows L2
/-! ### a def of one place and one parameter that has to be named -/
section
variable {X : Cx} {k l n : Nat} {f : Addr} {fd : FuncData} {ps : List Str} {sp : Sp} {W : WX} {x nm : Str} {p pos kpos : Pos} {e e1 e2 e3 : Expr} {es : List Expr} {t : TA} {t1 t2 t3 : TE} {κ : Cls} {F : Fn}
/-- with it, behind one other -/
theorem pe_defO1 (D : DefO X.prog X.w X.K κ X.mg X.base x l ps 1 nm F) (hr : Room k X.A) (hl : l ≤ k) (hq : X.A.guards = some []) (tk : Takes X W) (h1 : PE X e1 t1) (h3 : PE X e3 t3) (hg : Gl X x := by rfl) (hdb : (x == ("__debug__" : Str)) = false := by decide)
    (s1 : starEach [e1] X.env = [(false, eval e1 X.env)] := by rfl)
    (hall : (backToKw pos (keywordEach [⟨some nm, e3, kpos⟩] X.env)).all (·.1.isSome) = true := by rfl) (hks : (backToKw pos (keywordEach [⟨some nm, e3, kpos⟩] X.env)).filterMap (·.1) = [nm] := by rfl)
    (hpl : ((backTo pos (starEach [e1] X.env)).any (·.1) || (backToKw pos (keywordEach [⟨some nm, e3, kpos⟩] X.env)).any (·.1.isNone)) = false := by rfl) :
    PE X (.Call (.Name x p) [e1] [⟨some nm, e3, kpos⟩] pos) (tCallS (spF X.K κ ps.length F) (WE W) (tCons t1 (tCons t3 tNil))) := by
  obtain ⟨a, fd, C, hm, hk, _, hb⟩ := D.ex
  refine ⟨fun pins s σ H Q I h => ?_⟩
  refine wpAny_Call_Name_kw (ld_glob I hg hm ?_ hdb)
  refine PySem.W.callWith_KW (h₀ := X.base) I.ok.mod.kin hk hall ?_ hpl s1
  rw [s1]
  show wpAny _ _ (spliced ((false, eval e1 X.env) :: [])) _ _ s
  refine Calls.spliced_cons (thn (h1.run pins s σ H _ I h) fun u1 z1 ⟨x1, H1, I1, r1, q1⟩ => ?_)
  refine Calls.spliced_nil ?_
  show wpAny _ _ (evalAll [do let v ← eval e3 X.env; standAt pos; pure v]) _ _ z1
  refine wpAny_evalAll_cons (wpAny_bind (thn (h3.run pins z1 σ H1 _ I1 q1) fun u3 z3 ⟨x3, H3, I3, r3, q3⟩ => wpAny_bind (wpAny_standAt (wpAny_pure ?_))))
  refine wpAny_evalAll_nil ⟨I3.kIn, ?_⟩
  rw [hks]
  exact end_g (args := ⟨[u1], [(nm, u3)]⟩) C (hr.mono hl) hq (hb z3 [u1] u3 I3.kIn rfl) tk I3 (.cons r1 (.cons r3 .nil)) q3
variable {P : Program} {w : World} {K : PySem.W.Frag} {mg : Str → Option Value} {base : Heap}
theorem pe_defO1K (D : DefO P w K κ mg base x l ps 1 nm F) (hX : X.prog = P ∧ X.w = w ∧ X.K = K ∧ X.mg = mg ∧ X.base = base) (hr : Room k X.A) (hl : l ≤ k) (hq : X.A.guards = some []) (tk : Takes X W) (h1 : PE X e1 t1) (h3 : PE X e3 t3) (hg : Gl X x := by rfl) (hdb : (x == ("__debug__" : Str)) = false := by decide)
    (s1 : starEach [e1] X.env = [(false, eval e1 X.env)] := by rfl)
    (hall : (backToKw pos (keywordEach [⟨some nm, e3, kpos⟩] X.env)).all (·.1.isSome) = true := by rfl) (hks : (backToKw pos (keywordEach [⟨some nm, e3, kpos⟩] X.env)).filterMap (·.1) = [nm] := by rfl)
    (hpl : ((backTo pos (starEach [e1] X.env)).any (·.1) || (backToKw pos (keywordEach [⟨some nm, e3, kpos⟩] X.env)).any (·.1.isNone)) = false := by rfl) :
    PE X (.Call (.Name x p) [e1] [⟨some nm, e3, kpos⟩] pos) (tCallS (spF K κ ps.length F) (WE W) (tCons t1 (tCons t3 tNil))) := by
  obtain ⟨rfl, rfl, rfl, rfl, rfl⟩ := hX
  exact pe_defO1 D hr hl hq tk h1 h3 hg hdb s1 hall hks hpl
end
end Pv

set_option maxRecDepth 100000
set_option maxHeartbeats 1000000
namespace Pv
open PySem PySem.Spec PyProof.Rows L2
/-! ### list + list, both data -/
def rCatL (K : PySem.W.Frag) : R2 := fun x y H Q => ∃ l b xs zs, x = .ref l ∧ y = .ref b ∧ SqL K H l xs ∧ SqL K H b zs ∧ xs.length + zs.length ≤ sizeLine ∧ ∀ p, H p = none → Q (.ref p) (upd H p (.lst (xs ++ zs)))
theorem op_catL {X : Cx} : OpR X (binaryOp .Add) (rCatL X.K) := by
  intro pins s σ H x y v u Q I rx ry h
  obtain ⟨l, b, xs, zs, rfl, rfl, hH, hB, hz, q⟩ := h
  cases rx
  cases ry
  obtain ⟨its, r, ⟨o1, n1, e1, c1, d1, s1⟩, _⟩ := I.list hH
  obtain ⟨its2, r2, ⟨o2, n2, e2, c2, d2, s2⟩, _⟩ := I.list hB
  have l1 := r.length
  have l2 := r2.length
  obtain ⟨oc, od, ot, os⟩ := o1
  obtain ⟨oc2, od2, ot2, os2⟩ := o2
  dsimp only at c1 d1 s1 c2 d2 s2
  subst c1 d1 s1 c2 d2 s2
  have both : its.toArray ++ its2.toArray = (its ++ its2).toArray := by simp
  refine concat_meets ⟨_, e1, rfl⟩ ⟨_, e2, rfl⟩ noFill_list_add seq_list_add F.slot_list_add F.entry_list_add (F.args_list_add_2 _ _)
    (list_addW l b its.toArray its2.toArray n1 n2 none none os os2 (by rw [List.size_toArray, List.size_toArray]; omega)) ⟨e1, e2, ?_⟩
  rw [both]
  exact ⟨.ref _, _, I.lnew (t' := s.toks) (r.append r2) (by rw [List.length_append]; omega), rfl, q _ I.fresh⟩
section
variable {K : PySem.W.Frag} {κ : Cls}
theorem opCatL : OpS K κ (rCatL K) gCatL := fun G H vx vy x y z Q hG rx ry e k => by
  cases rx with
  | @lst a1 us1 xs hs ra =>
    cases ry with
    | @lst a2 us2 ys ht rb =>
      have e : (if xs.length + ys.length ≤ 1000000 then some (D.lst (xs ++ ys)) else none) = some z := e
      by_cases hz : xs.length + ys.length ≤ 1000000
      · rw [if_pos hz] at e
        cases e
        have la := ra.length
        have lb := rb.length
        exact ⟨_, _, _, _, rfl, rfl, ex_l hG hs, ex_l hG ht, Nat.le_trans (by omega : _ ≤ 1000000) (by decide), fun p hp => k _ _ _ (.new hG hp) (.lst (SqL.of upd_same) ((ra.append rb).mono (Evl.Ex.new (fresh hG hp))))⟩
      · rw [if_neg hz] at e
        cases e
    | _ => cases e
  | _ => cases ry <;> cases e
/-- list + list, as data -/
def eCatL := eOp (K := K) (κ := κ) _ _ opCatL
/-- a list's slice, as data -/
def eSlL (a : SE K κ) (lo hi : SO K κ) : SE K κ where
  te := fun Wx => tSl (rSlL K) (a.te Wx) (lo.to Wx) (hi.to Wx)
  ev := fun ρ => (a.ev ρ).bindD fun x ρ => (lo.ev ρ).bind fun i ρ => (hi.ev ρ).bind fun j ρ => match x with
    | .lst xs => .ok (.d (.lst (cutD xs i j))) ρ
    | _ => .bad
  ok := fun Wx G H ρ σ L Q hG hE hN p => a.ok.then hG hE hN p fun x vx ρ1 G1 H1 L1 u1 e1 n1 r1 p => lo.then u1.gh e1 n1 p fun i ρ2 G2 H2 L2 u2 e2 n2 p => hi.then u2.gh e2 n2 p fun j ρ3 G3 H3 L3 u3 e3 n3 p => by
    have r3 := r1.mono (u2.g.trans u3.g)
    cases r3 with
    | @lst b us xs hs ra => exact ⟨b, us, rfl, ex_l u3.gh hs, fun q hq => p.ret (.new u3.gh hq) (e3.new u3.gh hq) n3 (.lst (SqL.of upd_same) ((cut_ok ra i j).mono (Evl.Ex.new (fresh u3.gh hq))))⟩
    | _ => exact p.elim
/-! ### zip of two lists of one length -/
theorem yl_zl {G : Hp} {a b : Addr} {us ws : List V} {xs ys : List D} {n : Nat} (ha : SqL K G a us) (hb : SqL K G b ws) (rx : RpAll K κ G us xs) (ry : RpAll K κ G ws ys) (l1 : us.length = n) (l2 : ws.length = n) : Yl K κ (Itz K a b) G ((xs.zip ys).map pairD) := fun G' H' i g gh => by
  have e1 := rx.length
  have e2 := ry.length
  have sa : SqL K H' a us := ex_l (g.trans gh) ha
  have sb : SqL K H' b ws := ex_l (g.trans gh) hb
  refine ⟨fun x e => ?_, fun le => ⟨us, ws, sa, sb, ?_⟩⟩
  · have lt : i < ((xs.zip ys).map pairD).length := (List.getElem?_eq_some_iff.mp e).1
    rw [List.length_map, List.length_zip] at lt
    obtain ⟨u, hu⟩ : ∃ u, us[i]? = some u := ⟨_, List.getElem?_eq_getElem (by omega)⟩
    obtain ⟨w, hw⟩ : ∃ w, ws[i]? = some w := ⟨_, List.getElem?_eq_getElem (by omega)⟩
    obtain ⟨x1, hx1, _⟩ := rx.get' hu
    obtain ⟨y1, hy1, _⟩ := ry.get' hw
    have ex : x = .tupW [x1, y1] := by
      have ez : (xs.zip ys)[i]? = some (x1, y1) := List.getElem?_zip_eq_some.mpr ⟨hx1, hy1⟩
      rw [List.getElem?_map, ez] at e
      exact (Option.some.inj e).symm
    subst ex
    refine ⟨⟨us, ws, u, w, sa, sb, hu, hw⟩, fun v H'' y => ?_⟩
    obtain ⟨T, x', y', rfl, hT, rfl, f1, f2⟩ := y
    have q1 := f1 us sa
    have q2 := f2 ws sb
    rw [hu] at q1
    rw [hw] at q2
    cases q1
    cases q2
    have gx : Ex G (upd G' T (.tup [u, w])) := g.trans (Evl.Ex.new (fresh gh hT))
    exact ⟨_, .new gh hT, .tupW (.inl (.inl upd_same)) (.cons ((rx.at hu hx1).mono gx) (.cons ((ry.at hw hy1).mono gx) .nil))⟩
  · rw [List.length_map, List.length_zip] at le
    omega
def iZipL (a b : SE K κ) : SI K κ where
  ti := fun Wx => RZ.iZipA K (tCons (a.te Wx) (tCons (b.te Wx) tNil))
  ev := fun ρ => (a.ev ρ).bindD fun x ρ => (b.ev ρ).bindD fun y ρ => match x, y with
    | .lst xs, .lst ys => if xs.length = ys.length then .ok ((xs.zip ys).map pairD) ρ else .bad
    | _, _ => .bad
  ok := fun Wx G H ρ σ L Q hG hE hN p => a.ok.then hG hE hN p fun x vx ρ1 G1 H1 L1 u1 e1 n1 r1 p => b.ok.then u1.gh e1 n1 p fun y vy ρ2 G2 H2 L2 u2 e2 n2 r2 p => by
    cases r1 with
    | lst hs ra =>
      cases r2 with
      | lst ht rb =>
        dsimp only at p
        split at p
        · rename_i hl
          have la := ra.length
          have lb := rb.length
          exact ⟨_, _, _, _, rfl, .inl ⟨ex_l (u2.g.trans u2.gh) hs, ex_l u2.gh ht, p _ G2 H2 [] L2 (.refl u2.gh) e2 ⟨rfl, yl_zl (ex_l u2.g hs) ht (ra.mono u2.g) rb rfl (by omega)⟩ n2⟩⟩
        · exact p.elim
      | _ => exact p.elim
    | _ => cases r2 <;> exact p.elim
/-- [..] * n, as data -/
def eRepL (a k : SE K κ) : SE K κ where
  te := fun Wx => tOp rRep (a.te Wx) (k.te Wx)
  ev := fun ρ => match a.ev ρ with
    | .ok (.ml xs) ρ => (k.ev ρ).bindD fun y ρ => match y with
      | .int n => if 0 ≤ n ∧ n ≤ 1000 ∧ xs.length ≤ 1000 then .ok (.d (.lst (List.replicate n.toNat xs).flatten)) ρ else .bad
      | _ => .bad
    | _ => .bad
  ok := fun Wx G H ρ σ L Q hG hE hN p => by
    refine a.ok Wx G H ρ σ L _ hG hE hN ?_
    dsimp only at p
    cases h : a.ev ρ with
    | exc c f ρ1 => rw [h] at p; exact p.elim
    | bad => rw [h] at p; exact p.elim
    | ok w ρ1 =>
      rw [h] at p
      cases w with
      | d x => exact p.elim
      | md x => exact p.elim
      | mm z => exact p.elim
      | ml xs =>
        dsimp only at p
        intro v G1 H1 Lw L1 u1 e1 r1 n1
        obtain ⟨c, vs, rfl, rfl, g1, h1, q1⟩ := r1
        have nda := List.nodup_append.mp n1
        have ncL : c ∉ L1 := fun z => nda.2.2 c (by simp) c z rfl
        have u1' : Stp G H L G1 H1 L1 := u1.sub fun b z => List.mem_append_right _ z
        refine k.ok.then (Wx := Wx) u1.gh e1 nda.2.1 (p.trans u1') fun y vy ρ2 G2 H2 L2 u2 e2 n2 r2 p => ?_
        have c2 : H2 c = some (.lst vs) := u2.h c _ h1 ncL
        have q2 := q1.mono u2.g
        cases r2 with
        | int n =>
          dsimp only at p
          split at p
          · rename_i hz
            obtain ⟨z1, z2, z3⟩ := hz
            have hl := q2.length
            refine ⟨c, n, vs, rfl, rfl, c2, by omega, by omega, ?_, fun q hq => ?_⟩
            · rw [hl]
              have : xs.length * n.toNat ≤ 1000 * 1000 := Nat.mul_le_mul z3 (by omega)
              exact Nat.le_trans this (by decide)
            · have rep : ∀ m : Nat, RpAll K κ G2 (List.replicate m vs).flatten (List.replicate m xs).flatten := by
                intro m
                induction m with
                | zero => exact .nil
                | succ m ih =>
                  rw [List.replicate_succ, List.replicate_succ, List.flatten_cons, List.flatten_cons]
                  exact q2.append ih
              exact p.ret (.new u2.gh hq) (e2.new u2.gh hq) n2 (.lst (SqL.of upd_same) ((rep _).mono (Evl.Ex.new (fresh u2.gh hq))))
          · exact p.elim
        | _ => exact p.elim
end
end Pv

set_option maxRecDepth 100000
set_option maxHeartbeats 2000000
namespace Pv
open PySem PySem.Spec PyProof.Rows L2
/-! ### max(xs, default=d), min(xs, default=d): ints -/
abbrev dfK (d : Value) : List (Str × Value) := [(Str.ofString "default", d)]
section
variable {prog : Program} {w : World} {A : Around} {R : Result → Shared → Prop} {I S : Addr} {fp wr : List Addr} {n : Nat} {P : Nat → Value → Prop} {St : Nat → Heap → Prop} {d : Value} {bt : Nat → Nat → Bool}
abbrev two (v : Value) (c : Nat) : Obj := { cls := .type "list", dict := none, data := .seq #[v, v] c, slots := #[] }
theorem mxd_loop (V : Walks prog w A.in1 I fp wr n P St) (cmp : CmpOf prog w A.in1 .Gt P bt) (nf : S ∉ fp) : ∀ (k j : Nat) (s : Shared) (vb : Value) (c : Nat), n - (j + 1) = k → j + 1 ≤ n → St (j + 1) s.heap → P (argBest bt j) vb → s.heap.get? S = some (two vb c) →
    (∀ v h' tk, P (argBest bt (n - 1)) v → (∀ b o, b ∉ wr → b ≠ S → s.heap.get? b = some o → h'.get? b = some o) → R (.ok (.ret v)) { s with heap := h', toks := tk }) → codeAny (model prog w) A (.builtin "max.loop" ⟨[.ref I, .none, .ref S], dfK d⟩) R s := by
  have nw : S ∉ wr := fun z => nf (V.sub _ z)
  have nm : (toString "max" ++ toString ".loop" : String) = "max.loop" := by decide
  intro k
  induction k with
  | zero =>
    intro j s vb c hk hj st pb hS hR
    have all : j + 1 = n := by omega
    refine codeAny_builtin PySem.F.entry_max_loop ?_
    rw [Around.under_plainId PySem.F.plain_max_loop _]
    show wpAny _ A.in1 (seqItems? (.ref S) >>= _) _ _ s
    refine wpAny_bind (wpAny_seqItems hS rfl ?_)
    show wpAny _ A.in1 (tryCatch (pyNext (.ref I)) _ >>= _) _ _ s
    refine wpAny_bind (wpAny_tryCatch (V.done s _ _ (all ▸ st) fun h1 tk k1 => ?_))
    have hS1 := k1 S _ nw hS
    show wpAny _ A.in1 (updateSeq S (fun _ => #[]) >>= _) _ _ _
    refine wpAny_bind ?_
    refine wpAny_updateSeq hS1 rfl (wpAny_bind (wpAny_letGo (wpAny_pure ?_)))
    exact hR vb _ tk (by rw [← all]; exact pb) fun b o b1 b2 e => (Heap.get?_update_other _ _ (Ne.symm b2)).trans (k1 b o b1 e)
  | succ k ih =>
    intro j s vb c hk hj st pb hS hR
    have lt : j + 1 < n := by omega
    refine codeAny_builtin PySem.F.entry_max_loop ?_
    rw [Around.under_plainId PySem.F.plain_max_loop _]
    show wpAny _ A.in1 (seqItems? (.ref S) >>= _) _ _ s
    refine wpAny_bind (wpAny_seqItems hS rfl ?_)
    show wpAny _ A.in1 (tryCatch (pyNext (.ref I)) _ >>= _) _ _ s
    refine wpAny_bind (wpAny_tryCatch (V.item (j + 1) s _ _ lt st fun v h1 tk pv st1 k1 => ?_))
    have hS1 := k1 S _ nw hS
    show wpAny _ A.in1 (tryCatch (holding [v, v] (richCompare .Gt v vb >>= _)) _ >>= _) _ _ _
    refine wpAny_bind (wpAny_tryCatch (wpAny_holding (wpAny_bind (cmp (j + 1) (argBest bt j) v vb _ _ _ pv pb ?_))))
    refine wpAny_bind (wpAny_holding (wpAny_truthy_bool ?_))
    refine wpAny_bind (wpAny_letGo (wpAny_pure ?_))
    cases hb : bt (j + 1) (argBest bt j) with
    | true =>
      simp only [if_true]
      refine wpAny_bind ?_
      refine wpAny_updateSeq hS1 rfl (wpAny_bind (wpAny_letGo ?_))
      rw [nm]
      have nx := ih (j + 1) { s with heap := h1.update S (Obj.mapSeq fun _ => #[v, v]), toks := tk } v _ (by omega) lt (V.frame _ _ _ st1 fun b hb o e => (Heap.get?_update_other _ _ (fun z : S = b => nf (by rw [z]; exact hb))).trans e) (by simp only [argBest, hb, if_true]; exact pv) (Heap.get?_update_self _ hS1 rfl) fun v2 h2 tk2 p2 k2 => hR v2 h2 tk2 p2 fun b o b1 b2 e => k2 b o b1 b2 ((Heap.get?_update_other _ _ (Ne.symm b2)).trans (k1 b o b1 e))
      exact wpAny_pure ⟨plainId_quiet PySem.F.plain_max_loop _, nx⟩
    | false =>
      simp only [Bool.false_eq_true, if_false]
      refine wpAny_bind (wpAny_letGo ?_)
      rw [nm]
      have nx := ih (j + 1) { s with heap := h1, toks := tk } vb c (by omega) lt st1 (by simp only [argBest, hb, Bool.false_eq_true, if_false]; exact pb) hS1 fun v2 h2 tk2 p2 k2 => hR v2 h2 tk2 p2 fun b o b1 b2 e => k2 b o b1 b2 (k1 b o b1 e)
      exact wpAny_pure ⟨plainId_quiet PySem.F.plain_max_loop _, nx⟩
abbrev nil0 (c : Nat) : Obj := { cls := .type "list", dict := none, data := .seq #[] c, slots := #[] }
theorem mxd_first (V : Walks prog w A.in1 I fp wr n P St) (cmp : CmpOf prog w A.in1 .Gt P bt) (nf : S ∉ fp) {s : Shared} {c : Nat} (st : St 0 s.heap) (hS : s.heap.get? S = some (nil0 c))
    (hN : n = 0 → ∀ h' tk, (∀ b o, b ∉ wr → b ≠ S → s.heap.get? b = some o → h'.get? b = some o) → R (.ok (.ret d)) { s with heap := h', toks := tk })
    (hR : 0 < n → ∀ v h' tk, P (argBest bt (n - 1)) v → (∀ b o, b ∉ wr → b ≠ S → s.heap.get? b = some o → h'.get? b = some o) → R (.ok (.ret v)) { s with heap := h', toks := tk }) : codeAny (model prog w) A (.builtin "max.loop" ⟨[.ref I, .none, .ref S], dfK d⟩) R s := by
  have nw : S ∉ wr := fun z => nf (V.sub _ z)
  have nm : (toString "max" ++ toString ".loop" : String) = "max.loop" := by decide
  refine codeAny_builtin PySem.F.entry_max_loop ?_
  rw [Around.under_plainId PySem.F.plain_max_loop _]
  show wpAny _ A.in1 (seqItems? (.ref S) >>= _) _ _ s
  refine wpAny_bind (wpAny_seqItems hS rfl ?_)
  show wpAny _ A.in1 (tryCatch (pyNext (.ref I)) _ >>= _) _ _ s
  rcases Nat.eq_zero_or_pos n with z | pos
  · subst z
    refine wpAny_bind (wpAny_tryCatch (V.done s _ _ st fun h1 tk k1 => ?_))
    refine wpAny_bind (wpAny_rule (wpAny_pure ?_))
    exact hN rfl h1 tk fun b o b1 b2 e => k1 b o b1 e
  · refine wpAny_bind (wpAny_tryCatch (V.item 0 s _ _ pos st fun v h1 tk pv st1 k1 => ?_))
    have hS1 := k1 S _ nw hS
    show wpAny _ A.in1 (updateSeq S (fun _ => #[v, v]) >>= _) _ _ _
    refine wpAny_bind ?_
    refine wpAny_updateSeq hS1 rfl ?_
    rw [nm]
    have nx := mxd_loop (d := d) (R := R) V cmp nf _ 0 { s with heap := h1.update S (Obj.mapSeq fun _ => #[v, v]), toks := tk } v _ rfl pos (V.frame _ _ _ st1 fun b hb o e => (Heap.get?_update_other _ _ (fun z : S = b => nf (by rw [z]; exact hb))).trans e) pv (Heap.get?_update_self _ hS1 rfl) fun v2 h2 tk2 p2 k2 => hR pos v2 h2 tk2 p2 fun b o b1 b2 e => k2 b o b1 b2 ((Heap.get?_update_other _ _ (Ne.symm b2)).trans (k1 b o b1 e))
    exact wpAny_pure ⟨plainId_quiet PySem.F.plain_max_loop _, nx⟩
theorem mnd_loop (V : Walks prog w A.in1 I fp wr n P St) (cmp : CmpOf prog w A.in1 .Lt P bt) (nf : S ∉ fp) : ∀ (k j : Nat) (s : Shared) (vb : Value) (c : Nat), n - (j + 1) = k → j + 1 ≤ n → St (j + 1) s.heap → P (argBest bt j) vb → s.heap.get? S = some (two vb c) →
    (∀ v h' tk, P (argBest bt (n - 1)) v → (∀ b o, b ∉ wr → b ≠ S → s.heap.get? b = some o → h'.get? b = some o) → R (.ok (.ret v)) { s with heap := h', toks := tk }) → codeAny (model prog w) A (.builtin "min.loop" ⟨[.ref I, .none, .ref S], dfK d⟩) R s := by
  have nw : S ∉ wr := fun z => nf (V.sub _ z)
  have nm : (toString "min" ++ toString ".loop" : String) = "min.loop" := by decide
  intro k
  induction k with
  | zero =>
    intro j s vb c hk hj st pb hS hR
    have all : j + 1 = n := by omega
    refine codeAny_builtin PySem.F.entry_min_loop ?_
    rw [Around.under_plainId PySem.F.plain_min_loop _]
    show wpAny _ A.in1 (seqItems? (.ref S) >>= _) _ _ s
    refine wpAny_bind (wpAny_seqItems hS rfl ?_)
    show wpAny _ A.in1 (tryCatch (pyNext (.ref I)) _ >>= _) _ _ s
    refine wpAny_bind (wpAny_tryCatch (V.done s _ _ (all ▸ st) fun h1 tk k1 => ?_))
    have hS1 := k1 S _ nw hS
    show wpAny _ A.in1 (updateSeq S (fun _ => #[]) >>= _) _ _ _
    refine wpAny_bind ?_
    refine wpAny_updateSeq hS1 rfl (wpAny_bind (wpAny_letGo (wpAny_pure ?_)))
    exact hR vb _ tk (by rw [← all]; exact pb) fun b o b1 b2 e => (Heap.get?_update_other _ _ (Ne.symm b2)).trans (k1 b o b1 e)
  | succ k ih =>
    intro j s vb c hk hj st pb hS hR
    have lt : j + 1 < n := by omega
    refine codeAny_builtin PySem.F.entry_min_loop ?_
    rw [Around.under_plainId PySem.F.plain_min_loop _]
    show wpAny _ A.in1 (seqItems? (.ref S) >>= _) _ _ s
    refine wpAny_bind (wpAny_seqItems hS rfl ?_)
    show wpAny _ A.in1 (tryCatch (pyNext (.ref I)) _ >>= _) _ _ s
    refine wpAny_bind (wpAny_tryCatch (V.item (j + 1) s _ _ lt st fun v h1 tk pv st1 k1 => ?_))
    have hS1 := k1 S _ nw hS
    show wpAny _ A.in1 (tryCatch (holding [v, v] (richCompare .Lt v vb >>= _)) _ >>= _) _ _ _
    refine wpAny_bind (wpAny_tryCatch (wpAny_holding (wpAny_bind (cmp (j + 1) (argBest bt j) v vb _ _ _ pv pb ?_))))
    refine wpAny_bind (wpAny_holding (wpAny_truthy_bool ?_))
    refine wpAny_bind (wpAny_letGo (wpAny_pure ?_))
    cases hb : bt (j + 1) (argBest bt j) with
    | true =>
      simp only [if_true]
      refine wpAny_bind ?_
      refine wpAny_updateSeq hS1 rfl (wpAny_bind (wpAny_letGo ?_))
      rw [nm]
      have nx := ih (j + 1) { s with heap := h1.update S (Obj.mapSeq fun _ => #[v, v]), toks := tk } v _ (by omega) lt (V.frame _ _ _ st1 fun b hb o e => (Heap.get?_update_other _ _ (fun z : S = b => nf (by rw [z]; exact hb))).trans e) (by simp only [argBest, hb, if_true]; exact pv) (Heap.get?_update_self _ hS1 rfl) fun v2 h2 tk2 p2 k2 => hR v2 h2 tk2 p2 fun b o b1 b2 e => k2 b o b1 b2 ((Heap.get?_update_other _ _ (Ne.symm b2)).trans (k1 b o b1 e))
      exact wpAny_pure ⟨plainId_quiet PySem.F.plain_min_loop _, nx⟩
    | false =>
      simp only [Bool.false_eq_true, if_false]
      refine wpAny_bind (wpAny_letGo ?_)
      rw [nm]
      have nx := ih (j + 1) { s with heap := h1, toks := tk } vb c (by omega) lt st1 (by simp only [argBest, hb, Bool.false_eq_true, if_false]; exact pb) hS1 fun v2 h2 tk2 p2 k2 => hR v2 h2 tk2 p2 fun b o b1 b2 e => k2 b o b1 b2 (k1 b o b1 e)
      exact wpAny_pure ⟨plainId_quiet PySem.F.plain_min_loop _, nx⟩
theorem mnd_first (V : Walks prog w A.in1 I fp wr n P St) (cmp : CmpOf prog w A.in1 .Lt P bt) (nf : S ∉ fp) {s : Shared} {c : Nat} (st : St 0 s.heap) (hS : s.heap.get? S = some (nil0 c))
    (hN : n = 0 → ∀ h' tk, (∀ b o, b ∉ wr → b ≠ S → s.heap.get? b = some o → h'.get? b = some o) → R (.ok (.ret d)) { s with heap := h', toks := tk })
    (hR : 0 < n → ∀ v h' tk, P (argBest bt (n - 1)) v → (∀ b o, b ∉ wr → b ≠ S → s.heap.get? b = some o → h'.get? b = some o) → R (.ok (.ret v)) { s with heap := h', toks := tk }) : codeAny (model prog w) A (.builtin "min.loop" ⟨[.ref I, .none, .ref S], dfK d⟩) R s := by
  have nw : S ∉ wr := fun z => nf (V.sub _ z)
  have nm : (toString "min" ++ toString ".loop" : String) = "min.loop" := by decide
  refine codeAny_builtin PySem.F.entry_min_loop ?_
  rw [Around.under_plainId PySem.F.plain_min_loop _]
  show wpAny _ A.in1 (seqItems? (.ref S) >>= _) _ _ s
  refine wpAny_bind (wpAny_seqItems hS rfl ?_)
  show wpAny _ A.in1 (tryCatch (pyNext (.ref I)) _ >>= _) _ _ s
  rcases Nat.eq_zero_or_pos n with z | pos
  · subst z
    refine wpAny_bind (wpAny_tryCatch (V.done s _ _ st fun h1 tk k1 => ?_))
    refine wpAny_bind (wpAny_rule (wpAny_pure ?_))
    exact hN rfl h1 tk fun b o b1 b2 e => k1 b o b1 e
  · refine wpAny_bind (wpAny_tryCatch (V.item 0 s _ _ pos st fun v h1 tk pv st1 k1 => ?_))
    have hS1 := k1 S _ nw hS
    show wpAny _ A.in1 (updateSeq S (fun _ => #[v, v]) >>= _) _ _ _
    refine wpAny_bind ?_
    refine wpAny_updateSeq hS1 rfl ?_
    rw [nm]
    have nx := mnd_loop (d := d) (R := R) V cmp nf _ 0 { s with heap := h1.update S (Obj.mapSeq fun _ => #[v, v]), toks := tk } v _ rfl pos (V.frame _ _ _ st1 fun b hb o e => (Heap.get?_update_other _ _ (fun z : S = b => nf (by rw [z]; exact hb))).trans e) pv (Heap.get?_update_self _ hS1 rfl) fun v2 h2 tk2 p2 k2 => hR pos v2 h2 tk2 p2 fun b o b1 b2 e => k2 b o b1 b2 ((Heap.get?_update_other _ _ (Ne.symm b2)).trans (k1 b o b1 e))
    exact wpAny_pure ⟨plainId_quiet PySem.F.plain_min_loop _, nx⟩
end
section
variable {prog : Program} {w : World} {A : Around} {E : Value → Shared → Prop} {s : Shared} {l : Addr} {xs : Array (Int × Tok)} {d : Value}
theorem mxd_args (a d : Value) : argsOk "max" ⟨[a], dfK d⟩ := by unfold argsOk; kernel_rfl
theorem mxd_call {Q : Value → Shared → Prop} (hh : A.handled = none) (hl : s.heap.IsList l (intItems xs))
    (hN : xs.size = 0 → ∀ h' tk, (∀ b o, s.heap.get? b = some o → h'.get? b = some o) → Q d { s with heap := h', toks := tk })
    (hR : 0 < xs.size → ∀ v h' tk, (intItems xs)[argBest (fun i j => decide (numAt xs i > numAt xs j)) (xs.size - 1)]? = some v → (∀ b o, s.heap.get? b = some o → h'.get? b = some o) → Q v { s with heap := h', toks := tk }) :
    wpAny (model prog w) A (call (.builtin "max") [.ref l] (dfK d)) Q E s := by
  have nm : (toString "max" ++ toString ".loop" : String) = "max.loop" := by decide
  refine kmk_tree PySem.F.kind_max PySem.F.plain_max PySem.F.entry_max (mxd_args _ _) ?_
  show wpAny _ A.in1 (Builtin.Builtins.bindParams "max" ["key", "default"] 0 ⟨[], dfK d⟩ >>= _) _ _ s
  refine wpAny_bind (wpAny_of_eq (show Builtin.Builtins.bindParams "max" ["key", "default"] 0 ⟨[], dfK d⟩ = pure [none, some d] from rfl) ?_)
  refine wpAny_bind (wpAny_pure ?_)
  refine wpAny_bind (iter_intList hl fun s2 e st hfp hlI => ?_)
  subst e
  refine wpAny_bind (wpAny_newObj_type ?_)
  rw [nm]
  have W := Walks.list (prog := prog) (w := w) (A := A.in1) hh s.heap.objs.size l hlI (intItems xs)
  have sz : (intItems xs).size = xs.size := by simp [intItems]
  have nf := fun (z : (s.heap.push { cls := .type "list_iterator", data := .fields #[.ref l, .int 0 0] }).objs.size ∈ [s.heap.objs.size, l]) => Nat.lt_irrefl _ (hfp _ z)
  have old : ∀ h' : Heap, (∀ b o, b ∉ [s.heap.objs.size] → b ≠ (s.heap.push { cls := .type "list_iterator", data := .fields #[.ref l, .int 0 0] }).objs.size → ((s.heap.push { cls := .type "list_iterator", data := .fields #[.ref l, .int 0 0] }).push (nil0 0)).get? b = some o → h'.get? b = some o) → ∀ b o, s.heap.get? b = some o → h'.get? b = some o := fun h' k b o e =>
    have e1 := Heap.get?_push_of_some (o := { cls := .type "list_iterator", data := .fields #[.ref l, .int 0 0] }) e
    k b o (fun z => by
      rw [List.mem_singleton] at z
      exact absurd (z ▸ Heap.lt_size e) (Nat.lt_irrefl _)) (Nat.ne_of_lt (Heap.lt_size e1)) (Heap.get?_push_of_some _ e1)
  refine wpAny_pure ⟨plainId_quiet PySem.F.plain_max_loop _, mxd_first (d := d) W (CmpOf.ints_gt (numAt xs) (fun _ _ => intItems_at)) nf (W.frame _ _ _ st fun b _ o e => Heap.get?_push_of_some _ e) (Heap.get?_push_size _ rfl) (fun z h' tk k => ?_) fun z v h' tk hP k => ?_⟩
  · exact hN (by omega) h' tk (old h' k)
  · exact hR (by omega) v h' tk (by rw [← sz]; exact hP) (old h' k)
theorem mnd_args (a d : Value) : argsOk "min" ⟨[a], dfK d⟩ := by unfold argsOk; kernel_rfl
theorem mnd_call {Q : Value → Shared → Prop} (hh : A.handled = none) (hl : s.heap.IsList l (intItems xs))
    (hN : xs.size = 0 → ∀ h' tk, (∀ b o, s.heap.get? b = some o → h'.get? b = some o) → Q d { s with heap := h', toks := tk })
    (hR : 0 < xs.size → ∀ v h' tk, (intItems xs)[argBest (fun i j => decide (numAt xs i < numAt xs j)) (xs.size - 1)]? = some v → (∀ b o, s.heap.get? b = some o → h'.get? b = some o) → Q v { s with heap := h', toks := tk }) :
    wpAny (model prog w) A (call (.builtin "min") [.ref l] (dfK d)) Q E s := by
  have nm : (toString "min" ++ toString ".loop" : String) = "min.loop" := by decide
  refine kmk_tree PySem.F.kind_min PySem.F.plain_min PySem.F.entry_min (mnd_args _ _) ?_
  show wpAny _ A.in1 (Builtin.Builtins.bindParams "min" ["key", "default"] 0 ⟨[], dfK d⟩ >>= _) _ _ s
  refine wpAny_bind (wpAny_of_eq (show Builtin.Builtins.bindParams "min" ["key", "default"] 0 ⟨[], dfK d⟩ = pure [none, some d] from rfl) ?_)
  refine wpAny_bind (wpAny_pure ?_)
  refine wpAny_bind (iter_intList hl fun s2 e st hfp hlI => ?_)
  subst e
  refine wpAny_bind (wpAny_newObj_type ?_)
  rw [nm]
  have W := Walks.list (prog := prog) (w := w) (A := A.in1) hh s.heap.objs.size l hlI (intItems xs)
  have sz : (intItems xs).size = xs.size := by simp [intItems]
  have nf := fun (z : (s.heap.push { cls := .type "list_iterator", data := .fields #[.ref l, .int 0 0] }).objs.size ∈ [s.heap.objs.size, l]) => Nat.lt_irrefl _ (hfp _ z)
  have old : ∀ h' : Heap, (∀ b o, b ∉ [s.heap.objs.size] → b ≠ (s.heap.push { cls := .type "list_iterator", data := .fields #[.ref l, .int 0 0] }).objs.size → ((s.heap.push { cls := .type "list_iterator", data := .fields #[.ref l, .int 0 0] }).push (nil0 0)).get? b = some o → h'.get? b = some o) → ∀ b o, s.heap.get? b = some o → h'.get? b = some o := fun h' k b o e =>
    have e1 := Heap.get?_push_of_some (o := { cls := .type "list_iterator", data := .fields #[.ref l, .int 0 0] }) e
    k b o (fun z => by
      rw [List.mem_singleton] at z
      exact absurd (z ▸ Heap.lt_size e) (Nat.lt_irrefl _)) (Nat.ne_of_lt (Heap.lt_size e1)) (Heap.get?_push_of_some _ e1)
  refine wpAny_pure ⟨plainId_quiet PySem.F.plain_min_loop _, mnd_first (d := d) W (CmpOf.ints_lt (numAt xs) (fun _ _ => intItems_at)) nf (W.frame _ _ _ st fun b _ o e => Heap.get?_push_of_some _ e) (Heap.get?_push_size _ rfl) (fun z h' tk k => ?_) fun z v h' tk hP k => ?_⟩
  · exact hN (by omega) h' tk (old h' k)
  · exact hR (by omega) v h' tk (by rw [← sz]; exact hP) (old h' k)
end
/-- the greatest, the least of some -/
def topI : Int → List Int → Int
  | m, [] => m
  | m, n :: ns => topI (if m < n then n else m) ns
def lowI : Int → List Int → Int
  | m, [] => m
  | m, n :: ns => lowI (if n < m then n else m) ns
theorem topI_spec : ∀ (ns : List Int) (m : Int), (topI m ns = m ∨ topI m ns ∈ ns) ∧ m ≤ topI m ns ∧ ∀ y ∈ ns, y ≤ topI m ns
  | [], m => ⟨.inl rfl, Int.le_refl m, fun y hy => nomatch hy⟩
  | n :: ns, m => by
    obtain ⟨h1, h2, h3⟩ := topI_spec ns (if m < n then n else m)
    have e : topI m (n :: ns) = topI (if m < n then n else m) ns := rfl
    rw [e]
    refine ⟨?_, ?_, fun y hy => ?_⟩
    · rcases h1 with h | h
      · rw [h]
        split
        · exact .inr (by simp)
        · exact .inl rfl
      · exact .inr (by simp [h])
    · have q : m ≤ (if m < n then n else m) := by split <;> omega
      omega
    · rcases List.mem_cons.mp hy with rfl | hy
      · have q : y ≤ (if m < y then y else m) := by split <;> omega
        omega
      · exact h3 y hy
theorem lowI_spec : ∀ (ns : List Int) (m : Int), (lowI m ns = m ∨ lowI m ns ∈ ns) ∧ lowI m ns ≤ m ∧ ∀ y ∈ ns, lowI m ns ≤ y
  | [], m => ⟨.inl rfl, Int.le_refl m, fun y hy => nomatch hy⟩
  | n :: ns, m => by
    obtain ⟨h1, h2, h3⟩ := lowI_spec ns (if n < m then n else m)
    have e : lowI m (n :: ns) = lowI (if n < m then n else m) ns := rfl
    rw [e]
    refine ⟨?_, ?_, fun y hy => ?_⟩
    · rcases h1 with h | h
      · rw [h]
        split
        · exact .inr (by simp)
        · exact .inl rfl
      · exact .inr (by simp [h])
    · have q : (if n < m then n else m) ≤ m := by split <;> omega
      omega
    · rcases List.mem_cons.mp hy with rfl | hy
      · have q : (if y < m then y else m) ≤ y := by split <;> omega
        omega
      · exact h3 y hy
def topD (ns : List Int) (d : D) : D := match ns with
  | [] => d
  | n :: ns => .int (topI n ns)
def lowD (ns : List Int) (d : D) : D := match ns with
  | [] => d
  | n :: ns => .int (lowI n ns)
def rTopK (K : PySem.W.Frag) (up : Bool) : List V → List V → Hp → VK → Prop := fun vs zs H Q => ∃ (a : Addr) (ns : List Int) (d : V), vs = [V.ref a] ∧ zs = [d] ∧ SqL K H a (ns.map V.int) ∧ (ns = [] → Q d H) ∧
  ∀ m, m ∈ ns → (∀ y, y ∈ ns → if up then y ≤ m else m ≤ y) → Q (.int m) H
theorem cr_topK {X : Cx} (hc : X.calm = true) : CallRK X (.builtin "max") [Str.ofString "default"] (rTopK X.K true) := by
  intro pins s σ H vs zs us ws Q I r rz h
  obtain ⟨a, ns, d, rfl, rfl, hs, q0, q⟩ := h
  obtain ⟨its, rv, hl, _⟩ := I.list hs
  obtain rfl := Vals.ref1 r
  obtain ⟨w1, rfl, e1⟩ := vals1 rz
  have hi := rv.ints
  obtain ⟨xs, e⟩ := hi.allInts.items
  have hn : PySem.numsOf (intItems xs).toList = ns := by rw [← e]; exact hi.numsOf
  rw [nums_intItems] at hn
  subst hn
  have hl := hl.isList
  rw [e] at hl
  refine mxd_call (I.ok.hd hc) hl (fun z h' tk hk => ?_) fun hsz v h' tk hv hk => ?_
  · exact ⟨d, H, I.kept hk, e1, q0 (by rw [List.map_eq_nil_iff]; exact List.eq_nil_of_length_eq_zero (by rw [Array.length_toList]; exact z))⟩
  · obtain ⟨t, rfl⟩ := intItems_at hv
    obtain ⟨h1, h2⟩ := argBest_gt (numAt xs) (xs.size - 1)
    refine ⟨.int _, H, I.kept hk, ⟨_, rfl⟩, q _ ?_ fun y hy => ?_⟩
    · rw [numAt_eq]; exact PySem.getD_mem (by rw [List.length_map, Array.length_toList]; omega)
    · obtain ⟨j, hj, rfl⟩ := mem_getD hy
      rw [List.length_map, Array.length_toList] at hj
      rw [← numAt_eq]; exact h2 j (by omega)
theorem cr_lowK {X : Cx} (hc : X.calm = true) : CallRK X (.builtin "min") [Str.ofString "default"] (rTopK X.K false) := by
  intro pins s σ H vs zs us ws Q I r rz h
  obtain ⟨a, ns, d, rfl, rfl, hs, q0, q⟩ := h
  obtain ⟨its, rv, hl, _⟩ := I.list hs
  obtain rfl := Vals.ref1 r
  obtain ⟨w1, rfl, e1⟩ := vals1 rz
  have hi := rv.ints
  obtain ⟨xs, e⟩ := hi.allInts.items
  have hn : PySem.numsOf (intItems xs).toList = ns := by rw [← e]; exact hi.numsOf
  rw [nums_intItems] at hn
  subst hn
  have hl := hl.isList
  rw [e] at hl
  refine mnd_call (I.ok.hd hc) hl (fun z h' tk hk => ?_) fun hsz v h' tk hv hk => ?_
  · exact ⟨d, H, I.kept hk, e1, q0 (by rw [List.map_eq_nil_iff]; exact List.eq_nil_of_length_eq_zero (by rw [Array.length_toList]; exact z))⟩
  · obtain ⟨t, rfl⟩ := intItems_at hv
    obtain ⟨h1, h2⟩ := argBest_lt (numAt xs) (xs.size - 1)
    refine ⟨.int _, H, I.kept hk, ⟨_, rfl⟩, q _ ?_ fun y hy => ?_⟩
    · rw [numAt_eq]; exact PySem.getD_mem (by rw [List.length_map, Array.length_toList]; omega)
    · obtain ⟨j, hj, rfl⟩ := mem_getD hy
      rw [List.length_map, Array.length_toList] at hj
      rw [← numAt_eq]; exact h2 j (by omega)
section
variable {K : PySem.W.Frag} {κ : Cls}
/-- the greatest (least) of a list of ints, y where it is empty -/
def eTopDf (a b : SE K κ) : SE K κ where
  te := fun Wx => tCKw (rTopK K true) (tCons (a.te Wx) tNil) (tCons (b.te Wx) tNil)
  ev := fun ρ => (a.ev ρ).bindD fun x ρ => (b.ev ρ).bindD fun y ρ => match x with
    | .lst xs => match numsOf xs with
      | some ns => .ok (.d (topD ns y)) ρ
      | none => .bad
    | _ => .bad
  ok := fun Wx G H ρ σ L Q hG hE hN p => a.ok.then hG hE hN p fun x vx ρ1 G1 H1 L1 u1 e1 n1 r1 p => b.ok.then u1.gh e1 n1 p fun y vy ρ2 G2 H2 L2 u2 e2 n2 r2 p => by
    have r1 := r1.mono u2.g
    cases r1 with
    | @lst a1 us xs hs ra =>
      dsimp only at p
      cases hn : numsOf xs with
      | none => rw [hn] at p; exact p.elim
      | some ns =>
        rw [hn] at p
        have ev := numsOf_ok ra hn
        subst ev
        refine ⟨a1, ns, vy, rfl, rfl, ex_l u2.gh hs, fun z => ?_, fun m hm hy => ?_⟩
        · subst z
          exact p.ret (.refl u2.gh) e2 n2 r2
        · cases ns with
          | nil => cases hm
          | cons n ns =>
            obtain ⟨s1, s2, s3⟩ := topI_spec ns n
            have e : m = topI n ns := by
              have a1 : topI n ns ≤ m := by
                rcases s1 with z | z
                · rw [z]; exact hy n (by simp)
                · exact hy _ (by simp [z])
              have a2 : m ≤ topI n ns := by
                rcases List.mem_cons.mp hm with rfl | z
                · exact s2
                · exact s3 m z
              omega
            subst e
            exact p.ret (.refl u2.gh) e2 n2 (.int _)
    | _ => exact p.elim
def eLowDf (a b : SE K κ) : SE K κ where
  te := fun Wx => tCKw (rTopK K false) (tCons (a.te Wx) tNil) (tCons (b.te Wx) tNil)
  ev := fun ρ => (a.ev ρ).bindD fun x ρ => (b.ev ρ).bindD fun y ρ => match x with
    | .lst xs => match numsOf xs with
      | some ns => .ok (.d (lowD ns y)) ρ
      | none => .bad
    | _ => .bad
  ok := fun Wx G H ρ σ L Q hG hE hN p => a.ok.then hG hE hN p fun x vx ρ1 G1 H1 L1 u1 e1 n1 r1 p => b.ok.then u1.gh e1 n1 p fun y vy ρ2 G2 H2 L2 u2 e2 n2 r2 p => by
    have r1 := r1.mono u2.g
    cases r1 with
    | @lst a1 us xs hs ra =>
      dsimp only at p
      cases hn : numsOf xs with
      | none => rw [hn] at p; exact p.elim
      | some ns =>
        rw [hn] at p
        have ev := numsOf_ok ra hn
        subst ev
        refine ⟨a1, ns, vy, rfl, rfl, ex_l u2.gh hs, fun z => ?_, fun m hm hy => ?_⟩
        · subst z
          exact p.ret (.refl u2.gh) e2 n2 r2
        · cases ns with
          | nil => cases hm
          | cons n ns =>
            obtain ⟨s1, s2, s3⟩ := lowI_spec ns n
            have e : m = lowI n ns := by
              have a1 : m ≤ lowI n ns := by
                rcases s1 with z | z
                · rw [z]; exact hy n (by simp)
                · exact hy _ (by simp [z])
              have a2 : lowI n ns ≤ m := by
                rcases List.mem_cons.mp hm with rfl | z
                · exact s2
                · exact s3 m z
              omega
            subst e
            exact p.ret (.refl u2.gh) e2 n2 (.int _)
    | _ => exact p.elim
end
end Pv

set_option maxRecDepth 100000
set_option maxHeartbeats 2000000
namespace Pv
open PySem PySem.Spec PyProof.Rows L2
/-! ### a look at what the slots own, without giving it away: the answer is flat -/
/-- owned lists as data, other owned things unknown -/
def peekW : Option W → Option W
  | some (.d x) => some (.d x)
  | some (.ml xs) => some (.d (.lst xs))
  | _ => none
def peekE (ρ : Env) : Env := ρ.map peekW
def D.f0 : D → Bool
  | .non => true
  | .bl _ => true
  | .int _ => true
  | .str _ => true
  | _ => false
section
variable {K : PySem.W.Frag} {κ : Cls}
theorem Rp.f0 {G G' : Hp} {v : V} {x : D} (r : Rp K κ G v x) (h : D.f0 x = true) : Rp K κ G' v x := by
  cases r with
  | non => exact .non
  | bl b => exact .bl b
  | int i => exact .int i
  | str s => exact .str s
  | _ => cases h
theorem EnvR.peek {G G' H : Hp} (e : Ex G G') : ∀ {ρ : Env} {σ : St} {L : List Addr}, EnvR K κ G H ρ σ L → (∀ a ∈ L, ∀ o, H a = some o → G' a = some o) → EnvR K κ G' H (peekE ρ) σ []
  | [], [], L, r, _ => rfl
  | none :: ρ, _ :: σ, L, r, k => EnvR.peek (ρ := ρ) (σ := σ) e r k
  | some w :: ρ, some v :: σ, L, ⟨L1, L2, e1, r, q⟩, k => by
    subst e1
    have t := EnvR.peek e q fun a z => k a (List.mem_append_right _ z)
    cases w with
    | d x =>
      obtain ⟨rfl, r⟩ := r
      exact ⟨[], [], rfl, ⟨rfl, r.mono e⟩, t⟩
    | ml xs =>
      obtain ⟨a, vs, rfl, rfl, g, h, ra⟩ := r
      exact ⟨[], [], rfl, ⟨rfl, .lst (SqL.of (k a (by simp) _ h)) (ra.mono e)⟩, t⟩
    | md kvs => exact t
    | mm zs => exact t
/-- all that is owned, known -/
def allG (G H : Hp) (L : List Addr) : Hp := fun a => if a ∈ L then H a else G a
theorem allG_ex {G H : Hp} {L : List Addr} (h : ∀ a ∈ L, H a ≠ none ∧ G a = none) : Ex G (allG G H L) := fun a o e => by
  unfold allG
  split
  · rename_i z
    rw [(h a z).2] at e
    cases e
  · exact e
theorem allG_le {G H : Hp} {L : List Addr} (h : Ex G H) : Ex (allG G H L) H := fun a o e => by
  unfold allG at e
  split at e
  · exact e
  · exact h _ _ e
theorem allG_in {G H : Hp} {L : List Addr} : ∀ a ∈ L, ∀ o, H a = some o → allG G H L a = some o := fun a z o e => by
  unfold allG
  rw [if_pos z]
  exact e
theorem peek_stp {G H Ĝ G' H' : Hp} {L L' : List Addr} (hG : Ex G H) (s : Stp Ĝ H [] G' H' L') : Stp G H L G H' L :=
  ⟨Evl.Ex.refl G, fun a o e _ => s.h a o e (by simp), s.t, fun _ _ _ q => q, fun a z => .inl z, fun a o e => s.h a o (hG _ _ e) (by simp)⟩
theorem peek_env {G H Ĝ G' H' : Hp} {L L' : List Addr} {ρ : Env} {σ : St} (hE : EnvR K κ G H ρ σ L) (s : Stp Ĝ H [] G' H' L') : EnvR K κ G H' ρ σ L :=
  hE.keep (Evl.Ex.refl G) (fun a z => (hE.there a z).2) fun a z o e => s.h a o e (by simp)
def ePk (e : SE K κ) : SE K κ where
  te := e.te
  ev := fun ρ => match e.ev (peekE ρ) with
    | .ok (.d x) _ => if D.f0 x = true then .ok (.d x) ρ else .bad
    | _ => .bad
  ok := fun Wx G H ρ σ L Q hG hE hN p => by
    refine e.ok Wx (allG G H L) H (peekE ρ) σ [] Q (allG_le hG) (hE.peek (allG_ex hE.there) allG_in) List.nodup_nil ?_
    dsimp only at p
    cases h : e.ev (peekE ρ) with
    | bad => rw [h] at p; exact p.elim
    | exc c f ρ1 => rw [h] at p; exact p.elim
    | ok w ρ1 =>
      rw [h] at p
      cases w with
      | d x =>
        dsimp only at p
        split at p
        · rename_i hx
          intro v G1 H1 Lw L1 s _ r _
          obtain ⟨rfl, r⟩ := r
          exact p v G H1 [] L (peek_stp hG s) (peek_env hE s) ⟨rfl, r.f0 hx⟩ hN
        · exact p.elim
      | _ => exact p.elim
def tPk (t : ST K κ) : ST K κ where
  tt := t.tt
  ev := fun ρ => match t.ev (peekE ρ) with
    | .ok b _ => .ok b ρ
    | _ => .bad
  ok := fun Wx G H ρ σ L Q hG hE hN p => by
    refine t.ok Wx (allG G H L) H (peekE ρ) σ [] Q (allG_le hG) (hE.peek (allG_ex hE.there) allG_in) List.nodup_nil ?_
    dsimp only at p
    cases h : t.ev (peekE ρ) with
    | bad => rw [h] at p; exact p.elim
    | exc c f ρ1 => rw [h] at p; exact p.elim
    | ok b ρ1 =>
      rw [h] at p
      intro v G1 H1 Lw L1 s _ r _
      obtain ⟨rfl, rfl⟩ := r
      exact p b G H1 [] L (peek_stp hG s) (peek_env hE s) ⟨rfl, rfl⟩ hN
/-! ### x[k] = e, x an owned list, k any place -/
def sSetX (i : Nat) (k e : SE K κ) : SS K κ where
  ts := fun Wx => tAsg (e.te Wx) (gSub (tVar i) (k.te Wx) rSetL)
  sv := fun ρ => (e.ev ρ).bindD fun x ρ => match ρ[i]? with
    | some (some (.ml _)) => (k.ev ρ).bindD fun y ρ => match y, ρ[i]? with
      | .int j, some (some (.ml xs)) => match L2.ixN xs.length j with
        | some n => .ok .nx (ρ.set i (some (.ml (xs.set n x))))
        | none => .bad
      | _, _ => .bad
    | _ => .bad
  asg := []
  ok := fun Wx G H ρ σ L E hG hE hN p => e.ok.thenS hG hE hN p fun x vx ρ1 G1 H1 L1 u1 e1 n1 r1 p => by
    split at p
    · rename_i ys h0
      obtain ⟨a, vs, h1, _⟩ := e1.list u1.gh n1 h0
      refine ⟨_, h1, k.ok.thenS u1.gh e1 n1 p fun y vy ρ2 G2 H2 L2 u2 e2 n2 r2 p => ?_⟩
      split at p
      · rename_i j xs h
        cases r2
        split at p
        · rename_i n hn
          obtain ⟨a', us, k1, k2, k3, k4, k5, k6, _⟩ := e2.list u2.gh n2 h
          rw [h1] at k1
          cases k1
          obtain ⟨st, en⟩ := k6 (us.set n vx) (xs.set n x) (k4.set (r1.mono u2.g) n)
          have hl := k4.length
          exact ⟨a, us, j, n, rfl, rfl, k3, by rw [hl]; exact hn, p σ G2 _ L2 st en n2 (.refl _ _)⟩
        · exact p.elim
      · exact p.elim
    · exact p.elim
/-! ### sorted(xs), fewer than 64 whole numbers -/
def eSortL (a : SE K κ) : SE K κ where
  te := fun Wx => tCB (rSorted K) (tCons (a.te Wx) tNil)
  ev := fun ρ => (a.ev ρ).bindD fun x ρ => match x with
    | .lst xs => match numsOf xs with
      | some is => if is.length < 64 then .ok (.d (.lst ((sortI is).map .int))) ρ else .bad
      | none => .bad
    | _ => .bad
  ok := fun Wx G H ρ σ L Q hG hE hN p => a.ok.then hG hE hN p fun x vx ρ1 G1 H1 L1 u1 e1 n1 r1 p => by
    cases r1 with
    | @lst a1 us xs hs ra =>
      dsimp only at p
      cases hn : numsOf xs with
      | none => rw [hn] at p; exact p.elim
      | some is =>
        rw [hn] at p
        dsimp only at p
        split at p
        · rename_i hz
          have ev := numsOf_ok ra hn
          subst ev
          refine ⟨a1, is, rfl, ex_l u1.gh hs, hz, fun ys b py sy hb => ?_⟩
          have e := sorted_one (py.trans (sortI_perm is).symm) sy (sortI_sorted is)
          subst e
          exact p.ret (.new u1.gh hb) (e1.new u1.gh hb) n1 (.lst (SqL.of upd_same) (ints_ok _))
        · exact p.elim
    | _ => exact p.elim
/-! ### x in xs, x not in xs: flat things -/
def D.fv : D → Option V
  | .non => some .non
  | .bl b => some (.bl b)
  | .int i => some (.int i)
  | .str s => some (.str s)
  | _ => none
def D.fvs : List D → Option (List V)
  | [] => some []
  | x :: xs => match D.fv x, D.fvs xs with
    | some v, some vs => some (v :: vs)
    | _, _ => none
theorem fv_ok {G : Hp} {v u : V} {x : D} (r : Rp K κ G v x) (h : D.fv x = some u) : v = u ∧ flatV v = true := by
  cases r <;> first | (cases h; exact ⟨rfl, rfl⟩) | cases h
theorem fvs_ok {G : Hp} : ∀ {vs us : List V} {xs : List D}, RpAll K κ G vs xs → D.fvs xs = some us → vs = us ∧ vs.all flatV = true
  | _, _, _, .nil, e => by cases e; exact ⟨rfl, rfl⟩
  | _, _, _, .cons (x := x) (xs := xs) h t, e => by
    simp only [D.fvs] at e
    split at e
    · rename_i v vs h1 h2
      cases e
      obtain ⟨rfl, f1⟩ := fv_ok h h1
      obtain ⟨rfl, f2⟩ := fvs_ok t h2
      exact ⟨rfl, by rw [List.all_cons, f1, f2]; rfl⟩
    · cases e
def inD (x : D) (xs : List D) : Option Bool := match D.fv x, D.fvs xs with
  | some v, some vs => some (inV v vs)
  | _, _ => none
def gInS (neg : Bool) : D → D → Option D
  | x, .lst xs => (inD x xs).map fun b => .bl (if neg then !b else b)
  | x, .tup xs => (inD x xs).map fun b => .bl (if neg then !b else b)
  | _, _ => none
theorem opInS (neg : Bool) : OpS K κ (rIn K neg) (gInS neg) := fun G H vx vy x y z Q hG rx ry e k => by
  have key : ∀ {us : List V} {xs : List D}, RpAll K κ G us xs → (inD x xs).map (fun b => D.bl (if neg then !b else b)) = some z → flatV vx = true ∧ us.all flatV = true ∧ z = .bl (if neg then !inV vx us else inV vx us) := fun {us xs} ra e => by
    unfold inD at e
    cases h1 : D.fv x with
    | none => rw [h1] at e; cases e
    | some v =>
      cases h2 : D.fvs xs with
      | none => rw [h1, h2] at e; cases e
      | some vs =>
        rw [h1, h2] at e
        obtain ⟨rfl, f1⟩ := fv_ok rx h1
        obtain ⟨rfl, f2⟩ := fvs_ok ra h2
        cases e
        exact ⟨f1, f2, rfl⟩
  cases ry with
  | @lst a us xs hs ra =>
    obtain ⟨f1, f2, rfl⟩ := key ra e
    exact ⟨a, us, rfl, .inl (ex_l hG hs), f1, f2, k _ G H (.refl0 hG) (.bl _)⟩
  | @tup a us xs hs ra =>
    obtain ⟨f1, f2, rfl⟩ := key ra e
    exact ⟨a, us, rfl, .inr (ex_t hG hs.sq), f1, f2, k _ G H (.refl0 hG) (.bl _)⟩
  | _ => cases x <;> cases e
def eInS := eOp (K := K) (κ := κ) _ _ (opInS false)
def eNotInS := eOp (K := K) (κ := κ) _ _ (opInS true)
theorem fvs_ints : ∀ is : List Int, D.fvs (is.map .int) = some (is.map V.int)
  | [] => rfl
  | i :: is => by
    show (match D.fv (.int i), D.fvs (is.map .int) with | some v, some vs => some (v :: vs) | _, _ => none) = _
    rw [fvs_ints is]
    rfl
theorem inV_ints (i : Int) : ∀ is : List Int, inV (.int i) (is.map V.int) = is.any fun j => j == i
  | [] => rfl
  | j :: is => by
    have h : inV (.int i) ((j :: is).map V.int) = ((j == i) || inV (.int i) (is.map V.int)) := rfl
    rw [h, inV_ints i is]
    rfl
theorem gInS_ints (neg : Bool) (i : Int) (is : List Int) : gInS neg (.int i) (.lst (is.map .int)) = some (.bl (if neg then !(is.any fun j => j == i) else is.any fun j => j == i)) := by
  show (match D.fv (.int i), D.fvs (is.map .int) with | some v, some vs => some (inV v vs) | _, _ => none).map _ = _
  rw [fvs_ints, ← inV_ints]
  rfl
/-! ### a + b, whose list is new -/
def eCatLM (a b : SE K κ) : SE K κ where
  te := fun Wx => tOp (rCatL K) (a.te Wx) (b.te Wx)
  ev := fun ρ => (a.ev ρ).bindD fun x ρ => (b.ev ρ).bindD fun y ρ => match x, y with
    | .lst xs, .lst ys => if xs.length + ys.length ≤ 1000000 then .ok (.ml (xs ++ ys)) ρ else .bad
    | _, _ => .bad
  ok := fun Wx G H ρ σ L Q hG hE hN p => a.ok.then hG hE hN p fun x vx ρ1 G1 H1 L1 u1 e1 n1 r1 p => b.ok.then u1.gh e1 n1 p fun y vy ρ2 G2 H2 L2 u2 e2 n2 r2 p => by
    have r1 := r1.mono u2.g
    cases r1 with
    | @lst a1 us1 xs hs ra =>
      cases r2 with
      | @lst a2 us2 ys ht rb =>
        dsimp only at p
        split at p
        · rename_i hz
          have la := ra.length
          have lb := rb.length
          refine ⟨_, _, _, _, rfl, rfl, ex_l u2.gh hs, ex_l u2.gh ht, Nat.le_trans (by omega : _ ≤ 1000000) (by decide), fun q hq => ?_⟩
          exact p _ G2 _ [q] L2 (.own u2.gh hq) (e2.ownNew hq) ⟨q, _, rfl, rfl, fresh u2.gh hq, upd_same, ra.append rb⟩ (own_nodup hq e2 n2)
        · exact p.elim
      | _ => exact p.elim
    | _ => exact p.elim
/-! ### a value's truth as a test -/
def D.truL : D → Option Bool
  | .non => some false
  | .bl b => some b
  | .int i => some (i != 0)
  | .lst xs => some (!xs.isEmpty)
  | .tup xs => some (!xs.isEmpty)
  | _ => none
theorem Rp.truL {G H : Hp} {v : V} {x : D} {k : Bool} (e : Ex G H) (r : Rp K κ G v x) (h : D.truL x = some k) : TruV K v H k := by
  have em : ∀ {us : List V} {xs : List D}, RpAll K κ G us xs → xs.isEmpty = us.isEmpty := fun ra => by cases ra <;> rfl
  cases r with
  | non => cases h; rfl
  | bl b => cases h; rfl
  | int i => cases h; rfl
  | @lst a us xs hs ra =>
    cases h
    exact .inl ⟨us, ex_l e hs, by rw [em ra]⟩
  | @tup a us xs hs ra =>
    cases h
    exact .inr (.inl ⟨us, ex_t e hs.sq, by rw [em ra]⟩)
  | _ => cases h
def tTr (a : SE K κ) : ST K κ where
  tt := fun Wx => fun σ H Q => a.te Wx σ H fun x H' => ∃ k, TruV K x H' k ∧ Q k H'
  ev := fun ρ => (a.ev ρ).bindD fun x ρ => match D.truL x with
    | some b => .ok b ρ
    | none => .bad
  ok := fun Wx G H ρ σ L Q hG hE hN p => a.ok.then hG hE hN p fun x vx ρ1 G1 H1 L1 u1 e1 n1 r1 p => by
    split at p
    · rename_i b h
      exact ⟨b, r1.truL u1.gh h, p b G1 H1 [] L1 (.refl u1.gh) e1 ⟨rfl, rfl⟩ n1⟩
    · exact p.elim
/-! ### max(xs), min(xs): some whole numbers -/
def eTop1 (a : SE K κ) : SE K κ where
  te := fun Wx => tCB (rMax K) (tCons (a.te Wx) tNil)
  ev := fun ρ => (a.ev ρ).bindD fun x ρ => match x with
    | .lst xs => match numsOf xs with
      | some (n :: ns) => .ok (.d (.int (topI n ns))) ρ
      | _ => .bad
    | _ => .bad
  ok := fun Wx G H ρ σ L Q hG hE hN p => a.ok.then hG hE hN p fun x vx ρ1 G1 H1 L1 u1 e1 n1 r1 p => by
    cases r1 with
    | @lst a1 us xs hs ra =>
      dsimp only at p
      split at p
      · rename_i n ns hn
        have ev := numsOf_ok ra hn
        subst ev
        refine ⟨a1, _, rfl, ex_l u1.gh hs, by simp, fun m hm hy => ?_⟩
        obtain ⟨s1, s2, s3⟩ := topI_spec ns n
        have e : m = topI n ns := by
          have a1 : topI n ns ≤ m := by
            rcases s1 with z | z
            · rw [z]; exact hy n (by simp)
            · exact hy _ (by simp [z])
          have a2 : m ≤ topI n ns := by
            rcases List.mem_cons.mp hm with rfl | z
            · exact s2
            · exact s3 m z
          omega
        subst e
        exact p.ret (.refl u1.gh) e1 n1 (.int _)
      · exact p.elim
    | _ => exact p.elim
def eLow1 (a : SE K κ) : SE K κ where
  te := fun Wx => tCB (rMin K) (tCons (a.te Wx) tNil)
  ev := fun ρ => (a.ev ρ).bindD fun x ρ => match x with
    | .lst xs => match numsOf xs with
      | some (n :: ns) => .ok (.d (.int (lowI n ns))) ρ
      | _ => .bad
    | _ => .bad
  ok := fun Wx G H ρ σ L Q hG hE hN p => a.ok.then hG hE hN p fun x vx ρ1 G1 H1 L1 u1 e1 n1 r1 p => by
    cases r1 with
    | @lst a1 us xs hs ra =>
      dsimp only at p
      split at p
      · rename_i n ns hn
        have ev := numsOf_ok ra hn
        subst ev
        refine ⟨a1, _, rfl, ex_l u1.gh hs, by simp, fun m hm hy => ?_⟩
        obtain ⟨s1, s2, s3⟩ := lowI_spec ns n
        have e : m = lowI n ns := by
          have a1 : m ≤ lowI n ns := by
            rcases s1 with z | z
            · rw [z]; exact hy n (by simp)
            · exact hy _ (by simp [z])
          have a2 : lowI n ns ≤ m := by
            rcases List.mem_cons.mp hm with rfl | z
            · exact s2
            · exact s3 m z
          omega
        subst e
        exact p.ret (.refl u1.gh) e1 n1 (.int _)
      · exact p.elim
    | _ => exact p.elim
end
end Pv

set_option maxRecDepth 100000
set_option maxHeartbeats 2000000
namespace Pv
open PySem PySem.Spec PyProof.Rows L2
section
variable {K : PySem.W.Frag} {κ : Cls}
/-- xs[::-1] of a list, as data -/
def eRevL (a : SE K κ) : SE K κ where
  te := fun Wx => tRevL K (a.te Wx)
  ev := fun ρ => (a.ev ρ).bindD fun x ρ => match x with
    | .lst xs => .ok (.d (.lst xs.reverse)) ρ
    | _ => .bad
  ok := fun Wx G H ρ σ L Q hG hE hN p => a.ok.then hG hE hN p fun x vx ρ1 G1 H1 L1 u1 e1 n1 r1 p => by
    cases r1 with
    | @lst b us xs hs ra => exact ⟨b, us, rfl, ex_l u1.gh hs, fun q hq => p.ret (.new u1.gh hq) (e1.new u1.gh hq) n1 (.lst (SqL.of upd_same) (ra.reverse.mono (Evl.Ex.new (fresh u1.gh hq))))⟩
    | _ => exact p.elim
/-- list(xs), xs an owned list, that stays so -/
def eCopyM (i : Nat) : SE K κ where
  te := fun _ => tCB (rLstOf K) (tCons (tVar i) tNil)
  ev := fun ρ => match ρ[i]? with
    | some (some (.ml xs)) => .ok (.d (.lst xs)) ρ
    | _ => .bad
  ok := fun Wx G H ρ σ L Q hG hE hN p => by
    dsimp only at p
    split at p
    · rename_i xs h
      obtain ⟨a, vs, h1, h2, h3, h4, _⟩ := hE.list hG hN h
      exact ⟨_, h1, a, vs, rfl, .inl (SqL.of h3), fun l hl => p.ret (.new hG hl) (hE.new hG hl) hN (.lst (SqL.of upd_same) (h4.mono (Evl.Ex.new (fresh hG hl))))⟩
    · exact p.elim
/-- a new list, from now on known -/
def eFz (a : SE K κ) : SE K κ where
  te := a.te
  ev := fun ρ => match a.ev ρ with
    | .ok (.ml xs) ρ => .ok (.d (.lst xs)) ρ
    | .ok (.d x) ρ => .ok (.d x) ρ
    | .exc c f ρ => .exc c f ρ
    | _ => .bad
  ok := fun Wx G H ρ σ L Q hG hE hN p => by
    refine a.ok Wx G H ρ σ L Q hG hE hN ?_
    dsimp only at p
    cases h : a.ev ρ with
    | bad => rw [h] at p; exact p.elim
    | exc c f ρ1 => rw [h] at p; exact p
    | ok w ρ1 =>
      rw [h] at p
      cases w with
      | d x => exact p
      | ml xs =>
        intro v G1 H1 Lw L1 u e r nd
        obtain ⟨a1, vs, rfl, rfl, g, hh, ra⟩ := r
        have nda := List.nodup_append.mp nd
        have na : ∀ b ∈ L1, b ≠ a1 := fun b hb z => nda.2.2 a1 (by simp) b hb z.symm
        refine p (.ref a1) (upd G1 a1 (.lst vs)) H1 [] L1 ⟨u.g.trans (Evl.Ex.new g), u.h, u.t, fun b e1 n1 q => ?_, fun b z => u.ln b (List.mem_append_right _ z), fun b o z => ?_⟩ ?_ ⟨rfl, .lst (SqL.of upd_same) (ra.mono (Evl.Ex.new g))⟩ nda.2.1
        · have ne : b ≠ a1 := fun z => by
            subst z
            rcases u.ln b (by simp) with m | m
            · exact n1 m
            · exact e1 m
          rw [upd_ne ne]
          exact u.gn b e1 n1 q
        · by_cases z1 : b = a1
          · subst z1
            rw [upd_same] at z
            cases z
            exact hh
          · rw [upd_ne z1] at z
            exact u.gh b o z
        · refine e.keep (Evl.Ex.new g) (fun b z => ?_) fun b z o q => q
          rw [upd_ne (na b z)]
          exact (e.there b z).2
      | _ => exact p.elim
end
/-! ### a def that calls itself -/
section
variable {P : Program} {w : World} {K : PySem.W.Frag} {κ : Cls} {mg : Str → Option Value} {base : Heap}
theorem fnx_bad {k : Nat} {f : Addr} {fd : FuncData} {ps : List Str} : FnX P w K κ mg base k f fd ps (fun _ => .bad) :=
  ⟨fun vs H Q E h => by obtain ⟨_, _, _, h, _⟩ := h; exact h, fun A outer s H args us vs Q E hr hq he hb hv h => by obtain ⟨_, _, _, _, _, _, _, z⟩ := h; exact z.elim⟩
/-- F 0 is never asked; F (n + 1) is the body that asks F n -/
theorem fnx_rec {l : Nat} {a : Addr} {fd : FuncData} {ps : List Str} {F : Nat → Fn} (h0 : F 0 = fun _ => .bad) (h : ∀ n, FnX P w K κ mg base (l + n) a fd ps (F n) → FnX P w K κ mg base (l + (n + 1)) a fd ps (F (n + 1))) : ∀ n, FnX P w K κ mg base (l + n) a fd ps (F n)
  | 0 => by rw [h0]; exact fnx_bad
  | n + 1 => h n (fnx_rec h0 h n)
end
end Pv

set_option maxRecDepth 100000
set_option maxHeartbeats 4000000
namespace Pv
open PySem PySem.Spec PyProof.Rows L2
section
variable {K : PySem.W.Frag} {κ : Cls}
theorem eSlL_ev (a : SE K κ) (lo hi : SO K κ) : (eSlL (K := K) (κ := κ) a lo hi).ev = fun ρ => (a.ev ρ).bindD fun x ρ => (lo.ev ρ).bind fun i ρ => (hi.ev ρ).bind fun j ρ => match x with
    | .lst xs => .ok (.d (.lst (cutD xs i j))) ρ
    | _ => .bad := rfl
theorem iZipL_ev (a b : SE K κ) : (iZipL (K := K) (κ := κ) a b).ev = fun ρ => (a.ev ρ).bindD fun x ρ => (b.ev ρ).bindD fun y ρ => match x, y with
    | .lst xs, .lst ys => if xs.length = ys.length then .ok ((xs.zip ys).map pairD) ρ else .bad
    | _, _ => .bad := rfl
theorem eRepL_ev (a k : SE K κ) : (eRepL (K := K) (κ := κ) a k).ev = fun ρ => match a.ev ρ with
    | .ok (.ml xs) ρ => (k.ev ρ).bindD fun y ρ => match y with
      | .int n => if 0 ≤ n ∧ n ≤ 1000 ∧ xs.length ≤ 1000 then .ok (.d (.lst (List.replicate n.toNat xs).flatten)) ρ else .bad
      | _ => .bad
    | _ => .bad := rfl
theorem eTopDf_ev (a b : SE K κ) : (eTopDf (K := K) (κ := κ) a b).ev = fun ρ => (a.ev ρ).bindD fun x ρ => (b.ev ρ).bindD fun y ρ => match x with
    | .lst xs => match numsOf xs with
      | some ns => .ok (.d (topD ns y)) ρ
      | none => .bad
    | _ => .bad := rfl
theorem eLowDf_ev (a b : SE K κ) : (eLowDf (K := K) (κ := κ) a b).ev = fun ρ => (a.ev ρ).bindD fun x ρ => (b.ev ρ).bindD fun y ρ => match x with
    | .lst xs => match numsOf xs with
      | some ns => .ok (.d (lowD ns y)) ρ
      | none => .bad
    | _ => .bad := rfl
theorem ePk_ev (e : SE K κ) : (ePk (K := K) (κ := κ) e).ev = fun ρ => match e.ev (peekE ρ) with
    | .ok (.d x) _ => if D.f0 x = true then .ok (.d x) ρ else .bad
    | _ => .bad := rfl
theorem tPk_ev (t : ST K κ) : (tPk (K := K) (κ := κ) t).ev = fun ρ => match t.ev (peekE ρ) with
    | .ok b _ => .ok b ρ
    | _ => .bad := rfl
theorem sSetX_sv (i : Nat) (k e : SE K κ) : (sSetX (K := K) (κ := κ) i k e).sv = fun ρ => (e.ev ρ).bindD fun x ρ => match ρ[i]? with
    | some (some (.ml _)) => (k.ev ρ).bindD fun y ρ => match y, ρ[i]? with
      | .int j, some (some (.ml xs)) => match L2.ixN xs.length j with
        | some n => .ok .nx (ρ.set i (some (.ml (xs.set n x))))
        | none => .bad
      | _, _ => .bad
    | _ => .bad := rfl
theorem eSortL_ev (a : SE K κ) : (eSortL (K := K) (κ := κ) a).ev = fun ρ => (a.ev ρ).bindD fun x ρ => match x with
    | .lst xs => match numsOf xs with
      | some is => if is.length < 64 then .ok (.d (.lst ((sortI is).map .int))) ρ else .bad
      | none => .bad
    | _ => .bad := rfl
theorem eCatLM_ev (a b : SE K κ) : (eCatLM (K := K) (κ := κ) a b).ev = fun ρ => (a.ev ρ).bindD fun x ρ => (b.ev ρ).bindD fun y ρ => match x, y with
    | .lst xs, .lst ys => if xs.length + ys.length ≤ 1000000 then .ok (.ml (xs ++ ys)) ρ else .bad
    | _, _ => .bad := rfl
theorem tTr_ev (a : SE K κ) : (tTr (K := K) (κ := κ) a).ev = fun ρ => (a.ev ρ).bindD fun x ρ => match D.truL x with
    | some b => .ok b ρ
    | none => .bad := rfl
theorem eTop1_ev (a : SE K κ) : (eTop1 (K := K) (κ := κ) a).ev = fun ρ => (a.ev ρ).bindD fun x ρ => match x with
    | .lst xs => match numsOf xs with
      | some (n :: ns) => .ok (.d (.int (topI n ns))) ρ
      | _ => .bad
    | _ => .bad := rfl
theorem eLow1_ev (a : SE K κ) : (eLow1 (K := K) (κ := κ) a).ev = fun ρ => (a.ev ρ).bindD fun x ρ => match x with
    | .lst xs => match numsOf xs with
      | some (n :: ns) => .ok (.d (.int (lowI n ns))) ρ
      | _ => .bad
    | _ => .bad := rfl
theorem eRevL_ev (a : SE K κ) : (eRevL (K := K) (κ := κ) a).ev = fun ρ => (a.ev ρ).bindD fun x ρ => match x with
    | .lst xs => .ok (.d (.lst xs.reverse)) ρ
    | _ => .bad := rfl
theorem eCopyM_ev (i : Nat) : (eCopyM (K := K) (κ := κ) i).ev = fun ρ => match ρ[i]? with
    | some (some (.ml xs)) => .ok (.d (.lst xs)) ρ
    | _ => .bad := rfl
theorem eFz_ev (a : SE K κ) : (eFz (K := K) (κ := κ) a).ev = fun ρ => match a.ev ρ with
    | .ok (.ml xs) ρ => .ok (.d (.lst xs)) ρ
    | .ok (.d x) ρ => .ok (.d x) ρ
    | .exc c f ρ => .exc c f ρ
    | _ => .bad := rfl
end
end Pv

set_option maxRecDepth 100000
set_option maxHeartbeats 2000000
namespace Pv
open PySem PySem.Spec PyProof.Rows L2
section
variable {K : PySem.W.Frag} {κ : Cls} {ρ ρ1 ρ2 ρp ρ' : Env} {e k : SE K κ} {t u : ST K κ} {a b : SS K κ} {x y : D} {w : W} {c : Bool} {r : R Env Flow}
theorem pk_of (hp : peekE ρ = ρp) (h : e.ev ρp = .ok (.d x) ρ') (hx : D.f0 x = true) : (ePk e).ev ρ = .ok (.d x) ρ := by
  simp only [ePk_ev, hp, h, if_pos hx]
theorem tpk_of (hp : peekE ρ = ρp) (h : t.ev ρp = .ok c ρ') : (tPk t).ev ρ = .ok c ρ := by
  simp only [tPk_ev, hp, h]
theorem if_tr (ht : t.ev ρ = .ok true ρ1) (h : a.sv ρ1 = r) : (sIf t a b).sv ρ = r := by
  show (t.ev ρ).bind _ = r
  rw [ht]
  exact h
theorem if_fa (ht : t.ev ρ = .ok false ρ1) (h : b.sv ρ1 = r) : (sIf t a b).sv ρ = r := by
  show (t.ev ρ).bind _ = r
  rw [ht]
  exact h
/-- an if of which nothing comes -/
theorem if_no (ht : t.ev ρ = .ok false ρ1) : (sIf t a sNil).sv ρ = .ok .nx ρ1 := if_fa ht rfl
theorem ret_of (h : e.ev ρ = .ok w ρ1) : (sRet e).sv ρ = .ok (.rt w) ρ1 := by
  show (e.ev ρ).bind _ = _
  rw [h]
  rfl
/-- the last row of a def: return -/
theorem seq_ret (h : e.ev ρ = .ok w ρ1) : (sSeq (sRet e) b).sv ρ = .ok (.rt w) ρ1 := seq_rt (ret_of h)
theorem and_t (ht : t.ev ρ = .ok true ρ1) : (tAnd' t u).ev ρ = u.ev ρ1 := by
  show (t.ev ρ).bind _ = _
  rw [ht]
  rfl
theorem and_f (ht : t.ev ρ = .ok false ρ1) : (tAnd' t u).ev ρ = .ok false ρ1 := by
  show (t.ev ρ).bind _ = _
  rw [ht]
  rfl
theorem or_t (ht : t.ev ρ = .ok true ρ1) : (tOr' t u).ev ρ = .ok true ρ1 := by
  show (t.ev ρ).bind _ = _
  rw [ht]
  rfl
theorem or_f (ht : t.ev ρ = .ok false ρ1) : (tOr' t u).ev ρ = u.ev ρ1 := by
  show (t.ev ρ).bind _ = _
  rw [ht]
  rfl
theorem not_of (ht : t.ev ρ = .ok c ρ1) : (tNot' t).ev ρ = .ok (!c) ρ1 := by
  show (t.ev ρ).bind _ = _
  rw [ht]
  rfl
theorem tv_of (h : e.ev ρ = .ok (.d (.bl c)) ρ1) : (tV e).ev ρ = .ok c ρ1 := by
  show (e.ev ρ).bindD _ = _
  rw [h]
  rfl
theorem tup2_of {e f : SE K κ} (he : e.ev ρ = .ok (.d x) ρ1) (hf : f.ev ρ1 = .ok (.d y) ρ2) : (eTup (aCons e (aCons f aNil))).ev ρ = .ok (.d (.tup [x, y])) ρ2 := by
  simp only [eV_ev, eC_ev, eOp_ev, eUn_ev, eIsN_ev, eNotN_ev, aNil_ev, aCons_ev, aM_ev, eTup_ev, eLst_ev, eLstM_ev, eCall_ev, eCB_ev, tV_ev, tV'_ev, tAnd'_ev, tOr'_ev, tNot'_ev, eAndV_ev, eOrV_ev, eNotV_ev, eIf_ev, sNil_sv, sSeq_sv, sAsg_sv, sIf_sv, sRet_sv, sDrop_sv, sSetL_sv, sApp_sv, eIxM_ev, eLenM_ev, iT_ev, iL_ev, iR1_ev, iR2_ev, gN_put, gs0_put, gs1_put, gT_put, sAsgG_sv, tYes'_ev, eIs_ev, sRaise_sv, sTry_sv, sNever_sv, sPar_sv, o0_ev, o1_ev, eSlT_ev, sSetD_sv, eIxD_ev, eGetD_ev, eSortD_ev, eDict_ev, eNegC_ev, eRevT_ev, eOrD_ev, eRepM_ev, sAugI_sv, iItemsD_ev, iZip_ev, sRaiseF_sv, eIsX_ev, eFldX_ev, eCatM_ev, eSortIt_ev, sAugAdd, sAugSub, eIntOf, eRep01, eStrOf, eTupOf, eLstOf, eCatT, eInt, eStr, eBl, eNon, eAdd, eSub, eMul, eMulW, eMod, eDiv, ePow, eLt, eLe, eGt, eGe, eEq, eNe, eIxL, eIxT, eLen, eMax2, eMin2, eAll, eAny, eSum, eIsTy, R.bindD_ok, gI, R.bindD_ok, R.bindD_exc, R.bind_ok, R.bind_exc, R.bind_bad, R.of, R.flow, evV, evD, dat, pull, push, callOn, left, begun, List.length_cons, List.length_nil, List.getElem?_cons_zero, List.getElem?_cons_succ, List.set_cons_zero, List.set_cons_succ, if_true, if_false, ite_t, ite_f, Nat.reduceAdd, Nat.reduceLT, Nat.reduceSub, Nat.reduceEqDiff, Nat.reduceLeDiff, List.map_cons, List.map_nil, List.replicate, List.append_nil, List.nil_append, List.cons_append, and_self, true_and, and_true, Bool.not_true, Bool.not_false, Bool.false_eq_true, reduceIte, Nat.zero_add, Nat.lt_add_left_iff_pos, he, hf]
theorem lst1_of {e : SE K κ} (he : e.ev ρ = .ok (.d x) ρ1) : (eLst (aCons e aNil)).ev ρ = .ok (.d (.lst [x])) ρ1 := by
  simp only [eV_ev, eC_ev, eOp_ev, eUn_ev, eIsN_ev, eNotN_ev, aNil_ev, aCons_ev, aM_ev, eTup_ev, eLst_ev, eLstM_ev, eCall_ev, eCB_ev, tV_ev, tV'_ev, tAnd'_ev, tOr'_ev, tNot'_ev, eAndV_ev, eOrV_ev, eNotV_ev, eIf_ev, sNil_sv, sSeq_sv, sAsg_sv, sIf_sv, sRet_sv, sDrop_sv, sSetL_sv, sApp_sv, eIxM_ev, eLenM_ev, iT_ev, iL_ev, iR1_ev, iR2_ev, gN_put, gs0_put, gs1_put, gT_put, sAsgG_sv, tYes'_ev, eIs_ev, sRaise_sv, sTry_sv, sNever_sv, sPar_sv, o0_ev, o1_ev, eSlT_ev, sSetD_sv, eIxD_ev, eGetD_ev, eSortD_ev, eDict_ev, eNegC_ev, eRevT_ev, eOrD_ev, eRepM_ev, sAugI_sv, iItemsD_ev, iZip_ev, sRaiseF_sv, eIsX_ev, eFldX_ev, eCatM_ev, eSortIt_ev, sAugAdd, sAugSub, eIntOf, eRep01, eStrOf, eTupOf, eLstOf, eCatT, eInt, eStr, eBl, eNon, eAdd, eSub, eMul, eMulW, eMod, eDiv, ePow, eLt, eLe, eGt, eGe, eEq, eNe, eIxL, eIxT, eLen, eMax2, eMin2, eAll, eAny, eSum, eIsTy, R.bindD_ok, gI, R.bindD_ok, R.bindD_exc, R.bind_ok, R.bind_exc, R.bind_bad, R.of, R.flow, evV, evD, dat, pull, push, callOn, left, begun, List.length_cons, List.length_nil, List.getElem?_cons_zero, List.getElem?_cons_succ, List.set_cons_zero, List.set_cons_succ, if_true, if_false, ite_t, ite_f, Nat.reduceAdd, Nat.reduceLT, Nat.reduceSub, Nat.reduceEqDiff, Nat.reduceLeDiff, List.map_cons, List.map_nil, List.replicate, List.append_nil, List.nil_append, List.cons_append, and_self, true_and, and_true, Bool.not_true, Bool.not_false, Bool.false_eq_true, reduceIte, Nat.zero_add, Nat.lt_add_left_iff_pos, he]
theorem call1_of {f : Fn} {a : SE K κ} {z : W} (ha : a.ev ρ = .ok (.d x) ρ1) (hf : f [.d x] = .ok z [.d x]) : (eCall 1 f (aCons a aNil)).ev ρ = .ok z ρ1 := by
  simp only [eV_ev, eC_ev, eOp_ev, eUn_ev, eIsN_ev, eNotN_ev, aNil_ev, aCons_ev, aM_ev, eTup_ev, eLst_ev, eLstM_ev, eCall_ev, eCB_ev, tV_ev, tV'_ev, tAnd'_ev, tOr'_ev, tNot'_ev, eAndV_ev, eOrV_ev, eNotV_ev, eIf_ev, sNil_sv, sSeq_sv, sAsg_sv, sIf_sv, sRet_sv, sDrop_sv, sSetL_sv, sApp_sv, eIxM_ev, eLenM_ev, iT_ev, iL_ev, iR1_ev, iR2_ev, gN_put, gs0_put, gs1_put, gT_put, sAsgG_sv, tYes'_ev, eIs_ev, sRaise_sv, sTry_sv, sNever_sv, sPar_sv, o0_ev, o1_ev, eSlT_ev, sSetD_sv, eIxD_ev, eGetD_ev, eSortD_ev, eDict_ev, eNegC_ev, eRevT_ev, eOrD_ev, eRepM_ev, sAugI_sv, iItemsD_ev, iZip_ev, sRaiseF_sv, eIsX_ev, eFldX_ev, eCatM_ev, eSortIt_ev, sAugAdd, sAugSub, eIntOf, eRep01, eStrOf, eTupOf, eLstOf, eCatT, eInt, eStr, eBl, eNon, eAdd, eSub, eMul, eMulW, eMod, eDiv, ePow, eLt, eLe, eGt, eGe, eEq, eNe, eIxL, eIxT, eLen, eMax2, eMin2, eAll, eAny, eSum, eIsTy, R.bindD_ok, gI, R.bindD_ok, R.bindD_exc, R.bind_ok, R.bind_exc, R.bind_bad, R.of, R.flow, evV, evD, dat, pull, push, callOn, left, begun, List.length_cons, List.length_nil, List.getElem?_cons_zero, List.getElem?_cons_succ, List.set_cons_zero, List.set_cons_succ, if_true, if_false, ite_t, ite_f, Nat.reduceAdd, Nat.reduceLT, Nat.reduceSub, Nat.reduceEqDiff, Nat.reduceLeDiff, List.map_cons, List.map_nil, List.replicate, List.append_nil, List.nil_append, List.cons_append, and_self, true_and, and_true, Bool.not_true, Bool.not_false, Bool.false_eq_true, reduceIte, Nat.zero_add, Nat.lt_add_left_iff_pos, ha, hf]
theorem setX_of {i n : Nat} {xs : List D} {j : Int} (he : e.ev ρ = .ok (.d x) ρ1) (h1 : ρ1[i]? = some (some (.ml xs))) (hk : k.ev ρ1 = .ok (.d (.int j)) ρ1) (hn : L2.ixN xs.length j = some n) : (sSetX i k e).sv ρ = .ok .nx (ρ1.set i (some (.ml (xs.set n x)))) := by
  rw [sSetX_sv]
  simp only [he, R.bindD_ok, h1, hk, hn]
end
end Pv

set_option maxRecDepth 100000
set_option maxHeartbeats 2000000
namespace Pv
open PySem PySem.Spec PyProof.Rows L2
theorem eqv_me {x : D} (h : D.flat 60 x = true) : D.eqv x x = true := SeqAt.eqv_refl_plain _ (PyData.plain_of_canLay0 _ (flat_lay x 60 h).1)
theorem gEq_me {x : D} (h : D.flat 60 x = true) : gEq x x = some (.bl true) := by
  unfold gEq
  rw [if_pos ⟨h, h⟩, eqv_me h]
theorem gNe_me {x : D} (h : D.flat 60 x = true) : gNe x x = some (.bl false) := by
  unfold gNe
  rw [if_pos ⟨h, h⟩, eqv_me h]
  rfl
theorem flats_int (n : Nat) : ∀ is : List Int, D.flats (n + 1) (is.map .int) = true
  | [] => rfl
  | i :: is => by
    rw [List.map_cons]
    unfold D.flats
    rw [flats_int n is]
    rfl
theorem flat_ints (is : List Int) : D.flat 60 (.lst (is.map .int)) = true := flats_int 58 is
theorem lst_ne_nil (x : D) (xs : List D) (h : D.flat 60 (.lst (x :: xs)) = true) : gNe (.lst (x :: xs)) (.lst []) = some (.bl true) := by
  have e : D.eqv (.lst (x :: xs)) (.lst []) = false := by
    unfold D.eqv
    rw [D.py, D.py, D.pys, D.pys]
    rfl
  unfold gNe
  rw [if_pos ⟨h, rfl⟩, e]
  rfl
theorem bools_yes {α : Type} (xs : List α) : bools (xs.map fun _ => D.bl true) = some (xs.map fun _ => true) := by
  induction xs with
  | nil => rfl
  | cons x xs ih =>
    rw [List.map_cons, List.map_cons]
    unfold bools
    rw [ih]
theorem gAll_yes {α : Type} (xs : List α) : gAll [.lst (xs.map fun _ => D.bl true)] = some (.bl true) := by
  show (match bools (xs.map fun _ => D.bl true) with | some bs => some (D.bl (bs.all id)) | none => none) = _
  rw [bools_yes]
  simp
end Pv

set_option maxRecDepth 100000
set_option maxHeartbeats 2000000
namespace Pv
open PySem PySem.Spec PyProof.Rows L2
section
variable {K : PySem.W.Frag} {κ : Cls}
/-! ### while, of so many turns at most -/
def loopW (t : Env → R Env Bool) (b : Env → R Env Flow) : Nat → Env → R Env Flow
  | 0, _ => .bad
  | n + 1, ρ => (t ρ).bind fun c ρ => if c = true then (match b ρ with
    | .ok .nx ρ => loopW t b n ρ
    | .ok .ct ρ => loopW t b n ρ
    | .ok .bk ρ => .ok .nx ρ
    | .ok (.rt w) ρ => .ok (.rt w) ρ
    | .exc c f ρ => .exc c f ρ
    | .bad => .bad) else .ok .nx ρ
def sWhile (N : Nat) (t : ST K κ) (b : SS K κ) : SS K κ where
  ts := fun Wx => tWhile (t.tt Wx) (b.ts Wx)
  sv := loopW t.ev b.sv N
  asg := b.asg
  ok := fun Wx G H ρ σ L E hG hE hN p => by
    refine ⟨fun m σ' H' => ∃ G' L' ρ', Ex G' H' ∧ EnvR K κ G' H' ρ' σ' L' ∧ L'.Nodup ∧ PostS K κ Wx σ' b.asg G' H' L' (loopW t.ev b.sv m ρ') E, ⟨N, G, L, ρ, hG, hE, hN, p⟩, ?_⟩
    rintro m σ1 H1 ⟨G1, L1, ρ1, hG1, hE1, hN1, p1⟩
    cases m with
    | zero => exact p1.elim
    | succ n =>
      have p1 : PostS K κ Wx σ1 b.asg G1 H1 L1 ((t.ev ρ1).bind fun c ρ => if c = true then (match b.sv ρ with
        | .ok .nx ρ => loopW t.ev b.sv n ρ
        | .ok .ct ρ => loopW t.ev b.sv n ρ
        | .ok .bk ρ => .ok .nx ρ
        | .ok (.rt w) ρ => .ok (.rt w) ρ
        | .exc c f ρ => .exc c f ρ
        | .bad => .bad) else .ok .nx ρ) E := p1
      refine t.ok.thenS hG1 hE1 hN1 p1 fun c ρ2 G2 H2 L2 u2 e2 n2 p2 => ?_
      split at p2
      · rename_i hc
        rw [if_pos hc]
        refine ⟨fun σ3 H3 => ∃ G3 L3 ρ3, Ex G3 H3 ∧ EnvR K κ G3 H3 ρ3 σ3 L3 ∧ L3.Nodup ∧ PostS K κ Wx σ3 b.asg G3 H3 L3 (loopW t.ev b.sv n ρ3) E, fun σ3 H3 z => ⟨n, Nat.lt_succ_self n, z⟩, ?_⟩
        refine b.ok Wx G2 H2 ρ2 σ1 L2 _ u2.gh e2 n2 ?_
        cases hb : b.sv ρ2 with
        | bad => rw [hb] at p2; exact p2.elim
        | exc c f ρ3 =>
          rw [hb] at p2
          exact fun dd σ3 G3 H3 L3 s3 e3 n3 k3 x => p2 dd σ3 G3 H3 L3 s3 e3 n3 k3 x
        | ok f ρ3 =>
          rw [hb] at p2
          cases f with
          | nx => exact fun σ3 G3 H3 L3 s3 e3 n3 k3 => ⟨G3, L3, ρ3, s3.gh, e3, n3, p2.step s3 k3 fun j z => (List.mem_append.mp z).elim (fun z => z) fun z => z⟩
          | ct => exact fun σ3 G3 H3 L3 s3 e3 n3 k3 => ⟨G3, L3, ρ3, s3.gh, e3, n3, p2.step s3 k3 fun j z => (List.mem_append.mp z).elim (fun z => z) fun z => z⟩
          | bk => exact fun σ3 G3 H3 L3 s3 e3 n3 k3 => p2 σ3 G3 H3 L3 s3 e3 n3 k3
          | rt w => exact fun v3 σ3 G3 H3 Lw L3 s3 e3 r3 n3 k3 => p2 v3 σ3 G3 H3 Lw L3 s3 e3 r3 n3 k3
      · rename_i hc
        rw [if_neg hc]
        exact p2 σ1 G2 H2 L2 (.refl u2.gh) e2 n2 (.refl _ _)
/-! ### {} -/
def eNewD : SE K κ where
  te := fun _ => tDNewK
  ev := fun ρ => .ok (.md []) ρ
  ok := fun Wx G H ρ σ L Q hG hE hN p => fun q hq => p _ G _ [q] L (.own hG hq) (hE.ownNew hq) ⟨q, [], rfl, rfl, fresh hG hq, upd_same, trivial⟩ (own_nodup hq hE hN)
/-! ### list(range(a, b)) -/
theorem rg_ok {G : Hp} (a b : Int) : RpAll K κ G (rgV a b) (nums a (b - a).toNat) := by
  unfold rgV nums
  induction (List.range (b - a).toNat) with
  | nil => exact .nil
  | cons i is ih => exact .cons (.int _) ih
def eListR (a b : SE K κ) : SE K κ where
  te := fun Wx => tLstRg (tRg2 (a.te Wx) (b.te Wx))
  ev := fun ρ => (a.ev ρ).bindD fun x ρ => (b.ev ρ).bindD fun y ρ => match x, y with
    | .int i, .int j => if 0 ≤ i ∧ i ≤ 1000000 ∧ 0 ≤ j ∧ j ≤ 1000000 then .ok (.d (.lst (nums i (j - i).toNat))) ρ else .bad
    | _, _ => .bad
  ok := fun Wx G H ρ σ L Q hG hE hN p => a.ok.then hG hE hN p fun x vx ρ1 G1 H1 L1 u1 e1 n1 r1 p => b.ok.then u1.gh e1 n1 p fun y vy ρ2 G2 H2 L2 u2 e2 n2 r2 p => by
    cases r1 with
    | int i =>
      cases r2 with
      | int j =>
        dsimp only at p
        split at p
        · rename_i hz
          obtain ⟨z1, z2, z3, z4⟩ := hz
          exact ⟨i, j, rfl, rfl, RgOk.of_le z1 (by omega) (by omega) z3, fun q hq => p.ret (.new u2.gh hq) (e2.new u2.gh hq) n2 (.lst (SqL.of upd_same) (rg_ok i j))⟩
        · exact p.elim
      | _ => exact p.elim
    | _ => cases r2 <;> exact p.elim
/-! ### sorted(xs), whole numbers, any many -/
def eSortN (a : SE K κ) : SE K κ where
  te := fun Wx => tCB (rSortedI K) (tCons (a.te Wx) tNil)
  ev := fun ρ => (a.ev ρ).bindD fun x ρ => match x with
    | .lst xs => match numsOf xs with
      | some is => .ok (.d (.lst ((sortI is).map .int))) ρ
      | none => .bad
    | _ => .bad
  ok := fun Wx G H ρ σ L Q hG hE hN p => a.ok.then hG hE hN p fun x vx ρ1 G1 H1 L1 u1 e1 n1 r1 p => by
    cases r1 with
    | @lst a1 us xs hs ra =>
      dsimp only at p
      cases hn : numsOf xs with
      | none => rw [hn] at p; exact p.elim
      | some is =>
        rw [hn] at p
        dsimp only at p
        have ev := numsOf_ok ra hn
        subst ev
        refine ⟨a1, is, rfl, ex_l u1.gh hs, fun ys b py sy hb => ?_⟩
        have e := sorted_one (py.trans (sortI_perm is).symm) sy (sortI_sorted is)
        subst e
        exact p.ret (.new u1.gh hb) (e1.new u1.gh hb) n1 (.lst (SqL.of upd_same) (ints_ok _))
    | _ => exact p.elim
end
end Pv

set_option maxRecDepth 100000
set_option maxHeartbeats 2000000
namespace Pv
open PySem PySem.Spec PyProof.Rows L2
section
variable {K : PySem.W.Frag} {κ : Cls} {ρ ρ1 ρ2 : Env} {t : ST K κ} {b : SS K κ} {a c : SE K κ} {w : W}
theorem loopW_f {n : Nat} (ht : t.ev ρ = .ok false ρ1) : loopW t.ev b.sv (n + 1) ρ = .ok .nx ρ1 := by
  show (t.ev ρ).bind _ = _
  rw [ht]
  rfl
theorem loopW_t {n : Nat} (ht : t.ev ρ = .ok true ρ1) (hb : b.sv ρ1 = .ok .nx ρ2) : loopW t.ev b.sv (n + 1) ρ = loopW t.ev b.sv n ρ2 := by
  rw [loopW.eq_2]
  simp only [ht, R.bind_ok, if_true, hb]
theorem while_of {N : Nat} {r : R Env Flow} (h : loopW t.ev b.sv N ρ = r) : (sWhile N t b).sv ρ = r := h
theorem newD_ev : (eNewD (K := K) (κ := κ)).ev = fun ρ => .ok (.md []) ρ := rfl
theorem listR_of {i j : Int} (ha : a.ev ρ = .ok (.d (.int i)) ρ1) (hc : c.ev ρ1 = .ok (.d (.int j)) ρ2) (h : 0 ≤ i ∧ i ≤ 1000000 ∧ 0 ≤ j ∧ j ≤ 1000000) : (eListR a c).ev ρ = .ok (.d (.lst (nums i (j - i).toNat))) ρ2 := by
  show (a.ev ρ).bindD _ = _
  rw [ha]
  show (c.ev ρ1).bindD _ = _
  rw [hc]
  exact if_pos h
theorem sortN_of {is : List Int} (ha : a.ev ρ = .ok (.d (.lst (is.map .int))) ρ1) : (eSortN a).ev ρ = .ok (.d (.lst ((sortI is).map .int))) ρ1 := by
  show (a.ev ρ).bindD _ = _
  rw [ha]
  show (match numsOf (is.map .int) with | some is => R.ok (W.d (.lst ((sortI is).map .int))) ρ1 | none => .bad) = _
  rw [numsOf_map]
theorem top1_of {n : Int} {ns : List Int} (ha : a.ev ρ = .ok (.d (.lst ((n :: ns).map .int))) ρ1) : (eTop1 a).ev ρ = .ok (.d (.int (topI n ns))) ρ1 := by
  show (a.ev ρ).bindD _ = _
  rw [ha]
  show (match numsOf ((n :: ns).map .int) with | some (n :: ns) => R.ok (W.d (.int (topI n ns))) ρ1 | _ => .bad) = _
  rw [numsOf_map]
end
end Pv

set_option maxRecDepth 100000
set_option maxHeartbeats 2000000
namespace Pv
open PySem PySem.Spec PyProof.Rows L2
/-! ### a list of one's own whose items are lists of one's own -/
section
variable {K : PySem.W.Frag} {κ : Cls} {G H G' H' : Hp} {L : List Addr} {ρ : Env} {σ : St}
theorem MLs.all : ∀ {xss : List (List D)} {bs : List Addr}, MLs K κ G H xss bs → Ex G G' → (∀ b ∈ bs, ∀ o, H b = some o → G' b = some o) → RpAll K κ G' (bs.map V.ref) (xss.map .lst)
  | [], [], _, _, _ => .nil
  | xs :: xss, b :: bs, ⟨⟨g, vs, h, r⟩, m⟩, e, k => .cons (.lst (SqL.of (k b (by simp) _ h)) (r.mono e)) (MLs.all m e fun c z => k c (by simp [z]))
theorem MLs.vs {xss : List (List D)} {bs : List Addr} (m : MLs K κ G H xss bs) {n : Nat} (h : n < xss.length) : ∃ b xs vs, bs[n]? = some b ∧ xss[n]? = some xs ∧ G b = none ∧ H b = some (.lst vs) ∧ RpAll K κ G vs xs := by
  have hb : n < bs.length := by rw [← m.len]; exact h
  obtain ⟨xs, vs, q⟩ := m.at (List.getElem?_eq_getElem hb)
  exact ⟨_, xs, vs, List.getElem?_eq_getElem hb, q⟩
theorem EnvR.lists {i : Nat} {xss : List (List D)} (hG : Ex G H) (r : EnvR K κ G H ρ σ L) (nd : L.Nodup) (e : ρ[i]? = some (some (.mm xss))) :
    ∃ a bs, σ[i]? = some (some (.ref a)) ∧ G a = none ∧ H a = some (.lst (bs.map V.ref)) ∧ MLs K κ G H xss bs ∧
      (∀ n b us ys, bs[n]? = some b → RpAll K κ G us ys → Stp G H L G (upd H b (.lst us)) L ∧ EnvR K κ G (upd H b (.lst us)) (ρ.set i (some (.mm (xss.set n ys)))) σ L) ∧
      (∃ G' L', Stp G H L G' H L' ∧ EnvR K κ G' H (ρ.set i (some (.d (.lst (xss.map .lst))))) σ L' ∧ L'.Nodup ∧ Rp K κ G' (.ref a) (.lst (xss.map .lst))) := by
  obtain ⟨v, A, B, C, h1, h2, h3, h4⟩ := r.at e
  obtain ⟨a, bs, rfl, rfl, g, h, m⟩ := h3
  subst h2
  have hi : σ.set i (some (.ref a)) = σ := by
    obtain ⟨hl, e1⟩ := List.getElem?_eq_some_iff.mp h1
    rw [← e1]; exact List.set_getElem_self hl
  have nd1 := List.nodup_append.mp nd
  have nd2 := List.nodup_append.mp nd1.1
  have ndB : (a :: bs).Nodup := nd2.2.1
  have ndb := List.nodup_cons.mp ndB
  have ne : ∀ b ∈ A ++ C, b ∉ a :: bs := fun b hb z => by
    rcases List.mem_append.mp hb with hb | hb
    · exact nd2.2.2 b hb b z rfl
    · exact nd1.2.2 b (by simp only [List.mem_append]; exact .inr z) b hb rfl
  have there := r.there
  have inL : ∀ b ∈ a :: bs, b ∈ A ++ (a :: bs) ++ C := fun b z => by simp only [List.mem_append]; exact .inl (.inr z)
  have rest : ∀ b ∈ A ++ C, b ∈ A ++ (a :: bs) ++ C := fun b z => by
    simp only [List.mem_append] at z ⊢
    rcases z with z | z
    · exact .inl (.inl z)
    · exact .inr z
  refine ⟨a, bs, h1, g, h, m, fun n b us ys hb qu => ?_, ?_⟩
  · have bm : b ∈ bs := List.mem_of_getElem? hb
    have bB : b ∈ a :: bs := List.mem_cons_of_mem _ bm
    have gb := (there b (inL b bB)).2
    refine ⟨⟨Evl.Ex.refl G, fun c o p n => ?_, fun c p => ?_, fun _ _ _ n => n, fun _ z => .inl z, fun c o p => ?_⟩, ?_⟩
    · have z : c ≠ b := fun z => n (by rw [z]; exact inL b bB)
      rw [upd_ne z]; exact p
    · by_cases z : c = b
      · rw [z, upd_same] at p; cases p
      · rw [upd_ne z] at p; exact p
    · have z : c ≠ b := fun z => by rw [z, gb] at p; cases p
      rw [upd_ne z]; exact hG c o p
    · have := h4 G (upd H b (.lst us)) (.mm (xss.set n ys)) (.ref a) (a :: bs) (Evl.Ex.refl G) (fun c hc => (there c (rest c hc)).2) (fun c hc o p => by rw [upd_ne (fun z => ne c hc (by rw [z]; exact bB))]; exact p)
        ⟨a, bs, rfl, rfl, g, by rw [upd_ne (fun z => ndb.1 (by rw [z]; exact bm))]; exact h, m.put ndb.2 hb qu⟩
      rw [hi] at this
      exact this
  · have al : ∀ b ∈ a :: bs, H b ≠ none ∧ G b = none := fun b z => there b (inL b z)
    refine ⟨allG G H (a :: bs), A ++ C, ⟨allG_ex al, fun _ _ p _ => p, fun _ p => p, fun b p n z => ?_, fun b z => .inl (rest b z), allG_le hG⟩, ?_, ?_, ?_⟩
    · have q : b ∉ a :: bs := fun q => n (inL b q)
      unfold allG
      rw [if_neg q]
      exact z
    · have := h4 (allG G H (a :: bs)) H (.d (.lst (xss.map .lst))) (.ref a) [] (allG_ex al) (fun b hb => by
        unfold allG
        rw [if_neg (ne b hb)]
        exact (there b (rest b hb)).2) (fun b hb o p => p) ⟨rfl, .lst (SqL.of (allG_in a (by simp) _ h)) (m.all (allG_ex al) fun b z o q => allG_in b (List.mem_cons_of_mem _ z) o q)⟩
      rw [hi] at this
      simpa using this
    · refine List.nodup_append.mpr ⟨nd2.1, nd1.2.1, fun b hb c hc q => nd1.2.2 b (by simp [hb]) c hc q⟩
    · exact .lst (SqL.of (allG_in a (by simp) _ h)) (m.all (allG_ex al) fun b z o q => allG_in b (List.mem_cons_of_mem _ z) o q)
/-- the lists that slot i owns, from then on known -/
def eVM (i : Nat) : SE K κ where
  te := fun _ => tVar i
  ev := fun ρ => match ρ[i]? with
    | some (some (.mm xss)) => .ok (.d (.lst (xss.map .lst))) (ρ.set i (some (.d (.lst (xss.map .lst)))))
    | _ => .bad
  ok := fun Wx G H ρ σ L Q hG hE hN p => by
    dsimp only at p
    split at p
    · rename_i xss h
      obtain ⟨a, bs, h1, h2, h3, h4, _, G', L', u, e, nd, rp⟩ := hE.lists hG hN h
      exact ⟨_, h1, p.ret u e nd rp⟩
    · exact p.elim
/-- x[y].append(z), all three names; x owns lists -/
def sAppX (K' : PySem.W.Frag) (hK : K' = K) (i m j : Nat) : SS K κ where
  ts := fun Wx => tDrop (tBM K "list" rAppend (tOp (rIxL K) (tVar i) (tVar m)) (tCons (tVar j) tNil))
  sv := fun ρ => match ρ[i]?, ρ[m]?, ρ[j]? with
    | some (some (.mm xss)), some (some (.d (.int k))), some (some (.d x)) => match ixN xss.length k with
      | some n => match xss[n]? with
        | some xs => if xs.length < 1000000 then .ok .nx (ρ.set i (some (.mm (xss.set n (xs ++ [x]))))) else .bad
        | none => .bad
      | none => .bad
    | _, _, _ => .bad
  asg := []
  ok := fun Wx G H ρ σ L E hG hE hN p => by
    dsimp only at p
    split at p
    · rename_i xss k x h0 hm hj
      split at p
      · rename_i n hn
        split at p
        · rename_i xs hxs
          split at p
          · rename_i hl
            obtain ⟨a, bs, h1, h2, h3, h4, h5, _⟩ := hE.lists hG hN h0
            obtain ⟨vk, k1, k2⟩ := hE.data hm
            obtain ⟨vx, x1, x2⟩ := hE.data hj
            cases k2
            have hlen := h4.len
            have nl : n < xss.length := (List.getElem?_eq_some_iff.mp hxs).1
            obtain ⟨b, ys, vs, b1, b2, b3, b4, b5⟩ := h4.vs nl
            rw [hxs] at b2
            cases b2
            obtain ⟨st, en⟩ := h5 n b (vs ++ [vx]) (xs ++ [x]) b1 (b5.append (.cons x2 .nil))
            have hv := b5.length
            refine ⟨_, h1, _, k1, a, bs.map V.ref, k, .ref b, rfl, rfl, SqL.of h3, ?_, .inl ⟨rfl, _, SqL.of b4⟩, _, x1, b, vs, vx, rfl, rfl, b4, Nat.lt_of_lt_of_le (by omega : vs.length < 1000000) (by decide), ?_⟩
            · unfold atI
              rw [List.length_map, ← hlen, hn]
              show (bs.map V.ref)[n]? = _
              rw [List.getElem?_map, b1]
              rfl
            · exact p σ G _ L st en hN (.refl _ _)
          · exact p.elim
        · exact p.elim
      · exact p.elim
    · exact p.elim
end
end Pv

set_option maxRecDepth 100000
set_option maxHeartbeats 2000000
namespace Pv
open PySem PySem.Spec PyProof.Rows L2
section
variable {K : PySem.W.Frag} {κ : Cls}
/-- [[] for x in xs]: a new list of new lists, all one's own -/
theorem lcn_ok {it : SI K κ} {g : SG K κ} {vs : List Nat} (hv : ∀ i ∈ g.asg, i ∈ vs) {Wx : WX} {G H : Hp} {ρ : Env} {σ : St} {L : List Addr} {Q : VK} (hG : Ex G H) (hE : EnvR K κ G H ρ σ L) (hN : L.Nodup)
    (hne : ∀ c f ρ', it.ev ρ = .exc c f ρ' → ∀ dd G' H' L', Stp G H L G' H' L' → EnvR K κ G' H' ρ' σ L' → L'.Nodup → ExF K κ G' c f dd → Wx (.ref (κ.at_ c)) dd σ H') (hnb : evLc it.ev g.put (tYes' (K := K) (κ := κ)).ev (eNon (K := K) (κ := κ)).ev vs ρ ≠ .bad)
    (k : ∀ ys ρ' a bs G' H' L', evLc it.ev g.put (tYes' (K := K) (κ := κ)).ev (eNon (K := K) (κ := κ)).ev vs ρ = .ok ys ρ' → Stp G H L G' H' ((a :: bs) ++ L') → EnvR K κ G' H' ρ' σ L' → ((a :: bs) ++ L').Nodup → G' a = none → H' a = some (.lst (bs.map V.ref)) → MLs K κ G' H' (ys.map fun _ => []) bs → Q (.ref a) H') :
    tLc (it.ti Wx) g.tg tYes (tLst tNil) vs σ H Q := by
  refine it.ok Wx G H ρ σ L _ hG hE hN ?_
  unfold evLc at hnb k
  cases hi : it.ev ρ with
  | exc c f ρ1 => exact hne c f ρ1 hi
  | bad => rw [hi] at hnb; exact absurd rfl hnb
  | ok xs ρ1 =>
    rw [hi] at hnb k
    intro J G1 H1 Lw L1 u e1 y nd
    obtain ⟨rfl, y⟩ := y
    have nd : L1.Nodup := nd
    have u : Stp G H L G1 H1 L1 := u
    intro D hD
    obtain ⟨Lw, w1, w2, w3⟩ := wipe_ok (vs := vs) e1 nd
    have ndD : ([D] ++ Lw).Nodup := own_nodup hD w1 w2
    simp only [R.bind_ok] at hnb k
    refine ⟨fun i m H' => m = xs.length - i ∧ i ≤ xs.length ∧ ∃ G' L' ρ' bs acc, Ex G1 G' ∧ Stp G H L G' H' ((D :: bs) ++ L') ∧ EnvR K κ G' H' ρ' (wipe σ vs) L' ∧ ((D :: bs) ++ L').Nodup ∧ G' D = none ∧ H' D = some (.lst (bs.map V.ref)) ∧ MLs K κ G' H' (acc.map fun _ => []) bs ∧ loopC vs g.put (tYes' (K := K) (κ := κ)).ev (eNon (K := K) (κ := κ)).ev xs (wipeE ρ1 vs) [] = loopC vs g.put (tYes' (K := K) (κ := κ)).ev (eNon (K := K) (κ := κ)).ev (xs.drop i) ρ' acc,
      ⟨xs.length, by simp, Nat.zero_le _, G1, Lw, wipeE ρ1 vs, [], [], Evl.Ex.refl _, u.trans ((Stp.own u.gh hD).sub fun a z => ?_), w1.ownNew hD, ndD, fresh u.gh hD, upd_same, (show MLs K κ G1 _ (([] : List Pv.D).map fun _ => []) [] from trivial), by simp⟩, ?_⟩
    · rcases List.mem_append.mp z with z | z
      · exact List.mem_append_left _ z
      · exact List.mem_append_right _ (w3 a z)
    rintro i m H' ⟨rfl, hle, G', L', ρ', bs, acc, g1, st, e', n', gD, hD', ml, eq⟩
    have yy := y G' H' i g1 st.gh
    have nda := List.nodup_append.mp n'
    by_cases hlt : i < xs.length
    · have hx : xs[i]? = some xs[i] := List.getElem?_eq_getElem hlt
      obtain ⟨go, yd⟩ := yy.1 _ hx
      have hd : xs.drop i = xs[i] :: xs.drop (i + 1) := List.drop_eq_getElem_cons hlt
      rw [hd] at eq
      refine .inr ⟨go, fun H2 => ∃ G2 L2 ρ2 bs acc, Ex G1 G2 ∧ Stp G H L G2 H2 ((D :: bs) ++ L2) ∧ EnvR K κ G2 H2 ρ2 (wipe σ vs) L2 ∧ ((D :: bs) ++ L2).Nodup ∧ G2 D = none ∧ H2 D = some (.lst (bs.map V.ref)) ∧ MLs K κ G2 H2 (acc.map fun _ => []) bs ∧ loopC vs g.put (tYes' (K := K) (κ := κ)).ev (eNon (K := K) (κ := κ)).ev xs (wipeE ρ1 vs) [] = loopC vs g.put (tYes' (K := K) (κ := κ)).ev (eNon (K := K) (κ := κ)).ev (xs.drop (i + 1)) ρ2 acc, fun H2 z => ⟨xs.length - (i + 1), by omega, rfl, by omega, z⟩, fun v H'' hy => ?_⟩
      obtain ⟨G'', s1, rv⟩ := yd v H'' hy
      have e'' := e'.grow s1
      have st1 : Stp G H L G'' H'' ((D :: bs) ++ L') := st.trans s1.grow
      have al : ∀ b ∈ D :: bs, H' b ≠ none ∧ G' b = none := fun b z => by
        rcases List.mem_cons.mp z with rfl | z
        · exact ⟨by rw [hD']; exact Option.some_ne_none _, gD⟩
        · exact ml.there b z
      have gB1 : ∀ b ∈ D :: bs, G'' b = none := fun b z => s1.gn b (al b z).1 (fun z => nomatch z) (al b z).2
      have hB1 : ∀ b ∈ D :: bs, ∀ o, H' b = some o → H'' b = some o := fun b _ o q => s1.h b o q fun z => nomatch z
      have ml1 : MLs K κ G'' H'' (acc.map fun _ => []) bs := ml.keep s1.g (fun b z => gB1 b (List.mem_cons_of_mem _ z)) fun b z => hB1 b (List.mem_cons_of_mem _ z)
      have hD1 := hB1 D (by simp) _ hD'
      simp only [loopC] at eq
      cases hp : g.put xs[i] ρ' with
      | none => rw [hp] at eq; rw [eq] at hnb; exact absurd rfl hnb
      | some ρ2 =>
        rw [hp] at eq
        refine g.ok G'' H'' ρ' ρ2 _ L' v _ _ s1.gh e'' nda.2.1 rv hp fun σ2 L2 e2 n2 s2 k2 => ?_
        have len2 : σ2.length = σ.length := k2.1.trans (wipe_length σ vs)
        have wk : wipe σ2 vs = wipe σ vs := wipe_keep len2 fun j nj => k2.2 j fun z => nj (hv j z)
        refine ⟨wk, ?_⟩
        have st2 : Stp G H L G'' H'' ((D :: bs) ++ L2) := st1.sub fun a z => by
          rcases List.mem_append.mp z with z | z
          · exact List.mem_append_left _ z
          · exact List.mem_append_right _ (s2 a z)
        have nB2 : ∀ b ∈ D :: bs, b ∉ L2 := fun b z q => nda.2.2 b z b (s2 b q) rfl
        have ty : (tYes' (K := K) (κ := κ)).ev ρ2 = .ok true ρ2 := rfl
        have en : (eNon (K := K) (κ := κ)).ev ρ2 = .ok (.d .non) ρ2 := rfl
        dsimp only at eq
        rw [ty] at eq
        dsimp only at eq
        rw [en] at eq
        dsimp only at eq
        by_cases hz : acc.length < 1000000
        · rw [if_pos hz] at eq
          refine ⟨Nat.zero_le _, fun p hp2 => ?_⟩
          have pD : p ≠ D := fun z => by rw [z, hD1] at hp2; cases hp2
          have hl : bs.length = acc.length := by rw [← ml.len, List.length_map]
          refine ⟨bs.map V.ref, by rw [upd_ne (Ne.symm pD)]; exact hD1, Nat.lt_of_lt_of_le (by rw [List.length_map]; omega : (bs.map V.ref).length < 1000000) (by decide), ?_⟩
          obtain ⟨L5, w1, w2, w3⟩ := wipe_ok (vs := vs) e2 n2
          rw [wk] at w1
          have pB : p ∉ D :: bs := fun z => by
            have := hB1 p z
            have q := (al p z).1
            cases h : H' p with
            | none => exact q h
            | some o => rw [this o h] at hp2; cases hp2
          have pL2 : p ∉ L2 := fun z => (e2.there p z).1 hp2
          have gp : G'' p = none := fresh s1.gh hp2
          have em : bs.map V.ref ++ [V.ref p] = (bs ++ [p]).map V.ref := by simp
          have s5 : Stp G'' H'' ((D :: bs) ++ L2) G'' (upd (upd H'' p (.lst [])) D (.lst (bs.map V.ref ++ [V.ref p]))) ((D :: (bs ++ [p])) ++ L5) := by
            refine ⟨Evl.Ex.refl _, fun b o q n => ?_, fun b q => ?_, fun _ _ _ q => q, fun b z => ?_, fun b o q => ?_⟩
            · rw [upd_ne (fun z => n (by simp [z])), upd_ne (fun z => by rw [z, hp2] at q; cases q)]
              exact q
            · by_cases z : b = D
              · rw [z, upd_same] at q; cases q
              · rw [upd_ne z] at q
                by_cases z2 : b = p
                · rw [z2, upd_same] at q; cases q
                · rw [upd_ne z2] at q; exact q
            · have : b = p ∨ b ∈ (D :: bs) ++ L2 := by
                rcases List.mem_append.mp z with z | z
                · rcases List.mem_cons.mp z with z | z
                  · exact .inr (List.mem_append_left _ (by simp [z]))
                  · rcases List.mem_append.mp z with z | z
                    · exact .inr (List.mem_append_left _ (List.mem_cons_of_mem _ z))
                    · exact .inl (List.mem_singleton.mp z)
                · exact .inr (List.mem_append_right _ (w3 b z))
              rcases this with rfl | z
              · exact .inr hp2
              · exact .inl z
            · have z : b ≠ D := fun z => by rw [z, gB1 D (by simp)] at q; cases q
              have z2 : b ≠ p := fun z => by rw [z, gp] at q; cases q
              rw [upd_ne z, upd_ne z2]
              exact s1.gh b o q
          have kp : ∀ b, b ≠ D → b ≠ p → ∀ o, H'' b = some o → upd (upd H'' p (.lst [])) D (.lst (bs.map V.ref ++ [V.ref p])) b = some o := fun b z1 z2 o q => by
            rw [upd_ne z1, upd_ne z2]; exact q
          have nD : D ∉ bs := (List.nodup_cons.mp nda.1).1
          have ml2 : MLs K κ G'' (upd (upd H'' p (.lst [])) D (.lst (bs.map V.ref ++ [V.ref p]))) ((acc ++ [Pv.D.non]).map fun _ => []) (bs ++ [p]) := by
            rw [List.map_append]
            refine (ml1.keep (Evl.Ex.refl _) (fun b z => gB1 b (List.mem_cons_of_mem _ z)) fun b z o q => kp b (fun w => nD (by rw [← w]; exact z)) (fun w => pB (by rw [← w]; exact List.mem_cons_of_mem _ z)) o q).snoc (vs := []) gp ?_ .nil
            rw [upd_ne pD, upd_same]
          refine ⟨G'', L5, wipeE ρ2 vs, bs ++ [p], acc ++ [Pv.D.non], g1.trans s1.g, st2.trans s5, w1.keep (Evl.Ex.refl _) (fun a z => (w1.there a z).2) (fun a z o q => kp a (fun w => nB2 D (by simp) (w3 D (by rw [← w]; exact z))) (fun w => pL2 (by rw [← w]; exact w3 a z)) o q), List.nodup_append.mpr ⟨?_, w2, fun a x b y z => ?_⟩, gB1 D (by simp), by rw [upd_same, em], ml2, eq⟩
          · refine List.nodup_cons.mpr ⟨fun z => ?_, ?_⟩
            · rcases List.mem_append.mp z with z | z
              · exact nD z
              · exact pD (List.mem_singleton.mp z).symm
            · refine List.nodup_append.mpr ⟨(List.nodup_cons.mp nda.1).2, by simp, fun a x b y z => ?_⟩
              rw [List.mem_singleton] at y
              exact pB (by rw [← y, ← z]; exact List.mem_cons_of_mem _ x)
          · subst z
            rcases List.mem_cons.mp x with x | x
            · exact nB2 a (by simp [x]) (w3 _ y)
            · rcases List.mem_append.mp x with x | x
              · exact nB2 a (List.mem_cons_of_mem _ x) (w3 _ y)
              · rw [List.mem_singleton] at x
                exact pL2 (by rw [← x]; exact w3 _ y)
        · rw [if_neg hz] at eq
          rw [eq] at hnb
          exact absurd rfl hnb
    · have hi' : i = xs.length := by omega
      subst hi'
      rw [List.drop_length] at eq
      refine .inl ⟨yy.2 (Nat.le_refl _), ?_⟩
      have eq' : loopC vs g.put (tYes' (K := K) (κ := κ)).ev (eNon (K := K) (κ := κ)).ev xs (wipeE ρ1 vs) [] = .ok acc ρ' := eq
      rw [eq'] at k
      obtain ⟨L2, k1, k2, k3⟩ := unw_ok e' nda.2.1
      refine k acc (unwE ρ' vs) D bs G' H' L2 rfl (st.sub fun a z => ?_) k1 (List.nodup_append.mpr ⟨nda.1, k2, fun a x b y => nda.2.2 a x b (k3 b y)⟩) gD hD' ml
      rcases List.mem_append.mp z with z | z
      · exact List.mem_append_left _ z
      · exact List.mem_append_right _ (k3 a z)
def eLcN (it : SI K κ) (g : SG K κ) (vs : List Nat) (hv : ∀ i ∈ g.asg, i ∈ vs) : SE K κ where
  te := fun Wx => tLc (it.ti Wx) g.tg tYes (tLst tNil) vs
  ev := fun ρ => (evLc it.ev g.put (tYes' (K := K) (κ := κ)).ev (eNon (K := K) (κ := κ)).ev vs ρ).bind fun ys ρ => .ok (.mm (ys.map fun _ => [])) ρ
  ok := fun Wx G H ρ σ L Q hG hE hN p => by
    dsimp only at p
    refine lcn_ok hv hG hE hN (fun c f ρ' h => ?_) (fun h => ?_) fun ys ρ' a bs G' H' L' h st en nd ga ha ml => ?_
    · rw [evLc_of h] at p; exact p
    · rw [h] at p; exact p
    · rw [h] at p
      exact p (.ref a) G' H' (a :: bs) L' st en ⟨a, bs, rfl, rfl, ga, ha, ml⟩ nd
end
end Pv

set_option maxRecDepth 100000
set_option maxHeartbeats 2000000
namespace Pv
open PySem PySem.Spec PyProof.Rows L2
/-! ### reversed(xs), xs.index(n), x[i] -= n, a comprehension that looks at owned lists -/
theorem pget_list {X : Cx} : PGet X (rIxL X.K) := by
  intro pins s σ H o i ov iv Q I rx ry h
  obtain ⟨p, xs, i, z, rfl, rfl, hq, he, q⟩ := h
  cases rx
  obtain ⟨t, rfl⟩ := ry
  obtain ⟨its, r, pl, hz⟩ := I.list hq
  obtain ⟨j, h1, h2, h3, h4, h5⟩ := atI_get he
  obtain ⟨w, ew, rw'⟩ := r.get h2
  have hl := r.length
  have hn := line63
  have fin : EP X pins σ Q w s := ⟨z, H, I, rw', q⟩
  by_cases h0 : 0 ≤ i
  · have hj : i.toNat = j := by
      rw [seqIndex_of h0 h5] at h1
      exact Option.some.inj h1
    exact wpAny_getItem_list pl.isList h0 (by omega) (by rw [hj]; simpa using ew) fin
  · have hj : (i + (its.toArray.size : Int)).toNat = j := by
      rw [seqIndex_neg (by omega) h4] at h1
      rw [List.size_toArray, ← hl]
      exact Option.some.inj h1
    exact wpAny_getItem_list_neg pl.isList (by omega) (by rw [List.size_toArray] <;> omega) (by omega) (by rw [hj]; simpa using ew) fin
section
variable {K : PySem.W.Frag} {κ : Cls}
theorem yl_rev {G : Hp} {a : Addr} {vs : List V} {xs : List D} (h : SqL K G a vs) (r : RpAll K κ G vs xs) : Yl K κ (Itv K a vs.length) G xs.reverse := fun G' H' i g gh => by
  have hl := r.length
  refine ⟨fun x e => ?_, fun n => by rw [List.length_reverse] at n; show vs.length ≤ i; omega⟩
  have hi : i < xs.length := by
    have := (List.getElem?_eq_some_iff.mp e).1
    rwa [List.length_reverse] at this
  rw [List.getElem?_reverse hi] at e
  obtain ⟨v, hv, rv⟩ := r.get e
  have ix : xs.length - 1 - i = vs.length - 1 - i := by rw [hl]
  rw [ix] at hv
  refine ⟨⟨by omega, vs, v, ex_l (g.trans gh) h, hv⟩, fun u H'' y => ?_⟩
  obtain ⟨rfl, y⟩ := y
  have := y vs (ex_l (g.trans gh) h)
  rw [hv] at this
  cases this
  exact ⟨G', .refl0 gh, rv.mono g⟩
/-- reversed(xs) of a list -/
def iRevL (a : SE K κ) : SI K κ where
  ti := fun Wx => RT.iRevA K (a.te Wx)
  ev := fun ρ => (a.ev ρ).bindD fun x ρ => match x with
    | .lst xs => .ok xs.reverse ρ
    | _ => .bad
  ok := fun Wx G H ρ σ L Q hG hE hN p => a.ok.then hG hE hN p fun x vx ρ1 G1 H1 L1 u1 e1 n1 r1 p => by
    cases r1 with
    | lst hs ra => exact ⟨_, _, rfl, .inl ⟨ex_l u1.gh hs, p _ G1 H1 [] L1 (.refl u1.gh) e1 ⟨rfl, yl_rev hs ra⟩ n1⟩⟩
    | _ => exact p.elim
theorem flatV_ints : ∀ is : List Int, (is.map V.int).all flatV = true
  | [] => rfl
  | i :: is => by rw [List.map_cons, List.all_cons, flatV_ints is]; rfl
theorem idx_first {i : Int} : ∀ {is : List Int}, i ∈ is → is[is.idxOf i]? = some i ∧ ∀ (m : Nat) (j : Int), m < is.idxOf i → is[m]? = some j → j ≠ i
  | k :: is, h => by
    by_cases e : k = i
    · subst e
      rw [List.idxOf_cons_self]
      exact ⟨rfl, fun m j hm _ => by omega⟩
    · have h' : i ∈ is := by
        rcases List.mem_cons.mp h with rfl | h
        · exact absurd rfl e
        · exact h
      obtain ⟨a, b⟩ := idx_first h'
      have ee : (k :: is).idxOf i = is.idxOf i + 1 := by
        have : (k == i) = false := by simpa using e
        rw [List.idxOf_cons, this]
        rfl
      rw [ee]
      refine ⟨by simpa using a, fun m j hm hj => ?_⟩
      cases m with
      | zero =>
        simp only [List.getElem?_cons_zero, Option.some.injEq] at hj
        rw [← hj]
        exact e
      | succ m => exact b m j (by omega) (by simpa using hj)
/-- xs.index(n): numbers -/
def eIdx (a b : SE K κ) : SE K κ where
  te := fun Wx => tBM K "list" (rIndex K) (a.te Wx) (tCons (b.te Wx) tNil)
  ev := fun ρ => (a.ev ρ).bindD fun x ρ => match x with
    | .lst xs => (b.ev ρ).bindD fun y ρ => match y with
      | .int i => match numsOf xs with
        | some is => if i ∈ is then .ok (.d (.int (is.idxOf i : Nat))) ρ else .bad
        | none => .bad
      | _ => .bad
    | _ => .bad
  ok := fun Wx G H ρ σ L Q hG hE hN p => a.ok.then hG hE hN p fun x vx ρ1 G1 H1 L1 u1 e1 n1 r1 p => by
    cases r1 with
    | @lst a1 us xs hs ra =>
      refine ⟨.inl ⟨rfl, _, ex_l u1.gh hs⟩, b.ok.then u1.gh e1 n1 p fun y vy ρ2 G2 H2 L2 u2 e2 n2 r2 p => ?_⟩
      cases r2 with
      | int i =>
        dsimp only at p
        cases hn : numsOf xs with
        | none => rw [hn] at p; exact p.elim
        | some is =>
          rw [hn] at p
          have ev := numsOf_ok ra hn
          subst ev
          dsimp only at p
          by_cases hm : i ∈ is
          · rw [if_pos hm] at p
            obtain ⟨f1, f2⟩ := idx_first hm
            refine ⟨a1, is.map V.int, .int i, is.idxOf i, .int i, rfl, rfl, ex_l (u2.g.trans u2.gh) hs, rfl, flatV_ints is, by rw [List.getElem?_map, f1]; rfl, by simp [eqV], fun m z hlt hz => ?_, p.ret (.refl u2.gh) e2 n2 (.int _)⟩
            rw [List.getElem?_map] at hz
            cases hj : is[m]? with
            | none => rw [hj] at hz; cases hz
            | some j =>
              rw [hj] at hz
              cases hz
              have := f2 m j hlt hj
              show (j == i) = false
              simpa using this
          · rw [if_neg hm] at p
            exact p.elim
      | _ => exact p.elim
    | _ => exact p.elim
theorem RpAll.f0 {G G' : Hp} : ∀ {vs : List V} {xs : List D}, RpAll K κ G vs xs → xs.all D.f0 = true → RpAll K κ G' vs xs
  | _, _, .nil, _ => .nil
  | _, _, .cons h r, e => by
    rw [List.all_cons, Bool.and_eq_true] at e
    exact .cons (h.f0 e.1) (RpAll.f0 r e.2)
/-- [e for x in xs if t] with a look at what is owned: flat items -/
def eLcP (it : SI K κ) (g : SG K κ) (t : ST K κ) (e : SE K κ) (vs : List Nat) (hv : ∀ i ∈ g.asg, i ∈ vs) : SE K κ where
  te := fun Wx => tLc (it.ti Wx) g.tg (t.tt W0) (e.te W0) vs
  ev := fun ρ => match evLc it.ev g.put t.ev e.ev vs (peekE ρ) with
    | .ok ys _ => if ys.all D.f0 = true then .ok (.d (.lst ys)) ρ else .bad
    | _ => .bad
  ok := fun Wx G H ρ σ L Q hG hE hN p => by
    dsimp only at p
    refine lc_ok hv (allG_le hG) (hE.peek (allG_ex hE.there) allG_in) List.nodup_nil (fun c f ρ' h => ?_) (fun h => ?_) fun ys ρ' a us G' H' L' h st en nd ga ha ra => ?_
    · rw [evLc_of h] at p; exact p.elim
    · rw [h] at p; exact p.elim
    · rw [h] at p
      dsimp only at p
      split at p
      · rename_i hf
        have na : H a = none := (st.ln a (by simp)).elim (fun z => nomatch z) id
        have ga0 : G a = none := fresh hG na
        have nb : ∀ b, H b ≠ none → b ≠ a := fun b z w => z (by rw [w]; exact na)
        refine p (.ref a) (upd G a (.lst us)) H' [] L ⟨Evl.Ex.new ga0, fun b o q _ => st.h b o q (fun z => nomatch z), st.t, fun b z _ q => by rw [upd_ne (nb b z)]; exact q, fun b z => .inl z, fun b o q => ?_⟩
          (hE.keep (Evl.Ex.new ga0) (fun b z => by rw [upd_ne (nb b (hE.there b z).1)]; exact (hE.there b z).2) fun b z o q => st.h b o q (fun z => nomatch z)) ⟨rfl, .lst (SqL.of upd_same) (ra.f0 hf)⟩ hN
        by_cases w : b = a
        · rw [w, upd_same] at q
          rw [w, ha]
          exact q
        · rw [upd_ne w] at q
          exact st.h b o (hG b o q) fun z => nomatch z
      · exact p.elim
/-- x[y] -= z, all three names; x owns a list, of whole numbers at y -/
def sSubX (i m j : Nat) : SS K κ where
  ts := fun Wx => tAugS (tVar i) (tVar m) (tVar j) (rIxL K) (ipI fun i j => i - j) rSetL
  sv := fun ρ => match ρ[i]?, ρ[m]?, ρ[j]? with
    | some (some (.ml xs)), some (some (.d (.int k))), some (some (.d (.int c))) => match ixN xs.length k with
      | some n => match xs[n]? with
        | some (.int x) => .ok .nx (ρ.set i (some (.ml (xs.set n (.int (x - c))))))
        | _ => .bad
      | none => .bad
    | _, _, _ => .bad
  asg := []
  ok := fun Wx G H ρ σ L E hG hE hN p => by
    dsimp only at p
    split at p
    · rename_i xs k c h0 hm hj
      split at p
      · rename_i n hn
        split at p
        · rename_i x hx
          obtain ⟨a, vs, h1, h2, h3, h4, h5, h6, _⟩ := hE.list hG hN h0
          obtain ⟨vk, k1, k2⟩ := hE.data hm
          obtain ⟨vc, c1, c2⟩ := hE.data hj
          cases k2
          cases c2
          have hl := h4.length
          obtain ⟨v, hv, rv⟩ := h4.get hx
          cases rv
          obtain ⟨st, en⟩ := h6 (vs.set n (.int (x - c))) (xs.set n (.int (x - c))) (h4.set (.int _) n)
          refine ⟨_, h1, _, k1, a, vs, k, .int x, rfl, rfl, SqL.of h3, ?_, _, c1, x, c, rfl, rfl, a, vs, k, n, rfl, rfl, h3, by rw [hl]; exact hn, p σ G _ L st en hN (.refl _ _)⟩
          unfold atI
          rw [hl, hn]
          exact hv
        · exact p.elim
      · exact p.elim
    · exact p.elim
end
end Pv

set_option maxRecDepth 100000
set_option maxHeartbeats 2000000
namespace Pv
open PySem PySem.Spec PyProof.Rows L2
/-! ### [e for x in xs for y in ys] -/
section
variable {K : PySem.W.Frag} {κ : Cls}
def yesE : Env → R Env Bool := fun ρ => .ok true ρ
/-- the inner walk: items of it go behind what stands at D -/
theorem in_ok {it : SI K κ} {g : SG K κ} {e : SE K κ} {vs : List Nat} (hv : ∀ i ∈ g.asg, i ∈ vs) {G H : Hp} {ρ : Env} {σ : St} {L : List Addr} {D : Addr} {us : List V} {acc : List Pv.D} {Nx : Hp → Prop} {xs : List Pv.D} {ρ1 : Env}
    (hG : Ex G H) (hE : EnvR K κ G H ρ σ L) (hN : ([D] ++ L).Nodup) (gD : G D = none) (hD : H D = some (.lst us)) (ra : RpAll K κ G us acc) (hi : it.ev ρ = .ok xs ρ1) {ys : List Pv.D} {ρ' : Env}
    (hl : loopC vs g.put yesE e.ev xs (wipeE ρ1 vs) acc = .ok ys ρ')
    (k : ∀ us' G' H' L', Stp G H ([D] ++ L) G' H' ([D] ++ L') → EnvR K κ G' H' ρ' (wipe σ vs) L' → ([D] ++ L').Nodup → G' D = none → H' D = some (.lst us') → RpAll K κ G' us' ys → Nx H') :
    it.ti W0 σ H fun J1 H4 => ∃ W1 : Nat → Nat → Hp → Prop, (∃ m, W1 0 m H4) ∧ ∀ j k H, W1 j k H →
      (J1.stop j H ∧ Nx H) ∨ (J1.go j H ∧ ∃ Nx1 : Hp → Prop, (∀ H', Nx1 H' → ∃ k', k' < k ∧ W1 (j + 1) k' H') ∧ ∀ x H', J1.yld j H x H' → g.tg x (wipe σ vs) H' fun σ3 H5 => wipe σ3 vs = wipe σ vs ∧ tYes σ3 H5 fun b H6 =>
        if b = true then (e.te W0) σ3 H6 fun y H7 => ∃ acc, H7 D = some (.lst acc) ∧ acc.length < sizeLine ∧ Nx1 (upd H7 D (.lst (acc ++ [y]))) else Nx1 H6) := by
  have ndL := List.nodup_append.mp hN
  refine it.ok W0 G H ρ σ L _ hG hE ndL.2.1 ?_
  rw [hi]
  intro J G1 H1 Lw L1 u e1 y nd
  obtain ⟨rfl, y⟩ := y
  have nd : L1.Nodup := nd
  have u : Stp G H L G1 H1 L1 := u
  have DL : D ∉ L := fun z => ndL.2.2 D (by simp) D z rfl
  have DL1 : D ∉ L1 := fun z => (u.ln D z).elim DL fun q => by rw [hD] at q; cases q
  have gD1 : G1 D = none := u.gn D (by rw [hD]; exact Option.some_ne_none _) DL gD
  have hD1 : H1 D = some (.lst us) := u.h D _ hD DL
  obtain ⟨Lw, w1, w2, w3⟩ := wipe_ok (vs := vs) e1 nd
  have ndD : ([D] ++ Lw).Nodup := List.nodup_append.mpr ⟨by simp, w2, fun a x b y z => by
    simp only [List.mem_singleton] at x
    subst x z
    exact DL1 (w3 _ y)⟩
  refine ⟨fun i m H' => m = xs.length - i ∧ i ≤ xs.length ∧ ∃ G' L' ρ' us acc', Ex G1 G' ∧ Stp G H ([D] ++ L) G' H' ([D] ++ L') ∧ EnvR K κ G' H' ρ' (wipe σ vs) L' ∧ ([D] ++ L').Nodup ∧ G' D = none ∧ H' D = some (.lst us) ∧ RpAll K κ G' us acc' ∧ loopC vs g.put yesE e.ev xs (wipeE ρ1 vs) acc = loopC vs g.put yesE e.ev (xs.drop i) ρ' acc',
    ⟨xs.length, by simp, Nat.zero_le _, G1, Lw, wipeE ρ1 vs, us, acc, Evl.Ex.refl _, u.wide (fun a z => List.mem_append_right _ z) (fun a z => ?_), w1, ndD, gD1, hD1, ra.mono u.g, by simp⟩, ?_⟩
  · rcases List.mem_append.mp z with z | z
    · exact .inr (List.mem_append_left _ z)
    · exact .inl (w3 a z)
  rintro i m H' ⟨rfl, hle, G', L', ρ2', us, acc', g1, st, e', n', gD, hD', ra, eq⟩
  have yy := y G' H' i g1 st.gh
  have nda := List.nodup_append.mp n'
  by_cases hlt : i < xs.length
  · have hx : xs[i]? = some xs[i] := List.getElem?_eq_getElem hlt
    obtain ⟨go, yd⟩ := yy.1 _ hx
    have hd : xs.drop i = xs[i] :: xs.drop (i + 1) := List.drop_eq_getElem_cons hlt
    rw [hd] at eq
    refine .inr ⟨go, fun H2 => ∃ G2 L2 ρ2 us acc', Ex G1 G2 ∧ Stp G H ([D] ++ L) G2 H2 ([D] ++ L2) ∧ EnvR K κ G2 H2 ρ2 (wipe σ vs) L2 ∧ ([D] ++ L2).Nodup ∧ G2 D = none ∧ H2 D = some (.lst us) ∧ RpAll K κ G2 us acc' ∧ loopC vs g.put yesE e.ev xs (wipeE ρ1 vs) acc = loopC vs g.put yesE e.ev (xs.drop (i + 1)) ρ2 acc', fun H2 z => ⟨xs.length - (i + 1), by omega, rfl, by omega, z⟩, fun v H'' hy => ?_⟩
    obtain ⟨G'', s1, rv⟩ := yd v H'' hy
    have e'' := e'.grow s1
    have st1 : Stp G H ([D] ++ L) G'' H'' ([D] ++ L') := st.trans s1.grow
    have gD1 : G'' D = none := s1.gn D (by rw [hD']; exact Option.some_ne_none _) (fun z => nomatch z) gD
    have hD1 : H'' D = some (.lst us) := s1.h D _ hD' fun z => nomatch z
    have ra1 := ra.mono s1.g
    simp only [loopC] at eq
    cases hp : g.put xs[i] ρ2' with
    | none => rw [hp] at eq; rw [eq] at hl; cases hl
    | some ρ2 =>
      rw [hp] at eq
      refine g.ok G'' H'' ρ2' ρ2 _ L' v _ _ s1.gh e'' nda.2.1 rv hp fun σ2 L2 e2 n2 s2 k2 => ?_
      have len2 : σ2.length = σ.length := k2.1.trans (wipe_length σ vs)
      have wk : wipe σ2 vs = wipe σ vs := wipe_keep len2 fun j nj => k2.2 j fun z => nj (hv j z)
      refine ⟨wk, ?_⟩
      have st3 : Stp G H ([D] ++ L) G'' H'' ([D] ++ L2) := st1.sub fun a z => by
        rcases List.mem_append.mp z with z | z
        · exact List.mem_append_left _ z
        · exact List.mem_append_right _ (s2 a z)
      have nD3 : D ∉ L2 := fun z => nda.2.2 D (by simp) D (s2 D z) rfl
      dsimp only [yesE] at eq
      change e.te W0 σ2 H'' _
      refine e.ok W0 G'' H'' ρ2 σ2 L2 _ s1.gh e2 n2 ?_
      cases he : e.ev ρ2 with
      | exc c f ρ4 => rw [he] at eq; rw [eq] at hl; cases hl
      | bad => rw [he] at eq; rw [eq] at hl; cases hl
      | ok w ρ4 =>
        rw [he] at eq
        cases w with
        | ml _ => rw [eq] at hl; cases hl
        | md _ => rw [eq] at hl; cases hl
        | mm _ => rw [eq] at hl; cases hl
        | d yy' =>
          dsimp only at eq
          by_cases hz : acc'.length < 1000000
          · rw [if_pos hz] at eq
            intro v4 G4 H4 Lx L4 s4 e4 r4 n4
            obtain ⟨rfl, r4⟩ := r4
            have s4 : Stp G'' H'' L2 G4 H4 L4 := s4
            have n4 : L4.Nodup := n4
            have nD4 : D ∉ L4 := fun z => (s4.ln D z).elim nD3 fun q => by rw [hD1] at q; cases q
            have st4 : Stp G H ([D] ++ L) G4 H4 ([D] ++ L4) := st3.trans (s4.wide (fun a z => List.mem_append_right _ z) fun a z => by
              rcases List.mem_append.mp z with z | z
              · exact .inr (List.mem_append_left _ z)
              · exact .inl z)
            have gD4 : G4 D = none := s4.gn D (by rw [hD1]; exact Option.some_ne_none _) nD3 gD1
            have hD4 : H4 D = some (.lst us) := s4.h D _ hD1 nD3
            have ra4 := (ra1.mono s4.g).append (.cons r4 .nil)
            have hl2 := ra.length
            refine ⟨us, hD4, Nat.lt_of_lt_of_le (by omega : us.length < 1000000) (by decide), ?_⟩
            obtain ⟨L5, w1, w2, w3⟩ := wipe_ok (vs := vs) e4 n4
            rw [wk] at w1
            have nD5 : D ∉ L5 := fun z => nD4 (w3 D z)
            have s5 : Stp G4 H4 ([D] ++ L4) G4 (upd H4 D (.lst (us ++ [v4]))) ([D] ++ L5) := by
              refine ⟨Evl.Ex.refl _, fun b o q n => ?_, fun b q => ?_, fun _ _ _ q => q, fun b z => ?_, fun b o q => ?_⟩
              · rw [upd_ne (fun z => n (by simp [z]))]; exact q
              · by_cases z : b = D
                · rw [z, upd_same] at q; cases q
                · rw [upd_ne z] at q; exact q
              · rcases List.mem_append.mp z with z | z
                · exact .inl (List.mem_append_left _ z)
                · exact .inl (List.mem_append_right _ (w3 b z))
              · have z : b ≠ D := fun z => by rw [z, gD4] at q; cases q
                rw [upd_ne z]; exact s4.gh b o q
            refine ⟨G4, L5, wipeE ρ4 vs, us ++ [v4], acc' ++ [yy'], g1.trans (s1.g.trans s4.g), st4.trans s5, w1.keep (Evl.Ex.refl _) (fun a z => (w1.there a z).2) (fun a z o q => ?_), List.nodup_append.mpr ⟨by simp, w2, fun a x b y z => ?_⟩, gD4, upd_same, ra4, eq⟩
            · rw [upd_ne (fun q => nD5 (by rw [← q]; exact z))]; exact q
            · simp only [List.mem_singleton] at x
              subst x z
              exact nD5 y
          · rw [if_neg hz] at eq
            rw [eq] at hl
            cases hl
  · have hi' : i = xs.length := by omega
    subst hi'
    rw [List.drop_length] at eq
    refine .inl ⟨yy.2 (Nat.le_refl _), ?_⟩
    have eq' : loopC vs g.put yesE e.ev xs (wipeE ρ1 vs) acc = .ok acc' ρ2' := eq
    rw [hl] at eq'
    cases eq'
    exact k us G' H' L' st e' n' gD hD' ra
def loopC2 (vs vs1 : List Nat) (put : D → Env → Option Env) (it1 : Env → R Env (List D)) (put1 : D → Env → Option Env) (e : Env → R Env W) : List D → Env → List D → R Env (List D)
  | [], ρ, acc => .ok acc ρ
  | x :: xs, ρ, acc => match put x ρ with
    | none => .bad
    | some ρ1 => match it1 ρ1 with
      | .ok ys ρ2 => match loopC vs1 put1 yesE e ys (wipeE ρ2 vs1) acc with
        | .ok acc' ρ3 => loopC2 vs vs1 put it1 put1 e xs (wipeE ρ3 vs) acc'
        | _ => .bad
      | _ => .bad
def evLc2 (it : Env → R Env (List D)) (put : D → Env → Option Env) (it1 : Env → R Env (List D)) (put1 : D → Env → Option Env) (e : Env → R Env W) (vs vs1 : List Nat) : Env → R Env (List D) := fun ρ =>
  (it ρ).bind fun xs ρ => (loopC2 vs vs1 put it1 put1 e xs (wipeE ρ vs) []).bind fun ys ρ => .ok ys (unwE ρ vs)
theorem wipe_sub {σ : St} {vs vs1 : List Nat} (h : ∀ i ∈ vs1, i ∈ vs) : wipe (wipe σ vs1) vs = wipe σ vs := wipe_keep (wipe_length σ vs1) fun i n => by rw [wipe_ne n, wipe_ne fun z => n (h i z)]
theorem loopC2_noexc {vs vs1 : List Nat} {put : D → Env → Option Env} {it1 : Env → R Env (List D)} {put1 : D → Env → Option Env} {e : Env → R Env W} : ∀ {xs : List D} {ρ : Env} {acc : List D} {c : Nat} {f : Option D} {ρ' : Env}, loopC2 vs vs1 put it1 put1 e xs ρ acc ≠ .exc c f ρ'
  | [], _, _, _, _, _, h => by cases h
  | x :: xs, ρ, acc, c, f, ρ', h => by
    simp only [loopC2] at h
    split at h
    · cases h
    · split at h
      · split at h
        · exact loopC2_noexc h
        · cases h
      · cases h
theorem lc2_ok {it : SI K κ} {g : SG K κ} {it1 : SI K κ} {g1 : SG K κ} {e : SE K κ} {vs vs1 : List Nat} (hv : ∀ i ∈ g.asg, i ∈ vs) (hv1 : ∀ i ∈ g1.asg, i ∈ vs1) (hs : ∀ i ∈ vs1, i ∈ vs) {Wx : WX} {G H : Hp} {ρ : Env} {σ : St} {L : List Addr} {Q : VK} (hG : Ex G H) (hE : EnvR K κ G H ρ σ L) (hN : L.Nodup)
    (hne : ∀ c f ρ', it.ev ρ = .exc c f ρ' → ∀ dd G' H' L', Stp G H L G' H' L' → EnvR K κ G' H' ρ' σ L' → L'.Nodup → ExF K κ G' c f dd → Wx (.ref (κ.at_ c)) dd σ H') (hnb : evLc2 it.ev g.put it1.ev g1.put e.ev vs vs1 ρ ≠ .bad)
    (k : ∀ ys ρ' a us G' H' L', evLc2 it.ev g.put it1.ev g1.put e.ev vs vs1 ρ = .ok ys ρ' → Stp G H L G' H' ([a] ++ L') → EnvR K κ G' H' ρ' σ L' → ([a] ++ L').Nodup → G' a = none → H' a = some (.lst us) → RpAll K κ G' us ys → Q (.ref a) H') :
    tLc2 (it.ti Wx) g.tg tYes (it1.ti W0) g1.tg tYes (e.te W0) vs vs1 σ H Q := by
  refine it.ok Wx G H ρ σ L _ hG hE hN ?_
  unfold evLc2 at hnb k
  cases hi : it.ev ρ with
  | exc c f ρ1 => exact hne c f ρ1 hi
  | bad => rw [hi] at hnb; exact absurd rfl hnb
  | ok xs ρ1 =>
    rw [hi] at hnb k
    intro J G1 H1 Lw L1 u e1 y nd
    obtain ⟨rfl, y⟩ := y
    have nd : L1.Nodup := nd
    have u : Stp G H L G1 H1 L1 := u
    intro D hD
    obtain ⟨Lw, w1, w2, w3⟩ := wipe_ok (vs := vs) e1 nd
    have ndD : ([D] ++ Lw).Nodup := own_nodup hD w1 w2
    simp only [R.bind_ok] at hnb k
    refine ⟨fun i m H' => m = xs.length - i ∧ i ≤ xs.length ∧ ∃ G' L' ρ' us acc, Ex G1 G' ∧ Stp G H L G' H' ([D] ++ L') ∧ EnvR K κ G' H' ρ' (wipe σ vs) L' ∧ ([D] ++ L').Nodup ∧ G' D = none ∧ H' D = some (.lst us) ∧ RpAll K κ G' us acc ∧ loopC2 vs vs1 g.put it1.ev g1.put e.ev xs (wipeE ρ1 vs) [] = loopC2 vs vs1 g.put it1.ev g1.put e.ev (xs.drop i) ρ' acc,
      ⟨xs.length, by simp, Nat.zero_le _, G1, Lw, wipeE ρ1 vs, [], [], Evl.Ex.refl _, u.trans ((Stp.own u.gh hD).sub fun a z => ?_), w1.ownNew hD, ndD, fresh u.gh hD, upd_same, .nil, by simp⟩, ?_⟩
    · rcases List.mem_append.mp z with z | z
      · exact List.mem_append_left _ z
      · exact List.mem_append_right _ (w3 a z)
    rintro i m H' ⟨rfl, hle, G', L', ρ', us, acc, g1', st, e', n', gD, hD', ra, eq⟩
    have yy := y G' H' i g1' st.gh
    have nda := List.nodup_append.mp n'
    by_cases hlt : i < xs.length
    · have hx : xs[i]? = some xs[i] := List.getElem?_eq_getElem hlt
      obtain ⟨go, yd⟩ := yy.1 _ hx
      have hd : xs.drop i = xs[i] :: xs.drop (i + 1) := List.drop_eq_getElem_cons hlt
      rw [hd] at eq
      refine .inr ⟨go, fun H2 => ∃ G2 L2 ρ2 us acc, Ex G1 G2 ∧ Stp G H L G2 H2 ([D] ++ L2) ∧ EnvR K κ G2 H2 ρ2 (wipe σ vs) L2 ∧ ([D] ++ L2).Nodup ∧ G2 D = none ∧ H2 D = some (.lst us) ∧ RpAll K κ G2 us acc ∧ loopC2 vs vs1 g.put it1.ev g1.put e.ev xs (wipeE ρ1 vs) [] = loopC2 vs vs1 g.put it1.ev g1.put e.ev (xs.drop (i + 1)) ρ2 acc, fun H2 z => ⟨xs.length - (i + 1), by omega, rfl, by omega, z⟩, fun v H'' hy => ?_⟩
      obtain ⟨G'', s1, rv⟩ := yd v H'' hy
      have e'' := e'.grow s1
      have st1 : Stp G H L G'' H'' ([D] ++ L') := st.trans s1.grow
      have gD1 : G'' D = none := s1.gn D (by rw [hD']; exact Option.some_ne_none _) (fun z => nomatch z) gD
      have hD1 : H'' D = some (.lst us) := s1.h D _ hD' fun z => nomatch z
      have ra1 := ra.mono s1.g
      simp only [loopC2] at eq
      cases hp : g.put xs[i] ρ' with
      | none => rw [hp] at eq; rw [eq] at hnb; exact absurd rfl hnb
      | some ρ2 =>
        rw [hp] at eq
        refine g.ok G'' H'' ρ' ρ2 _ L' v _ _ s1.gh e'' nda.2.1 rv hp fun σ2 L2 e2 n2 s2 k2 => ?_
        have len2 : σ2.length = σ.length := k2.1.trans (wipe_length σ vs)
        have wk : wipe σ2 vs = wipe σ vs := wipe_keep len2 fun j nj => k2.2 j fun z => nj (hv j z)
        refine ⟨wk, ?_⟩
        have st2 : Stp G H L G'' H'' ([D] ++ L2) := st1.sub fun a z => by
          rcases List.mem_append.mp z with z | z
          · exact List.mem_append_left _ z
          · exact List.mem_append_right _ (s2 a z)
        have nD2 : D ∉ L2 := fun z => nda.2.2 D (by simp) D (s2 D z) rfl
        have ndD2 : ([D] ++ L2).Nodup := List.nodup_append.mpr ⟨by simp, n2, fun a x b y z => by
          simp only [List.mem_singleton] at x
          subst x z
          exact nD2 y⟩
        dsimp only at eq
        cases h1 : it1.ev ρ2 with
        | exc c f ρ3 => rw [h1] at eq; rw [eq] at hnb; exact absurd rfl hnb
        | bad => rw [h1] at eq; rw [eq] at hnb; exact absurd rfl hnb
        | ok ys ρ3 =>
          rw [h1] at eq
          dsimp only at eq
          cases h2 : loopC vs1 g1.put yesE e.ev ys (wipeE ρ3 vs1) acc with
          | exc c f ρ4 => rw [h2] at eq; rw [eq] at hnb; exact absurd rfl hnb
          | bad => rw [h2] at eq; rw [eq] at hnb; exact absurd rfl hnb
          | ok acc' ρ4 =>
            rw [h2] at eq
            dsimp only at eq
            refine in_ok (it := it1) (g := g1) (e := e) hv1 (σ := σ2) (L := L2) (D := D) s1.gh e2 ndD2 gD1 hD1 ra1 h1 h2 fun us' G4 H4 L4 s4 e4 n4 gD4 hD4 ra4 => ?_
            obtain ⟨L5, w1, w2, w3⟩ := wipe_ok (vs := vs) e4 (List.nodup_append.mp n4).2.1
            rw [wipe_sub hs, wk] at w1
            refine ⟨G4, L5, wipeE ρ4 vs, us', acc', g1'.trans (s1.g.trans s4.g), (st2.trans s4).sub fun a z => ?_, w1, List.nodup_append.mpr ⟨by simp, w2, fun a x b y z => (List.nodup_append.mp n4).2.2 a x b (w3 b y) z⟩, gD4, hD4, ra4, eq⟩
            rcases List.mem_append.mp z with z | z
            · exact List.mem_append_left _ z
            · exact List.mem_append_right _ (w3 a z)
    · have hi' : i = xs.length := by omega
      subst hi'
      rw [List.drop_length] at eq
      refine .inl ⟨yy.2 (Nat.le_refl _), ?_⟩
      have eq' : loopC2 vs vs1 g.put it1.ev g1.put e.ev xs (wipeE ρ1 vs) [] = .ok acc ρ' := eq
      rw [eq'] at k
      obtain ⟨L2, k1, k2, k3⟩ := unw_ok e' nda.2.1
      refine k acc (unwE ρ' vs) D us G' H' L2 rfl (st.sub fun a z => ?_) k1 (List.nodup_append.mpr ⟨nda.1, k2, fun a x b y => nda.2.2 a x b (k3 b y)⟩) gD hD' ra
      rcases List.mem_append.mp z with z | z
      · exact List.mem_append_left _ z
      · exact List.mem_append_right _ (k3 a z)
theorem evLc2_exc {it : Env → R Env (List D)} {put : D → Env → Option Env} {it1 : Env → R Env (List D)} {put1 : D → Env → Option Env} {e : Env → R Env W} {vs vs1 : List Nat} {ρ ρ' : Env} {c : Nat} {f : Option D} (h : it ρ = .exc c f ρ') : evLc2 it put it1 put1 e vs vs1 ρ = .exc c f ρ' := by
  unfold evLc2
  rw [h]
  rfl
/-- [e for x in xs for y in ys], never changed -/
def eLc2 (it : SI K κ) (g : SG K κ) (it1 : SI K κ) (g1 : SG K κ) (e : SE K κ) (vs vs1 : List Nat) (hv : ∀ i ∈ g.asg, i ∈ vs) (hv1 : ∀ i ∈ g1.asg, i ∈ vs1) (hs : ∀ i ∈ vs1, i ∈ vs) : SE K κ where
  te := fun Wx => tLc2 (it.ti Wx) g.tg tYes (it1.ti W0) g1.tg tYes (e.te W0) vs vs1
  ev := fun ρ => (evLc2 it.ev g.put it1.ev g1.put e.ev vs vs1 ρ).bind fun ys ρ => .ok (.d (.lst ys)) ρ
  ok := fun Wx G H ρ σ L Q hG hE hN p => by
    dsimp only at p
    refine lc2_ok hv hv1 hs hG hE hN (fun c f ρ' h => ?_) (fun h => ?_) fun ys ρ' a us G' H' L' h st en nd ga ha ra => ?_
    · rw [evLc2_exc h] at p; exact p
    · rw [h] at p; exact p
    · rw [h] at p
      have nda := List.nodup_append.mp nd
      have na : ∀ b ∈ L', b ≠ a := fun b z q => nda.2.2 a (by simp) b z q.symm
      refine p (.ref a) (upd G' a (.lst us)) H' [] L' ⟨st.g.trans (Evl.Ex.new ga), st.h, st.t, fun b q n z => ?_, fun b z => st.ln b (List.mem_append_right _ z), fun b o q => ?_⟩ (en.keep (Evl.Ex.new ga) (fun b z => ?_) fun _ _ _ q => q) ⟨rfl, .lst (SqL.of upd_same) (ra.mono (Evl.Ex.new ga))⟩ nda.2.1
      · have : b ≠ a := fun w => by
          subst w
          rcases st.ln b (by simp) with r | r
          · exact n r
          · exact q r
        rw [upd_ne this]; exact st.gn b q n z
      · by_cases w : b = a
        · rw [w, upd_same] at q
          rw [w, ha]; exact q
        · rw [upd_ne w] at q; exact st.gh b o q
      · rw [upd_ne (na b z)]; exact (en.there b z).2
end
end Pv

set_option maxRecDepth 100000
set_option maxHeartbeats 2000000
namespace Pv
open PySem PySem.Spec PyProof.Rows L2
section
variable {K : PySem.W.Frag} {κ : Cls}
def rIns : V → List V → Hp → VK → Prop := fun x vs H Q => ∃ (l : Addr) (xs : List V) (i : Int) (y : V), x = .ref l ∧ vs = [.int i, y] ∧ H l = some (.lst xs) ∧ xs.length < sizeLine ∧ 0 ≤ i ∧ i < 2 ^ 63 ∧ Q .non (upd H l (.lst (xs.take i.toNat ++ [y] ++ xs.drop i.toNat)))
theorem mt_ins {X : Cx} : MtR X "list.insert" rIns := mt_insert
/-- x.insert(k, e), x the name in slot i, a list that it owns -/
def sIns (K' : PySem.W.Frag) (hK : K' = K) (i : Nat) (k e : SE K κ) : SS K κ where
  ts := fun Wx => tDrop (tBM K "list" rIns (tVar i) (tCons (k.te Wx) (tCons (e.te Wx) tNil)))
  sv := fun ρ => match ρ[i]? with
    | some (some (.ml _)) => (k.ev ρ).bindD fun y ρ => (e.ev ρ).bindD fun x ρ => match y with
      | .int j => match ρ[i]? with
        | some (some (.ml xs)) => if 0 ≤ j ∧ j < 1000000 ∧ xs.length < 1000000 then .ok .nx (ρ.set i (some (.ml (xs.take j.toNat ++ [x] ++ xs.drop j.toNat)))) else .bad
        | _ => .bad
      | _ => .bad
    | _ => .bad
  asg := []
  ok := fun Wx G H ρ σ L E hG hE hN p => by
    dsimp only at p
    split at p
    · rename_i ys h0
      obtain ⟨a, vs, h1, h2, h3, h4, h5, h6, _⟩ := hE.list hG hN h0
      refine ⟨_, h1, .inl ⟨rfl, _, SqL.of h3⟩, k.ok.thenS hG hE hN p fun y vy ρ1 G1 H1 L1 u1 e1 n1 r1 p => e.ok.thenS u1.gh e1 n1 p fun x vx ρ2 G2 H2 L2 u2 e2 n2 r2 p => ?_⟩
      cases r1 with
      | int j =>
        dsimp only at p
        split at p
        · rename_i xs h
          split at p
          · rename_i hj
            obtain ⟨a', vs, k1, h2, h3, h4, h5, h6, _⟩ := e2.list u2.gh n2 h
            rw [h1] at k1
            cases k1
            obtain ⟨st, en⟩ := h6 (vs.take j.toNat ++ [vx] ++ vs.drop j.toNat) (xs.take j.toNat ++ [x] ++ xs.drop j.toNat) (((h4.take _).append (.cons r2 .nil)).append (h4.drop _))
            have hl := h4.length
            exact ⟨a, vs, j, vx, rfl, rfl, h3, Nat.lt_of_lt_of_le (by omega : vs.length < 1000000) (by decide), hj.1, by have := hj.2.1; omega, p σ G2 _ L2 st en n2 (.refl _ _)⟩
          · exact p.elim
        · exact p.elim
      | _ => exact p.elim
    · exact p.elim
end
end Pv

set_option maxRecDepth 100000
set_option maxHeartbeats 2000000
namespace Pv
open PySem PySem.Spec PyProof.Rows L2
section
variable {K : PySem.W.Frag} {κ : Cls}
/-! ### a < b < c, texts walked, one sign in a text, len(set(..)), zip of tuples, pop(i) -/
theorem Rp.bl_inv {G : Hp} {v : V} {b : Bool} (r : Rp K κ G v (.bl b)) : v = .bl b := by cases r; rfl
/-- a op b op' c -/
def eChain {r r' : R2} {g g' : D → D → Option D} (h : OpS K κ r g) (h' : OpS K κ r' g') (a b c : SE K κ) : SE K κ where
  te := fun Wx => tChain r r' (a.te Wx) (b.te Wx) (c.te Wx)
  ev := fun ρ => (a.ev ρ).bindD fun x ρ => (b.ev ρ).bindD fun y ρ => match g x y with
    | some (.bl true) => (c.ev ρ).bindD fun z ρ => R.of (g' y z) ρ
    | some (.bl false) => .ok (.d (.bl false)) ρ
    | _ => .bad
  ok := fun Wx G H ρ σ L Q hG hE hN p => a.ok.then hG hE hN p fun x vx ρ1 G1 H1 L1 u1 e1 n1 r1 p => b.ok.then u1.gh e1 n1 p fun y vy ρ2 G2 H2 L2 u2 e2 n2 r2 p => by
    split at p
    · rename_i hz
      refine h G2 H2 vx vy x y _ _ u2.gh (r1.mono u2.g) r2 hz fun v G3 H3 u3 rz => ⟨true, rz.bl_inv, ?_⟩
      rw [if_pos rfl]
      refine c.ok.then (Wx := Wx) u3.gh (e2.grow u3) n2 (p.trans u3.grow) fun z vz ρ4 G4 H4 L4 u4 e4 n4 r4 p => ?_
      obtain ⟨q, hq⟩ := p.some
      exact h' G4 H4 vy vz y z q Q u4.gh ((r2.mono u3.g).mono u4.g) r4 hq fun v5 G5 H5 u5 r5 => p.of hq u5.grow (e4.grow u5) n4 r5
    · rename_i hz
      refine h G2 H2 vx vy x y _ _ u2.gh (r1.mono u2.g) r2 hz fun v G3 H3 u3 rz => ⟨false, rz.bl_inv, ?_⟩
      rw [if_neg (by decide)]
      exact p.ret u3.grow (e2.grow u3) n2 (.bl _)
    · exact p.elim
theorem opLt : OpS K κ (rI0 fun i j => V.bl (decide (i < j))) (gI fun i j => some (.bl (decide (i < j)))) := opI0 (g := fun i j => .bl (decide (i < j))) (f := fun i j => .bl (decide (i < j))) fun _ _ _ => .bl _
theorem opLe : OpS K κ (rI0 fun i j => V.bl (decide (i ≤ j))) (gI fun i j => some (.bl (decide (i ≤ j)))) := opI0 (g := fun i j => .bl (decide (i ≤ j))) (f := fun i j => .bl (decide (i ≤ j))) fun _ _ _ => .bl _
theorem yl_str {G : Hp} (s : Str) : Yl K κ (Its s) G (s.cps.toList.map fun c => D.str ⟨#[c]⟩) := fun G' H' i g gh => by
  refine ⟨fun x e => ?_, fun le => ?_⟩
  · rw [List.getElem?_map] at e
    cases hc : s.cps.toList[i]? with
    | none => rw [hc] at e; cases e
    | some c =>
      rw [hc] at e
      cases e
      have hc' : s.cps[i]? = some c := by rw [← Array.getElem?_toList]; exact hc
      refine ⟨(Array.getElem?_eq_some_iff.mp hc').1, fun v H'' y => ?_⟩
      obtain ⟨rfl, c', h1, rfl⟩ := y
      rw [hc'] at h1
      cases h1
      exact ⟨G', .refl0 gh, .str _⟩
  · rw [List.length_map] at le
    exact (by simpa using le : s.cps.size ≤ i)
/-- a text, sign by sign -/
def iS (a : SE K κ) : SI K κ where
  ti := fun Wx => iStr (a.te Wx)
  ev := fun ρ => (a.ev ρ).bindD fun x ρ => match x with
    | .str s => .ok (s.cps.toList.map fun c => D.str ⟨#[c]⟩) ρ
    | _ => .bad
  ok := fun Wx G H ρ σ L Q hG hE hN p => a.ok.then hG hE hN p fun x vx ρ1 G1 H1 L1 u1 e1 n1 r1 p => by
    cases r1 with
    | str s => exact ⟨s, rfl, p _ G1 H1 [] L1 (.refl u1.gh) e1 ⟨rfl, yl_str s⟩ n1⟩
    | _ => exact p.elim
def gInSg : D → D → Option D
  | .str s, .str z => match s.cps.toList with
    | [c] => some (.bl (decide (c ∈ z.cps.toList)))
    | _ => none
  | _, _ => none
abbrev rInSg : R2 := fun x y H Q => ∃ (c : Nat) (z : Str), x = .str ⟨#[c]⟩ ∧ y = .str z ∧ Q (.bl (decide (c ∈ z.cps.toList))) H
theorem opInSg : OpS K κ rInSg gInSg := fun G H vx vy x y z Q hG rx ry e k => by
  cases rx with
  | str s =>
    cases ry with
    | str t =>
      simp only [gInSg] at e
      split at e
      · rename_i c hc
        cases e
        have hs : s = ⟨#[c]⟩ := by
          obtain ⟨a⟩ := s
          have : a = #[c] := by rw [← Array.toArray_toList (xs := a)]; simp only at hc; rw [hc]
          rw [this]
        exact ⟨c, t, by rw [hs], rfl, k _ G H (.refl0 hG) (.bl _)⟩
      · cases e
    | _ => cases e
  | _ => cases ry <;> cases e
def eInSg := eOp (K := K) (κ := κ) _ _ opInSg
/-- len(set(xs)), xs of one text or none -/
def strsOf : List D → Option (List Str)
  | [] => some []
  | .str s :: xs => (strsOf xs).map (s :: ·)
  | _ => none
theorem strsOf_ok {G : Hp} : ∀ {xs : List D} {vs : List V} {ss : List Str}, RpAll K κ G vs xs → strsOf xs = some ss → vs = ss.map V.str
  | [], _, ss, .nil, e => by cases e; rfl
  | x :: xs, _, ss, .cons r t, e => by
    cases r with
    | str s =>
      simp only [strsOf] at e
      cases h : strsOf xs with
      | none => rw [h] at e; cases e
      | some us =>
        rw [h] at e
        cases e
        rw [strsOf_ok t h]
        rfl
    | _ => simp only [strsOf] at e; cases e
def eLenSet (a : SE K κ) : SE K κ where
  te := fun Wx => tLenSet K (a.te Wx)
  ev := fun ρ => (a.ev ρ).bindD fun x ρ => match x with
    | .lst xs => match strsOf xs with
      | some ss => if ss.length ≤ 1 then .ok (.d (.int ss.length)) ρ else .bad
      | none => .bad
    | _ => .bad
  ok := fun Wx G H ρ σ L Q hG hE hN p => a.ok.then hG hE hN p fun x vx ρ1 G1 H1 L1 u1 e1 n1 r1 p => by
    cases r1 with
    | @lst b us xs hs ra =>
      dsimp only at p
      cases hn : strsOf xs with
      | none => rw [hn] at p; exact p.elim
      | some ss =>
        rw [hn] at p
        dsimp only at p
        split at p
        · rename_i hl
          have ev := strsOf_ok ra hn
          subst ev
          exact ⟨b, ss, rfl, .inl (ex_l u1.gh hs), hl, p.ret (.refl u1.gh) e1 n1 (.int _)⟩
        · exact p.elim
    | _ => exact p.elim
/-- zip of two tuples -/
theorem yl_zt {G : Hp} {a b : Addr} {us ws : List V} {xs ys : List D} (ha : SqT K G a us) (hb : SqT K G b ws) (rx : RpAll K κ G us xs) (ry : RpAll K κ G ws ys) : Yl K κ (RZ.ItzT K a b) G ((xs.zip ys).map pairD) := fun G' H' i g gh => by
  have e1 := rx.length
  have e2 := ry.length
  have sa : SqT K H' a us := ex_t (g.trans gh) ha
  have sb : SqT K H' b ws := ex_t (g.trans gh) hb
  refine ⟨fun x e => ?_, fun le => ⟨us, ws, sa, sb, ?_⟩⟩
  · have lt : i < ((xs.zip ys).map pairD).length := (List.getElem?_eq_some_iff.mp e).1
    rw [List.length_map, List.length_zip] at lt
    obtain ⟨u, hu⟩ : ∃ u, us[i]? = some u := ⟨_, List.getElem?_eq_getElem (by omega)⟩
    obtain ⟨w, hw⟩ : ∃ w, ws[i]? = some w := ⟨_, List.getElem?_eq_getElem (by omega)⟩
    obtain ⟨x1, hx1, _⟩ := rx.get' hu
    obtain ⟨y1, hy1, _⟩ := ry.get' hw
    have ex : x = .tupW [x1, y1] := by
      have ez : (xs.zip ys)[i]? = some (x1, y1) := List.getElem?_zip_eq_some.mpr ⟨hx1, hy1⟩
      rw [List.getElem?_map, ez] at e
      exact (Option.some.inj e).symm
    subst ex
    refine ⟨⟨us, ws, u, w, sa, sb, hu, hw⟩, fun v H'' y => ?_⟩
    obtain ⟨T, x', y', rfl, hT, rfl, f1, f2⟩ := y
    have q1 := f1 us sa
    have q2 := f2 ws sb
    rw [hu] at q1
    rw [hw] at q2
    cases q1
    cases q2
    have gx : Ex G (upd G' T (.tup [u, w])) := g.trans (Evl.Ex.new (fresh gh hT))
    exact ⟨_, .new gh hT, .tupW (.inl (.inl upd_same)) (.cons ((rx.at hu hx1).mono gx) (.cons ((ry.at hw hy1).mono gx) .nil))⟩
  · rw [List.length_map, List.length_zip] at le
    omega
def iZipT (a b : SE K κ) : SI K κ where
  ti := fun Wx => RZ.iZipA K (tCons (a.te Wx) (tCons (b.te Wx) tNil))
  ev := fun ρ => (a.ev ρ).bindD fun x ρ => (b.ev ρ).bindD fun y ρ => match x, y with
    | .tup xs, .tup ys => .ok ((xs.zip ys).map pairD) ρ
    | _, _ => .bad
  ok := fun Wx G H ρ σ L Q hG hE hN p => a.ok.then hG hE hN p fun x vx ρ1 G1 H1 L1 u1 e1 n1 r1 p => b.ok.then u1.gh e1 n1 p fun y vy ρ2 G2 H2 L2 u2 e2 n2 r2 p => by
    cases r1 with
    | tup hs ra =>
      cases r2 with
      | tup ht rb => exact ⟨_, _, _, _, rfl, .inr ⟨ex_t (u2.g.trans u2.gh) hs.sq, ex_t u2.gh ht.sq, p _ G2 H2 [] L2 (.refl u2.gh) e2 ⟨rfl, yl_zt (ex_t u2.g hs.sq) ht.sq (ra.mono u2.g) rb⟩ n2⟩⟩
      | _ => exact p.elim
    | _ => cases r2 <;> exact p.elim
/-- x.pop(e), x the name in slot i, a list that it owns -/
def ePopAt (i : Nat) (e : SE K κ) : SE K κ where
  te := fun Wx => tBM K "list" rPopAt (tVar i) (tCons (e.te Wx) tNil)
  ev := fun ρ => match ρ[i]? with
    | some (some (.ml _)) => (e.ev ρ).bindD fun y ρ => match y with
      | .int j => match ρ[i]? with
        | some (some (.ml xs)) => if 0 ≤ j ∧ j < 1000000 then (match xs[j.toNat]? with
          | some x => .ok (.d x) (ρ.set i (some (.ml (xs.eraseIdx j.toNat))))
          | none => .bad) else .bad
        | _ => .bad
      | _ => .bad
    | _ => .bad
  ok := fun Wx G H ρ σ L Q hG hE hN p => by
    dsimp only at p
    split at p
    · rename_i ys h0
      obtain ⟨a, vs, h1, h2, h3, h4, h5, h6, _⟩ := hE.list hG hN h0
      refine ⟨_, h1, .inl ⟨rfl, _, SqL.of h3⟩, e.ok.then hG hE hN p fun y vy ρ1 G1 H1 L1 u1 e1 n1 r1 p => ?_⟩
      cases r1 with
      | int j =>
        dsimp only at p
        split at p
        · rename_i xs h
          split at p
          · rename_i hj
            split at p
            · rename_i x hx
              obtain ⟨a', vs, k1, h2, h3, h4, h5, h6, _⟩ := e1.list u1.gh n1 h
              rw [h1] at k1
              cases k1
              obtain ⟨vx, hvx, rx⟩ := h4.get hx
              obtain ⟨st, en⟩ := h6 (vs.eraseIdx j.toNat) (xs.eraseIdx j.toNat) (h4.eraseIdx _)
              have hl := (List.getElem?_eq_some_iff.mp hvx).1
              exact ⟨a, vs, j, j.toNat, vx, rfl, rfl, h3, by have := hj.1; omega, by have := hj.2; omega, seqIndex_of hj.1 (by omega), hvx, p.ret st en n1 rx⟩
            · exact p.elim
          · exact p.elim
        · exact p.elim
      | _ => exact p.elim
    · exact p.elim
/-- the list that slot i owns is handed over -/
def eGive (i : Nat) : SE K κ where
  te := fun _ => tVar i
  ev := fun ρ => match ρ[i]? with
    | some (some w) => .ok w (ρ.set i none)
    | _ => .bad
  ok := fun Wx G H ρ σ L Q hG hE hN p => by
    dsimp only at p
    split at p
    · rename_i w h
      obtain ⟨v, B, L', h1, h2, h3, h4, h5⟩ := hE.take hN h
      exact ⟨v, h1, p v G H B L' ((Stp.refl hG).sub h5) h3 h2 h4⟩
    · exact p.elim
/-- len(s) of a text -/
def gLenS : List D → Option D
  | [.str s] => if s.length ≤ 1000000 then some (.int s.length) else none
  | _ => none
abbrev rLenS : List V → Hp → VK → Prop := fun xs H Q => ∃ z, xs = [.str z] ∧ z.length ≤ sizeLine ∧ Q (.int z.length) H
theorem cbLenS : CbS K κ rLenS gLenS := fun G H vs xs z Q hG r e k => by
  cases r with
  | nil => cases e
  | cons h t =>
    cases t with
    | nil =>
      cases h with
      | str s =>
        simp only [gLenS] at e
        split at e
        · rename_i hl
          cases e
          exact ⟨s, rfl, Nat.le_trans hl (by decide), k _ G H (.refl0 hG) (.int _)⟩
        · cases e
      | _ => cases e
    | cons _ _ =>
      cases h <;> cases e
def eLenS := eCB (K := K) (κ := κ) _ _ cbLenS
end
end Pv

set_option maxRecDepth 100000
set_option maxHeartbeats 4000000
namespace K49
open PySem PySem.Spec PyProof.Rows L2 Pv
def topS (i : Nat) : Stmt := PySem.Challenge.pw_blindtill_k49_tills_in_every_company.main.body.getD i (.Pass ⟨0, 0, 0, 0⟩)
/-- what the text's own names leave alone -/
structure Tx (K : PySem.W.Frag) (κ : Cls) (mg : Str → Option Value) : Prop where
  z_all : mg "all" = none
  z_bool : mg "bool" = none
  z_dict : mg "dict" = none
  z_int : mg "int" = none
  z_isinstance : mg "isinstance" = none
  z_len : mg "len" = none
  z_max : mg "max" = none
  z_min : mg "min" = none
  z_range : mg "range" = none
  z_set : mg "set" = none
  z_sorted : mg "sorted" = none
  z_str : mg "str" = none
  z_sum : mg "sum" = none
  z_tuple : mg "tuple" = none
  z_zip : mg "zip" = none
  c_SMALL : ∃ t, mg "SMALL" = some (.int 200 t)
theorem hu_str {A : Around} {k : Nat} (hr : Room k A) : A.units + 100 < cLine := by have := hr.un; omega
section
variable {P : Program} {w : World} {K : PySem.W.Frag} {κ : Cls} {mg : Str → Option Value} {base : Heap}
abbrev s_is_number : Stmt := topS 6
abbrev N_is_number : List Str := ["thing", "least"]
abbrev p_is_number : List Str := ["thing", "least"]
theorem sc_is_number : FnScope N_is_number p_is_number (defScope s_is_number) := ⟨rfl, rfl, rfl, by decide +kernel, rfl, by decide +kernel, by decide +kernel⟩
def b_is_number (T : Tx K κ mg) : SS K κ :=
    sSeq (sRet (eAndV (eIsTy "int" (eV 0)) (eAndV (eNotV (eIsTy "bool" (eV 0))) (eGe (eV 0) (eV 1)))))
    (sNil)
def f_is_number (T : Tx K κ mg) : Fn := Pv.fnOf 2 (b_is_number T).asg (b_is_number T).sv

abbrev s__is_lot : Stmt := topS 9
abbrev N__is_lot : List Str := ["thing"]
abbrev p__is_lot : List Str := ["thing"]
theorem sc__is_lot : FnScope N__is_lot p__is_lot (defScope s__is_lot) := ⟨rfl, rfl, rfl, by decide +kernel, rfl, by decide +kernel, by decide +kernel⟩
def b__is_lot (T : Tx K κ mg) : SS K κ :=
    sSeq (sIf (tOr' (tNot' (tV (eIsTy "tuple" (eV 0)))) (tV' (eNe (eLen (aCons (eV 0) (aNil))) (eInt 2)))) (sSeq (sRet (eBl false))
    (sNil)) (sNil))
    (sSeq (sRet (eAndV (eCall 2 (f_is_number T) (aCons (eIxT (eV 0) (eInt 0)) (aCons (eInt 1) (aNil)))) (eCall 2 (f_is_number T) (aCons (eIxT (eV 0) (eInt 1)) (aCons (eInt 1) (aNil))))))
    (sNil))
def f__is_lot (T : Tx K κ mg) : Fn := Pv.fnOf 1 (b__is_lot T).asg (b__is_lot T).sv

abbrev s_is_pile : Stmt := topS 8
abbrev N_is_pile : List Str := ["thing", "last", "lot"]
abbrev p_is_pile : List Str := ["thing"]
theorem sc_is_pile : FnScope N_is_pile p_is_pile (defScope s_is_pile) := ⟨rfl, rfl, rfl, by decide +kernel, rfl, by decide +kernel, by decide +kernel⟩
def b_is_pile (T : Tx K κ mg) : SS K κ :=
    sSeq (sIf (tNot' (tV (eIsTy "tuple" (eV 0)))) (sSeq (sRet (eBl false))
    (sNil)) (sNil))
    (sSeq (sAsg 1 (eInt 0))
    (sSeq (sFor (iT (eV 0)) (gN 2) (sSeq (sIf (tOr' (tNot' (tV (eCall 1 (f__is_lot T) (aCons (eV 2) (aNil))))) (tV' (eLe (eIxT (eV 2) (eInt 0)) (eV 1)))) (sSeq (sRet (eBl false))
    (sNil)) (sNil))
    (sSeq (sAsg 1 (eIxT (eV 2) (eInt 0)))
    (sNil))))
    (sSeq (sRet (eBl true))
    (sNil))))
def f_is_pile (T : Tx K κ mg) : Fn := Pv.fnOf 3 (b_is_pile T).asg (b_is_pile T).sv

abbrev s_check_pile : Stmt := topS 10
abbrev N_check_pile : List Str := ["thing"]
abbrev p_check_pile : List Str := ["thing"]
theorem sc_check_pile : FnScope N_check_pile p_check_pile (defScope s_check_pile) := ⟨rfl, rfl, rfl, by decide +kernel, rfl, by decide +kernel, by decide +kernel⟩
def b_check_pile (T : Tx K κ mg) : SS K κ :=
    sSeq (sIf (tNot' (tV (eCall 1 (f_is_pile T) (aCons (eV 0) (aNil))))) (sSeq (sNever)
    (sNil)) (sNil))
    (sNil)
def f_check_pile (T : Tx K κ mg) : Fn := Pv.fnOf 1 (b_check_pile T).asg (b_check_pile T).sv

abbrev s_sum_of : Stmt := topS 11
abbrev N_sum_of : List Str := ["pile", "worth", "many"]
abbrev p_sum_of : List Str := ["pile"]
theorem sc_sum_of : FnScope N_sum_of p_sum_of (defScope s_sum_of) := ⟨rfl, rfl, rfl, by decide +kernel, rfl, by decide +kernel, by decide +kernel⟩
def b_sum_of (T : Tx K κ mg) : SS K κ :=
    sSeq (sRet (eSum (aCons (eLc (iT (eV 0)) (gT 2 (gs1 (gN 1) (gs1 (gN 2) (gs0)))) (tYes') (eMul (eV 1) (eV 2)) [1, 2] (fun _ h => h)) (aNil))))
    (sNil)
def f_sum_of (T : Tx K κ mg) : Fn := Pv.fnOf 3 (b_sum_of T).asg (b_sum_of T).sv

abbrev s_check_small_pile : Stmt := topS 12
abbrev N_check_small_pile : List Str := ["pile"]
abbrev p_check_small_pile : List Str := ["pile"]
theorem sc_check_small_pile : FnScope N_check_small_pile p_check_small_pile (defScope s_check_small_pile) := ⟨rfl, rfl, rfl, by decide +kernel, rfl, by decide +kernel, by decide +kernel⟩
def b_check_small_pile (T : Tx K κ mg) : SS K κ :=
    sSeq (sIf (tV' (eGt (eCall 1 (f_sum_of T) (aCons (eV 0) (aNil))) (eInt 200))) (sSeq (sNever)
    (sNil)) (sNil))
    (sNil)
def f_check_small_pile (T : Tx K κ mg) : Fn := Pv.fnOf 1 (b_check_small_pile T).asg (b_check_small_pile T).sv

abbrev s__outdone_at : Stmt := topS 15
abbrev N__outdone_at : List Str := ["one", "other", "lesser", "worth", "many", "coin", "coins"]
abbrev p__outdone_at : List Str := ["one", "other"]
theorem sc__outdone_at : FnScope N__outdone_at p__outdone_at (defScope s__outdone_at) := ⟨rfl, rfl, rfl, by decide +kernel, rfl, by decide +kernel, by decide +kernel⟩
def b__outdone_at (T : Tx K κ mg) : SS K κ :=
    sSeq (sAsg 2 (eInt 0))
    (sSeq (sFor (iT (eV 1)) (gT 2 (gs1 (gN 3) (gs1 (gN 4) (gs0)))) (sSeq (sAugAdd 2 (eMul (eV 3) (eV 4)))
    (sSeq (sIf (tV' (eLt (eSum (aCons (eLc (iT (eV 0)) (gT 2 (gs1 (gN 5) (gs1 (gN 6) (gs0)))) (tV' (eLe (eV 5) (eV 3))) (eMul (eV 5) (eV 6)) [5, 6] (fun _ h => h)) (aNil))) (eV 2))) (sSeq (sRet (eTup (aCons (eAdd (eV 3) (eInt 1)) (aCons (eV 2) (aNil)))))
    (sNil)) (sNil))
    (sNil))))
    (sSeq (sRet (eNon))
    (sNil)))
def f__outdone_at (T : Tx K κ mg) : Fn := Pv.fnOf 7 (b__outdone_at T).asg (b__outdone_at T).sv

abbrev s_outdoes : Stmt := topS 14
abbrev N_outdoes : List Str := ["one", "other"]
abbrev p_outdoes : List Str := ["one", "other"]
theorem sc_outdoes : FnScope N_outdoes p_outdoes (defScope s_outdoes) := ⟨rfl, rfl, rfl, by decide +kernel, rfl, by decide +kernel, by decide +kernel⟩
def b_outdoes (T : Tx K κ mg) : SS K κ :=
    sSeq (sDrop (eCall 1 (f_check_pile T) (aCons (eV 0) (aNil))))
    (sSeq (sDrop (eCall 1 (f_check_pile T) (aCons (eV 1) (aNil))))
    (sSeq (sRet (eIsN (eCall 2 (f__outdone_at T) (aCons (eV 0) (aCons (eV 1) (aNil))))))
    (sNil)))
def f_outdoes (T : Tx K κ mg) : Fn := Pv.fnOf 2 (b_outdoes T).asg (b_outdoes T).sv

abbrev s_telling_company : Stmt := topS 16
abbrev N_telling_company : List Str := ["one", "other", "found", "worth", "lesser", "ones", "company"]
abbrev p_telling_company : List Str := ["one", "other"]
theorem sc_telling_company : FnScope N_telling_company p_telling_company (defScope s_telling_company) := ⟨rfl, rfl, rfl, by decide +kernel, rfl, by decide +kernel, by decide +kernel⟩
def b_telling_company (T : Tx K κ mg) : SS K κ :=
    sSeq (sDrop (eCall 1 (f_check_pile T) (aCons (eV 0) (aNil))))
    (sSeq (sDrop (eCall 1 (f_check_pile T) (aCons (eV 1) (aNil))))
    (sSeq (sDrop (eCall 1 (f_check_small_pile T) (aCons (eV 0) (aNil))))
    (sSeq (sDrop (eCall 1 (f_check_small_pile T) (aCons (eV 1) (aNil))))
    (sSeq (sAsg 2 (eCall 2 (f__outdone_at T) (aCons (eV 0) (aCons (eV 1) (aNil)))))
    (sSeq (sIf (tV (eIsN (eV 2))) (sSeq (sRet (eNon))
    (sNil)) (sNil))
    (sSeq (sAsgG (gT 2 (gs1 (gN 3) (gs1 (gN 4) (gs0)))) (eV 2))
    (sSeq (sAsg 5 (eMul (eV 4) (eSub (eV 3) (eInt 2))))
    (sSeq (sAsg 6 (eIf (tV' (eGt (eV 5) (eInt 0))) (eTup (aCons (eTup (aCons (eInt 1) (aCons (eV 5) (aNil)))) (aCons (eTup (aCons (eV 3) (aCons (eInt 1) (aNil)))) (aNil)))) (eTup (aCons (eTup (aCons (eV 3) (aCons (eInt 1) (aNil)))) (aNil)))))
    (sSeq (sRet (eTup (aCons (eV 6) (aCons (eTup (aCons (eStr "call") (aCons (eStr "a") (aCons (eSub (eV 3) (eInt 1)) (aCons (eV 4) (aNil)))))) (aNil)))))
    (sNil))))))))))
def f_telling_company (T : Tx K κ mg) : Fn := Pv.fnOf 7 (b_telling_company T).asg (b_telling_company T).sv

abbrev s_l_mixed : Stmt := topS 18
abbrev N_l_mixed : List Str := ["_law_cell_here", "_law_k", "_law_mix"]
abbrev p_l_mixed : List Str := ["_law_cell_here", "_law_k"]
theorem sc_l_mixed : FnScope N_l_mixed p_l_mixed (defScope s_l_mixed) := ⟨rfl, rfl, rfl, by decide +kernel, rfl, by decide +kernel, by decide +kernel⟩
def b_l_mixed (T : Tx K κ mg) : SS K κ :=
    sSeq (sAsg 2 (eMod (eAdd (eAdd (eMul (eMod (eV 0) (eInt 2147483647)) (eInt 48271)) (eMul (eV 1) (eInt 69621))) (eInt 1048583)) (eInt 2147483629)))
    (sSeq (sAsg 2 (eMod (eMul (eV 2) (eV 2)) (eInt 2147483587)))
    (sSeq (sRet (eMod (eMul (eV 2) (eAdd (eV 2) (eInt 2))) (eInt 2147483579)))
    (sNil)))
def f_l_mixed (T : Tx K κ mg) : Fn := Pv.fnOf 3 (b_l_mixed T).asg (b_l_mixed T).sv

abbrev s_l_cell : Stmt := topS 19
abbrev N_l_cell : List Str := ["_law_script", "_law_k", "_law_cell_here", "_law_found", "_law_j"]
abbrev p_l_cell : List Str := ["_law_script", "_law_k"]
theorem sc_l_cell : FnScope N_l_cell p_l_cell (defScope s_l_cell) := ⟨rfl, rfl, rfl, by decide +kernel, rfl, by decide +kernel, by decide +kernel⟩
def b_l_cell (T : Tx K κ mg) : SS K κ :=
    sSeq (sAsg 2 (eInt 0))
    (sSeq (sIf (tV' (eLt (eV 1) (eLen (aCons (eV 0) (aNil))))) (sSeq (sAsg 2 (eIxL (eV 0) (eV 1)))
    (sNil)) (sNil))
    (sSeq (sIf (tV' (eGe (eV 2) (ePow (eInt 10) (eInt 18)))) (sSeq (sRet (eMod (eSub (eV 2) (ePow (eInt 10) (eInt 18))) (eMulW (eMulW (eMulW (ePow (eInt 10) (eInt 60)) (ePow (eInt 10) (eInt 60))) (ePow (eInt 10) (eInt 60))) (ePow (eInt 10) (eInt 60)))))
    (sNil)) (sNil))
    (sSeq (sAsg 3 (eInt 0))
    (sSeq (sFor (iR1 (eInt 24)) (gN 4) (sSeq (sAsg 3 (eAdd (eMul (eV 3) (eInt 2147483579)) (eCall 2 (f_l_mixed T) (aCons (eV 2) (aCons (eAdd (eAdd (eMul (eInt 7) (eV 1)) (eMul (eInt 100) (eV 4))) (eMul (eV 4) (eV 4))) (aNil))))))
    (sNil)))
    (sSeq (sRet (eV 3))
    (sNil))))))
def f_l_cell (T : Tx K κ mg) : Fn := Pv.fnOf 5 (b_l_cell T).asg (b_l_cell T).sv

abbrev s_l_take : Stmt := topS 20
abbrev N_l_take : List Str := ["_law_pile_here", "_law_size", "_law_digit"]
abbrev p_l_take : List Str := ["_law_pile_here", "_law_size"]
theorem sc_l_take : FnScope N_l_take p_l_take (defScope s_l_take) := ⟨rfl, rfl, rfl, by decide +kernel, rfl, by decide +kernel, by decide +kernel⟩
def b_l_take (T : Tx K κ mg) : SS K κ :=
    sSeq (sAsg 2 (eMod (eIxM 0 (eInt 0)) (eV 1)))
    (sSeq (sSetL 0 0 (eDiv (eIxM 0 (eInt 0)) (eV 1)))
    (sSeq (sRet (eV 2))
    (sNil)))
def f_l_take (T : Tx K κ mg) : Fn := Pv.fnOf 3 (b_l_take T).asg (b_l_take T).sv

abbrev s_l_sum : Stmt := topS 21
abbrev N_l_sum : List Str := ["_law_pile_here", "_law_worth", "_law_many"]
abbrev p_l_sum : List Str := ["_law_pile_here"]
theorem sc_l_sum : FnScope N_l_sum p_l_sum (defScope s_l_sum) := ⟨rfl, rfl, rfl, by decide +kernel, rfl, by decide +kernel, by decide +kernel⟩
def b_l_sum (T : Tx K κ mg) : SS K κ :=
    sSeq (sRet (eSum (aCons (eLc (iT (eV 0)) (gT 2 (gs1 (gN 1) (gs1 (gN 2) (gs0)))) (tYes') (eMul (eV 1) (eV 2)) [1, 2] (fun _ h => h)) (aNil))))
    (sNil)
def f_l_sum (T : Tx K κ mg) : Fn := Pv.fnOf 3 (b_l_sum T).asg (b_l_sum T).sv

abbrev s_l_under : Stmt := topS 22
abbrev N_l_under : List Str := ["_law_pile_here", "_law_bound", "_law_worth", "_law_many"]
abbrev p_l_under : List Str := ["_law_pile_here", "_law_bound"]
theorem sc_l_under : FnScope N_l_under p_l_under (defScope s_l_under) := ⟨rfl, rfl, rfl, by decide +kernel, rfl, by decide +kernel, by decide +kernel⟩
def b_l_under (T : Tx K κ mg) : SS K κ :=
    sSeq (sRet (eSum (aCons (eLc (iT (eV 0)) (gT 2 (gs1 (gN 2) (gs1 (gN 3) (gs0)))) (tOr' (tV (eIsN (eV 1))) (tV' (eLt (eV 2) (eV 1)))) (eMul (eV 2) (eV 3)) [2, 3] (fun _ h => h)) (aNil))))
    (sNil)
def f_l_under (T : Tx K κ mg) : Fn := Pv.fnOf 4 (b_l_under T).asg (b_l_under T).sv

abbrev s_l_heap : Stmt := topS 23
abbrev N_l_heap : List Str := ["_law_coins_here", "_law_found", "_law_coin"]
abbrev p_l_heap : List Str := ["_law_coins_here"]
theorem sc_l_heap : FnScope N_l_heap p_l_heap (defScope s_l_heap) := ⟨rfl, rfl, rfl, by decide +kernel, rfl, by decide +kernel, by decide +kernel⟩
def b_l_heap (T : Tx K κ mg) : SS K κ :=
    sSeq (sAsg 1 (eLstM (aNil)))
    (sSeq (sFor (iL (eSortN (eV 0))) (gN 2) (sSeq (sIf (tPk (tAnd' (tV' (eNe (eV 1) (eLst (aNil)))) (tV' (eEq (eIxT (eIxL (eV 1) (eNegC 1)) (eInt 0)) (eV 2))))) (sSeq (sSetX 1 (eNegC 1) (eTup (aCons (eV 2) (aCons (ePk (eAdd (eIxT (eIxL (eV 1) (eNegC 1)) (eInt 1)) (eInt 1))) (aNil)))))
    (sNil)) (sSeq (sApp K rfl 1 (eTup (aCons (eV 2) (aCons (eInt 1) (aNil)))))
    (sNil)))
    (sNil)))
    (sSeq (sRet (eTupOf (aCons (eV 1) (aNil))))
    (sNil)))
def f_l_heap (T : Tx K κ mg) : Fn := Pv.fnOf 3 (b_l_heap T).asg (b_l_heap T).sv

abbrev s_l_coins : Stmt := topS 24
abbrev N_l_coins : List Str := ["_law_pile_here", "_law_found", "_law_worth", "_law_many"]
abbrev p_l_coins : List Str := ["_law_pile_here"]
theorem sc_l_coins : FnScope N_l_coins p_l_coins (defScope s_l_coins) := ⟨rfl, rfl, rfl, by decide +kernel, rfl, by decide +kernel, by decide +kernel⟩
def b_l_coins (T : Tx K κ mg) : SS K κ :=
    sSeq (sAsg 1 (eLstM (aNil)))
    (sSeq (sFor (iT (eV 0)) (gT 2 (gs1 (gN 2) (gs1 (gN 3) (gs0)))) (sSeq (sAsg 1 (eCatLM (eV 1) (eRepL (eLstM (aCons (eV 2) (aNil))) (eV 3))))
    (sNil)))
    (sSeq (sRet (eGive 1))
    (sNil)))
def f_l_coins (T : Tx K κ mg) : Fn := Pv.fnOf 4 (b_l_coins T).asg (b_l_coins T).sv

abbrev s_l_top : Stmt := topS 27
abbrev N_l_top : List Str := ["_law_right", "_law_bound", "_law_word", "_law_tops", "_law_part"]
abbrev p_l_top : List Str := ["_law_right", "_law_bound"]
theorem sc_l_top : FnScope N_l_top p_l_top (defScope s_l_top) := ⟨rfl, rfl, rfl, by decide +kernel, rfl, by decide +kernel, by decide +kernel⟩
def b_l_top (T : Tx K κ mg) : SS K κ :=
    sSeq (sAsg 2 (eIxT (eV 0) (eInt 0)))
    (sSeq (sIf (tV' (eEq (eV 2) (eStr "call"))) (sSeq (sRet (eMul (eIxT (eV 0) (eInt 3)) (eIf (tV (eIsN (eV 1))) (eIxT (eV 0) (eInt 2)) (eMin2 (aCons (eIxT (eV 0) (eInt 2)) (aCons (eSub (eV 1) (eInt 1)) (aNil)))))))
    (sNil)) (sNil))
    (sSeq (sNever)
    (sSeq (sNever)
    (sSeq (sNever)
    (sSeq (sNever)
    (sSeq (sNever)
    (sNil)))))))
def f_l_top (T : Tx K κ mg) : Fn := Pv.fnOf 5 (b_l_top T).asg (b_l_top T).sv

abbrev s_l_holds : Stmt := topS 28
abbrev N_l_holds : List Str := ["_law_pile_here", "_law_right", "_law_worth", "_law_many"]
abbrev p_l_holds : List Str := ["_law_pile_here", "_law_right"]
theorem sc_l_holds : FnScope N_l_holds p_l_holds (defScope s_l_holds) := ⟨rfl, rfl, rfl, by decide +kernel, rfl, by decide +kernel, by decide +kernel⟩
def b_l_holds (T : Tx K κ mg) : SS K κ :=
    sSeq (sFor (iT (eV 0)) (gT 2 (gs1 (gN 2) (gs1 (gN 3) (gs0)))) (sSeq (sIf (tAnd' (tV' (eGt (eV 2) (eInt 1))) (tV' (eGt (eCall 2 (f_l_top T) (aCons (eV 1) (aCons (eV 2) (aNil)))) (eCall 2 (f_l_under T) (aCons (eV 0) (aCons (eV 2) (aNil))))))) (sSeq (sRet (eBl false))
    (sNil)) (sNil))
    (sNil)))
    (sSeq (sRet (eLe (eCall 2 (f_l_top T) (aCons (eV 1) (aCons (eNon) (aNil)))) (eCall 1 (f_l_sum T) (aCons (eV 0) (aNil)))))
    (sNil))
def f_l_holds (T : Tx K κ mg) : Fn := Pv.fnOf 4 (b_l_holds T).asg (b_l_holds T).sv

abbrev s_l_whole_from : Stmt := topS 29
abbrev N_l_whole_from : List Str := ["_law_thing", "_law_least"]
abbrev p_l_whole_from : List Str := ["_law_thing", "_law_least"]
theorem sc_l_whole_from : FnScope N_l_whole_from p_l_whole_from (defScope s_l_whole_from) := ⟨rfl, rfl, rfl, by decide +kernel, rfl, by decide +kernel, by decide +kernel⟩
def b_l_whole_from (T : Tx K κ mg) : SS K κ :=
    sSeq (sRet (eAndV (eIsTy "int" (eV 0)) (eAndV (eNotV (eIsTy "bool" (eV 0))) (eGe (eV 0) (eV 1)))))
    (sNil)
def f_l_whole_from (T : Tx K κ mg) : Fn := Pv.fnOf 2 (b_l_whole_from T).asg (b_l_whole_from T).sv

abbrev s_l_names : Stmt := topS 30
abbrev N_l_names : List Str := ["_law_right", "_law_found", "_law_parts", "_law_part"]
abbrev p_l_names : List Str := ["_law_right"]
theorem sc_l_names : FnScope N_l_names p_l_names (defScope s_l_names) := ⟨rfl, rfl, rfl, by decide +kernel, rfl, by decide +kernel, by decide +kernel⟩
def b_l_names (T : Tx K κ mg) : SS K κ :=
    sSeq (sIf (tV' (eEq (eIxT (eV 0) (eInt 0)) (eStr "call"))) (sSeq (sRet (eLst (aCons (eIxT (eV 0) (eInt 1)) (aNil))))
    (sNil)) (sNil))
    (sSeq (sNever)
    (sSeq (sNever)
    (sSeq (sNever)
    (sSeq (sNever)
    (sNil)))))
def f_l_names (T : Tx K κ mg) : Fn := Pv.fnOf 4 (b_l_names T).asg (b_l_names T).sv

abbrev s_l_tag : Stmt := topS 31
abbrev N_l_tag : List Str := ["_law_thing", "_law_sign"]
abbrev p_l_tag : List Str := ["_law_thing"]
theorem sc_l_tag : FnScope N_l_tag p_l_tag (defScope s_l_tag) := ⟨rfl, rfl, rfl, by decide +kernel, rfl, by decide +kernel, by decide +kernel⟩
def b_l_tag (T : Tx K κ mg) : SS K κ :=
    sSeq (sIf (tOr' (tNot' (tV (eIsTy "str" (eV 0)))) (tNot' (tV' (eChain opLt opLt (eInt 0) (eLenS (aCons (eV 0) (aNil))) (eInt 9))))) (sSeq (sRet (eBl false))
    (sNil)) (sNil))
    (sSeq (sRet (eAll (aCons (eLc (iS (eV 0)) (gN 1) (tYes') (eInSg (eV 1) (eStr "abcdefghijklmnopqrstuvwxyz")) [1] (fun _ h => h)) (aNil))))
    (sNil))
def f_l_tag (T : Tx K κ mg) : Fn := Pv.fnOf 2 (b_l_tag T).asg (b_l_tag T).sv

abbrev s_l_formed : Stmt := topS 32
abbrev N_l_formed : List Str := ["_law_thing", "_law_deep", "_law_part"]
abbrev p_l_formed : List Str := ["_law_thing", "_law_deep"]
theorem sc_l_formed : FnScope N_l_formed p_l_formed (defScope s_l_formed) := ⟨rfl, rfl, rfl, by decide +kernel, rfl, by decide +kernel, by decide +kernel⟩
def b_l_formed (T : Tx K κ mg) : SS K κ :=
    sSeq (sIf (tOr' (tNot' (tV (eIsTy "tuple" (eV 0)))) (tOr' (tV' (eEq (eLen (aCons (eV 0) (aNil))) (eInt 0))) (tV' (eLt (eV 1) (eInt 1))))) (sSeq (sRet (eBl false))
    (sNil)) (sNil))
    (sSeq (sIf (tAnd' (tV' (eEq (eIxT (eV 0) (eInt 0)) (eStr "call"))) (tAnd' (tV' (eEq (eLen (aCons (eV 0) (aNil))) (eInt 4))) (tV (eCall 1 (f_l_tag T) (aCons (eIxT (eV 0) (eInt 1)) (aNil)))))) (sSeq (sRet (eAndV (eCall 2 (f_l_whole_from T) (aCons (eIxT (eV 0) (eInt 2)) (aCons (eInt 1) (aNil)))) (eCall 2 (f_l_whole_from T) (aCons (eIxT (eV 0) (eInt 3)) (aCons (eInt 1) (aNil))))))
    (sNil)) (sNil))
    (sSeq (sNever)
    (sSeq (sNever)
    (sSeq (sNever)
    (sNil)))))
def f_l_formed (T : Tx K κ mg) : Fn := Pv.fnOf 3 (b_l_formed T).asg (b_l_formed T).sv

abbrev s_l_is_right : Stmt := topS 33
abbrev N_l_is_right : List Str := ["_law_thing"]
abbrev p_l_is_right : List Str := ["_law_thing"]
theorem sc_l_is_right : FnScope N_l_is_right p_l_is_right (defScope s_l_is_right) := ⟨rfl, rfl, rfl, by decide +kernel, rfl, by decide +kernel, by decide +kernel⟩
def b_l_is_right (T : Tx K κ mg) : SS K κ :=
    sSeq (sRet (eAndV (eCall 2 (f_l_formed T) (aCons (eV 0) (aCons (eInt 6) (aNil)))) (eEq (eLenSet (eCall 1 (f_l_names T) (aCons (eV 0) (aNil)))) (eLen (aCons (eCall 1 (f_l_names T) (aCons (eV 0) (aNil))) (aNil))))))
    (sNil)
def f_l_is_right (T : Tx K κ mg) : Fn := Pv.fnOf 1 (b_l_is_right T).asg (b_l_is_right T).sv

abbrev s_l_is_pile : Stmt := topS 34
abbrev N_l_is_pile : List Str := ["_law_thing", "_law_lot", "_law_one", "_law_other"]
abbrev p_l_is_pile : List Str := ["_law_thing"]
theorem sc_l_is_pile : FnScope N_l_is_pile p_l_is_pile (defScope s_l_is_pile) := ⟨rfl, rfl, rfl, by decide +kernel, rfl, by decide +kernel, by decide +kernel⟩
def b_l_is_pile (T : Tx K κ mg) : SS K κ :=
    sSeq (sIf (tNot' (tV (eIsTy "tuple" (eV 0)))) (sSeq (sRet (eBl false))
    (sNil)) (sNil))
    (sSeq (sFor (iT (eV 0)) (gN 1) (sSeq (sIf (tOr' (tNot' (tV (eIsTy "tuple" (eV 1)))) (tV' (eNe (eLen (aCons (eV 1) (aNil))) (eInt 2)))) (sSeq (sRet (eBl false))
    (sNil)) (sNil))
    (sSeq (sIf (tOr' (tNot' (tV (eCall 2 (f_l_whole_from T) (aCons (eIxT (eV 1) (eInt 0)) (aCons (eInt 1) (aNil)))))) (tNot' (tV (eCall 2 (f_l_whole_from T) (aCons (eIxT (eV 1) (eInt 1)) (aCons (eInt 1) (aNil))))))) (sSeq (sRet (eBl false))
    (sNil)) (sNil))
    (sNil))))
    (sSeq (sRet (eAll (aCons (eLc (iZipT (eV 0) (eSlT (eV 0) (o1 (eInt 1)) (o0))) (gT 2 (gs1 (gN 2) (gs1 (gN 3) (gs0)))) (tYes') (eLt (eIxT (eV 2) (eInt 0)) (eIxT (eV 3) (eInt 0))) [2, 3] (fun _ h => h)) (aNil))))
    (sNil)))
def f_l_is_pile (T : Tx K κ mg) : Fn := Pv.fnOf 4 (b_l_is_pile T).asg (b_l_is_pile T).sv

abbrev s_l_pile : Stmt := topS 35
abbrev N_l_pile : List Str := ["_law_digits", "_law_most_worth", "_law_coins_here", "_law_k"]
abbrev p_l_pile : List Str := ["_law_digits", "_law_most_worth"]
theorem sc_l_pile : FnScope N_l_pile p_l_pile (defScope s_l_pile) := ⟨rfl, rfl, rfl, by decide +kernel, rfl, by decide +kernel, by decide +kernel⟩
def b_l_pile (T : Tx K κ mg) : SS K κ :=
    sSeq (sAsg 2 (eRepM (eLstM (aCons (eInt 1) (aNil))) (eCall 2 (f_l_take T) (aM 0 (aCons (eInt 6) (aNil))))))
    (sSeq (sFor (iR1 (eCall 2 (f_l_take T) (aM 0 (aCons (eInt 5) (aNil))))) (gN 3) (sSeq (sApp K rfl 2 (eAdd (eInt 1) (eCall 2 (f_l_take T) (aM 0 (aCons (eIxL (eLst (aCons (eInt 3) (aCons (eV 1) (aNil)))) (eCall 2 (f_l_take T) (aM 0 (aCons (eInt 2) (aNil))))) (aNil))))))
    (sNil)))
    (sSeq (sRet (eCall 1 (f_l_heap T) (aCons (eV 2) (aNil))))
    (sNil)))
def f_l_pile (T : Tx K κ mg) : Fn := Pv.fnOf 4 (b_l_pile T).asg (b_l_pile T).sv

abbrev s_l_changed : Stmt := topS 36
abbrev N_l_changed : List Str := ["_law_digits", "_law_pile_here", "_law_coins_here", "_law_coin"]
abbrev p_l_changed : List Str := ["_law_digits", "_law_pile_here"]
theorem sc_l_changed : FnScope N_l_changed p_l_changed (defScope s_l_changed) := ⟨rfl, rfl, rfl, by decide +kernel, rfl, by decide +kernel, by decide +kernel⟩
def b_l_changed (T : Tx K κ mg) : SS K κ :=
    sSeq (sAsg 2 (eCall 1 (f_l_coins T) (aCons (eV 1) (aNil))))
    (sSeq (sIf (tOr' (tPk (tV' (eEq (eV 2) (eLst (aNil))))) (tV' (eEq (eCall 2 (f_l_take T) (aM 0 (aCons (eInt 3) (aNil)))) (eInt 0)))) (sSeq (sRet (eCall 1 (f_l_heap T) (aCons (eCatL (eV 2) (eLst (aCons (eAdd (eInt 1) (eCall 2 (f_l_take T) (aM 0 (aCons (eInt 9) (aNil))))) (aNil)))) (aNil))))
    (sNil)) (sNil))
    (sSeq (sAsg 3 (ePopAt 2 (eCall 2 (f_l_take T) (aM 0 (aCons (eLenM 2) (aNil))))))
    (sSeq (sRet (eCall 1 (f_l_heap T) (aCons (eCatL (eV 2) (eRepL (eLstM (aCons (eAdd (eV 3) (eCall 2 (f_l_take T) (aM 0 (aCons (eInt 3) (aNil))))) (aNil))) (eCall 2 (f_l_take T) (aM 0 (aCons (eInt 2) (aNil)))))) (aNil))))
    (sNil))))
def f_l_changed (T : Tx K κ mg) : Fn := Pv.fnOf 4 (b_l_changed T).asg (b_l_changed T).sv

abbrev s_l_together : Stmt := topS 37
abbrev N_l_together : List Str := ["_law_one", "_law_other", "_law_found", "_law_worth", "_law_many"]
abbrev p_l_together : List Str := ["_law_one", "_law_other"]
theorem sc_l_together : FnScope N_l_together p_l_together (defScope s_l_together) := ⟨rfl, rfl, rfl, by decide +kernel, rfl, by decide +kernel, by decide +kernel⟩
def b_l_together (T : Tx K κ mg) : SS K κ :=
    sSeq (sAsg 2 (eDict (eV 0)))
    (sSeq (sFor (iT (eV 1)) (gT 2 (gs1 (gN 3) (gs1 (gN 4) (gs0)))) (sSeq (sSetD 2 (eV 3) (eAdd (eGetD 2 (eV 3) (eInt 0)) (eV 4)))
    (sNil)))
    (sSeq (sRet (eTupOf (aCons (eLc (iL (eSortD 2)) (gN 3) (tYes') (eTup (aCons (eV 3) (aCons (eIxD 2 (eV 3)) (aNil)))) [3] (fun _ h => h)) (aNil))))
    (sNil)))
def f_l_together (T : Tx K κ mg) : Fn := Pv.fnOf 5 (b_l_together T).asg (b_l_together T).sv

abbrev s_l_due : Stmt := topS 38
abbrev N_l_due : List Str := ["_law_one", "_law_other", "_law_bounds", "_law_worth", "_law_many", "_law_bound"]
abbrev p_l_due : List Str := ["_law_one", "_law_other"]
theorem sc_l_due : FnScope N_l_due p_l_due (defScope s_l_due) := ⟨rfl, rfl, rfl, by decide +kernel, rfl, by decide +kernel, by decide +kernel⟩
def b_l_due (T : Tx K κ mg) : SS K κ :=
    sSeq (sAsg 2 (eLc (iT (eCatT (eV 0) (eV 1))) (gT 2 (gs1 (gN 3) (gs1 (gN 4) (gs0)))) (tYes') (eAdd (eV 3) (eInt 1)) [3, 4] (fun _ h => h)))
    (sSeq (sRet (eEq (eLc (iL (eV 2)) (gN 5) (tV' (eLt (eCall 2 (f_l_under T) (aCons (eV 0) (aCons (eV 5) (aNil)))) (eCall 2 (f_l_under T) (aCons (eV 1) (aCons (eV 5) (aNil)))))) (eV 5) [5] (fun _ h => h)) (eLst (aNil))))
    (sNil))
def f_l_due (T : Tx K κ mg) : Fn := Pv.fnOf 6 (b_l_due T).asg (b_l_due T).sv

abbrev s_l_good : Stmt := topS 39
abbrev N_l_good : List Str := ["_law_one", "_law_other", "_law_due_here", "_law_told", "_law_company", "_law_right"]
abbrev p_l_good : List Str := ["_law_one", "_law_other"]
theorem sc_l_good : FnScope N_l_good p_l_good (defScope s_l_good) := ⟨rfl, rfl, rfl, by decide +kernel, rfl, by decide +kernel, by decide +kernel⟩
def b_l_good (T : Tx K κ mg) : SS K κ :=
    sSeq (sAsg 2 (eCall 2 (f_l_due T) (aCons (eV 0) (aCons (eV 1) (aNil)))))
    (sSeq (sAsg 3 (eCall 2 (f_telling_company T) (aCons (eV 0) (aCons (eV 1) (aNil)))))
    (sSeq (sIf (tOr' (tV' (eNe (eCall 2 (f_outdoes T) (aCons (eV 0) (aCons (eV 1) (aNil)))) (eV 2))) (tOr' (tNot' (tV (eIsTy "bool" (eCall 2 (f_outdoes T) (aCons (eV 0) (aCons (eV 1) (aNil))))))) (tV' (eNe (eV 2) (eIsN (eV 3)))))) (sSeq (sRet (eBl false))
    (sNil)) (sNil))
    (sSeq (sIf (tV (eV 2)) (sSeq (sRet (eBl true))
    (sNil)) (sNil))
    (sSeq (sIf (tOr' (tNot' (tV (eIsTy "tuple" (eV 3)))) (tOr' (tV' (eNe (eLen (aCons (eV 3) (aNil))) (eInt 2))) (tOr' (tNot' (tV (eCall 1 (f_l_is_pile T) (aCons (eIxT (eV 3) (eInt 0)) (aNil))))) (tNot' (tV (eCall 1 (f_l_is_right T) (aCons (eIxT (eV 3) (eInt 1)) (aNil)))))))) (sSeq (sRet (eBl false))
    (sNil)) (sNil))
    (sSeq (sAsgG (gT 2 (gs1 (gN 4) (gs1 (gN 5) (gs0)))) (eV 3))
    (sSeq (sRet (eAndV (eCall 2 (f_l_holds T) (aCons (eCall 2 (f_l_together T) (aCons (eV 1) (aCons (eV 4) (aNil)))) (aCons (eV 5) (aNil)))) (eNotV (eCall 2 (f_l_holds T) (aCons (eCall 2 (f_l_together T) (aCons (eV 0) (aCons (eV 4) (aNil)))) (aCons (eV 5) (aNil)))))))
    (sNil)))))))
def f_l_good (T : Tx K κ mg) : Fn := Pv.fnOf 6 (b_l_good T).asg (b_l_good T).sv

abbrev s_law : Stmt := topS 40
abbrev N_law : List Str := ["_law_script", "_law_turn", "_law_some", "_law_digits", "_law_k", "_law_one", "_law_other", "_law_great"]
abbrev p_law : List Str := ["_law_script"]
theorem sc_law : FnScope N_law p_law (defScope s_law) := ⟨rfl, rfl, rfl, by decide +kernel, rfl, by decide +kernel, by decide +kernel⟩
def b_law (T : Tx K κ mg) : SS K κ :=
    sSeq (sFor (iR1 (eMax2 (aCons (eMin2 (aCons (eLen (aCons (eV 0) (aNil))) (aCons (eInt 6) (aNil)))) (aCons (eInt 1) (aNil))))) (gN 1) (sSeq (sAsg 3 (eLstM (aCons (eCall 2 (f_l_cell T) (aCons (eV 0) (aCons (eV 1) (aNil)))) (aNil))))
    (sSeq (sFor (iR1 (eInt 3)) (gN 4) (sSeq (sAsg 5 (eCall 2 (f_l_pile T) (aM 3 (aCons (eInt 12) (aNil)))))
    (sSeq (sAsg 6 (eCall 2 (f_l_changed T) (aM 3 (aCons (eV 5) (aNil)))))
    (sSeq (sIf (tV' (eEq (eCall 2 (f_l_take T) (aM 3 (aCons (eInt 3) (aNil)))) (eInt 0))) (sSeq (sAsg 6 (eCall 2 (f_l_pile T) (aM 3 (aCons (eInt 12) (aNil)))))
    (sNil)) (sNil))
    (sSeq (sIf (tOr' (tNot' (tV (eCall 2 (f_l_good T) (aCons (eV 5) (aCons (eV 6) (aNil)))))) (tOr' (tNot' (tV (eCall 2 (f_l_good T) (aCons (eV 6) (aCons (eV 5) (aNil)))))) (tNot' (tV (eCall 2 (f_l_good T) (aCons (eV 5) (aCons (eV 5) (aNil)))))))) (sSeq (sRet (eBl false))
    (sNil)) (sNil))
    (sSeq (sAsg 7 (eTup (aCons (eTup (aCons (eAdd (eInt 1) (eCall 2 (f_l_take T) (aM 3 (aCons (ePow (eInt 10) (eInt 11)) (aNil))))) (aCons (eAdd (eInt 1) (eCall 2 (f_l_take T) (aM 3 (aCons (eInt 9) (aNil))))) (aNil)))) (aNil))))
    (sSeq (sIf (tOr' (tV' (eNe (eCall 2 (f_outdoes T) (aCons (eV 7) (aCons (eV 5) (aNil)))) (eCall 2 (f_l_due T) (aCons (eV 7) (aCons (eV 5) (aNil)))))) (tV' (eNe (eCall 2 (f_outdoes T) (aCons (eV 5) (aCons (eV 7) (aNil)))) (eCall 2 (f_l_due T) (aCons (eV 5) (aCons (eV 7) (aNil))))))) (sSeq (sRet (eBl false))
    (sNil)) (sNil))
    (sNil))))))))
    (sNil))))
    (sSeq (sIf (tOr' (tNot' (tV (eCall 2 (f_l_good T) (aCons (eTup (aCons (eTup (aCons (eInt 2) (aCons (eInt 100) (aNil)))) (aNil))) (aCons (eTup (aCons (eTup (aCons (eInt 1) (aCons (eInt 200) (aNil)))) (aNil))) (aNil)))))) (tNot' (tV (eCall 2 (f_l_good T) (aCons (eTup (aCons (eTup (aCons (eInt 1) (aCons (eInt 200) (aNil)))) (aNil))) (aCons (eTup (aCons (eTup (aCons (eInt 200) (aCons (eInt 1) (aNil)))) (aNil))) (aNil))))))) (sSeq (sRet (eBl false))
    (sNil)) (sNil))
    (sSeq (sAsg 2 (eLst (aCons (eTup (aCons (eTup (aCons (eInt 1) (aCons (eInt 1) (aNil)))) (aCons (eTup (aCons (eInt 2) (aCons (eInt 1) (aNil)))) (aCons (eTup (aCons (eInt 4) (aCons (eInt 1) (aNil)))) (aNil))))) (aCons (eTup (aCons (eTup (aCons (eInt 1) (aCons (eInt 1) (aNil)))) (aCons (eTup (aCons (eInt 2) (aCons (eInt 3) (aNil)))) (aNil)))) (aNil)))))
    (sSeq (sRet (eAndV (eNotV (eCall 2 (f_outdoes T) (aCons (eIxL (eV 2) (eInt 0)) (aCons (eIxL (eV 2) (eInt 1)) (aNil))))) (eCall 2 (f_outdoes T) (aCons (eIxL (eV 2) (eInt 1)) (aCons (eIxL (eV 2) (eInt 0)) (aNil))))))
    (sNil))))
def f_law (T : Tx K κ mg) : Fn := Pv.fnOf 8 (b_law T).asg (b_law T).sv

end
end K49

set_option maxRecDepth 100000
set_option maxHeartbeats 4000000
namespace K49
open PySem PySem.Spec PyProof.Rows L2 Pv
section
variable {P : Program} {w : World} {K : PySem.W.Frag} {κ : Cls} {mg : Str → Option Value} {base : Heap}
theorem ok_l_mixed {a : Addr} {fd : FuncData} (T : Tx K κ mg) (F : Fun K "_law_mixed" "_law_mixed" s_l_mixed a fd)  : FnX P w K κ mg base 1 a fd p_l_mixed (f_l_mixed T) := by
  refine fnx_of F sc_l_mixed (by decide) fun cdv A outer s H E Wx hr hq tk => ?_
  have hu := hr.units
  have hu2 := hu_str hr
  have hu1 := hu_of hr
  exact ⟨_, pss_cons (ps_set (i := 2) sc_l_mixed.nd rfl (Or.inl rfl) (pe_op op_mod (pe_op op_add (pe_op op_add (pe_op op_mul (pe_op op_mod (pv 0) (pe_int)) (pe_int)) (pe_op op_mul (pv 1) (pe_int))) (pe_int)) (pe_int)))
    (pss_cons (ps_set (i := 2) sc_l_mixed.nd rfl (Or.inl rfl) (pe_op op_mod (pe_op op_mul (pv 2) (pv 2)) (pe_int)))
    (pss_cons (ps_ret (pe_op op_mod (pe_op op_mul (pv 2) (pe_op op_add (pv 2) (pe_int))) (pe_int)))
    (pss_nil))), rfl⟩
end
end K49

set_option maxRecDepth 100000
set_option maxHeartbeats 4000000
namespace K49
open PySem PySem.Spec PyProof.Rows L2 Pv
section
variable {P : Program} {w : World} {K : PySem.W.Frag} {κ : Cls} {mg : Str → Option Value} {base : Heap}
theorem ok_l_cell {a : Addr} {fd : FuncData} (T : Tx K κ mg) (F : Fun K "_law_cell" "_law_cell" s_l_cell a fd) (D_l_mixed : Def P w K κ mg base "_law_mixed" 1 p_l_mixed (f_l_mixed T)) : FnX P w K κ mg base 2 a fd p_l_cell (f_l_cell T) := by
  refine fnx_of F sc_l_cell (by decide) fun cdv A outer s H E Wx hr hq tk => ?_
  have hu := hr.units
  have hu2 := hu_str hr
  have hu1 := hu_of hr
  exact ⟨_, pss_cons (ps_set (i := 2) sc_l_cell.nd rfl (Or.inl rfl) (pe_int))
    (pss_cons (ps_if (pt_cmpR op_lt (pv 1) (pe_callB call_len_seq (by rfl) T.z_len (by decide +kernel) (pa_cons (pv 0) (pa_nil))) (nomark _)) (pss_cons (ps_set (i := 2) sc_l_cell.nd rfl (Or.inl rfl) (pe_ix ix_list (pv 0) (pv 1) (fun _ _ => rfl)))
    (pss_nil)) (pss_nil))
    (pss_cons (ps_if (pt_cmpR op_ge (pv 2) (pe_op op_pow (pe_int) (pe_int)) (nomark _)) (pss_cons (ps_ret (pe_op op_mod (pe_op op_sub (pv 2) (pe_op op_pow (pe_int) (pe_int))) (pe_op op_mulW (pe_op op_mulW (pe_op op_mulW (pe_op op_pow (pe_int) (pe_int)) (pe_op op_pow (pe_int) (pe_int))) (pe_op op_pow (pe_int) (pe_int))) (pe_op op_pow (pe_int) (pe_int)))))
    (pss_nil)) (pss_nil))
    (pss_cons (ps_set (i := 3) sc_l_cell.nd rfl (Or.inl rfl) (pe_int))
    (pss_cons (ps_for (passes_of rfl) rfl (pi_range1 (by rfl) T.z_range (pa_cons (pe_int) pa_nil)) (pg_name (i := 4) sc_l_cell.nd rfl (Or.inl rfl)) (pss_cons (ps_set (i := 3) sc_l_cell.nd rfl (Or.inl rfl) (pe_op op_add (pe_op op_mul (pv 3) (pe_int)) (pe_defK D_l_mixed ⟨rfl, rfl, rfl, rfl, rfl⟩ hr (by decide) hq tk (pa_cons (pv 2) (pa_cons (pe_op op_add (pe_op op_add (pe_op op_mul (pe_int) (pv 1)) (pe_op op_mul (pe_int) (pv 4))) (pe_op op_mul (pv 4) (pv 4))) (pa_nil))))))
    (pss_nil)))
    (pss_cons (ps_ret (pv 3))
    (pss_nil)))))), rfl⟩
end
end K49

set_option maxRecDepth 100000
set_option maxHeartbeats 4000000
namespace K49
open PySem PySem.Spec PyProof.Rows L2 Pv
section
variable {P : Program} {w : World} {K : PySem.W.Frag} {κ : Cls} {mg : Str → Option Value} {base : Heap}
theorem ok_l_coins {a : Addr} {fd : FuncData} (T : Tx K κ mg) (F : Fun K "_law_coins" "_law_coins" s_l_coins a fd)  : FnX P w K κ mg base 1 a fd p_l_coins (f_l_coins T) := by
  refine fnx_of F sc_l_coins (by decide) fun cdv A outer s H E Wx hr hq tk => ?_
  have hu := hr.units
  have hu2 := hu_str hr
  have hu1 := hu_of hr
  exact ⟨_, pss_cons (ps_set (i := 1) sc_l_coins.nd rfl (Or.inl rfl) (pe_lst (pa_nil)))
    (pss_cons (ps_for (passes_of rfl) rfl (pi_tup (pv 0)) (pg_tup (by rfl) (pgs_cons (pg_name (i := 2) sc_l_coins.nd rfl (Or.inl rfl)) (pgs_cons (pg_name (i := 3) sc_l_coins.nd rfl (Or.inl rfl)) (pgs_nil)))) (pss_cons (ps_set (i := 1) sc_l_coins.nd rfl (Or.inl rfl) (pe_op op_catL (pv 1) (pe_op op_rep (pe_lst (pa_cons (pv 2) (pa_nil))) (pv 3))))
    (pss_nil)))
    (pss_cons (ps_ret (pv 1))
    (pss_nil))), rfl⟩
end
end K49

set_option maxRecDepth 100000
set_option maxHeartbeats 4000000
namespace K49
open PySem PySem.Spec PyProof.Rows L2 Pv
section
variable {P : Program} {w : World} {K : PySem.W.Frag} {κ : Cls} {mg : Str → Option Value} {base : Heap}
theorem ok_l_heap {a : Addr} {fd : FuncData} (T : Tx K κ mg) (F : Fun K "_law_heap" "_law_heap" s_l_heap a fd)  : FnX P w K κ mg base 1 a fd p_l_heap (f_l_heap T) := by
  refine fnx_of F sc_l_heap (by decide) fun cdv A outer s H E Wx hr hq tk => ?_
  have hu := hr.units
  have hu2 := hu_str hr
  have hu1 := hu_of hr
  exact ⟨_, pss_cons (ps_set (i := 1) sc_l_heap.nd rfl (Or.inl rfl) (pe_lst (pa_nil)))
    (pss_cons (ps_for (passes_of rfl) rfl (pi_list (pe_callB cr_sortedI (by rfl) T.z_sorted (by decide +kernel) (pa_cons (pv 0) pa_nil))) (pg_name (i := 2) sc_l_heap.nd rfl (Or.inl rfl)) (pss_cons (ps_if (PW.pt (pw_and (pt_cmpR (op_neD hu) (pv 1) (pe_lst (pa_nil)) (nomark _)) (pw_and1 (pt_cmpR (op_eqD hu) (pe_ix ix_tup (pe_ix ix_list (pv 1) (pe_un un_neg pe_int) (fun _ _ => rfl)) (pe_int) (fun _ _ => rfl)) (pv 2) (nomark _))))) (pss_cons (ps_asg (pe_tupP (pa_cons (pv 2) (pa_cons (pe_op op_add (pe_ix ix_tup (pe_ix ix_list (pv 1) (pe_un un_neg pe_int) (fun _ _ => rfl)) (pe_int) (fun _ _ => rfl)) (pe_int)) (pa_nil)))) (pg_sub (pv 1) (pe_un un_neg pe_int) set_list))
    (pss_nil)) (pss_cons (ps_expr (pe_bm PySem.F.plainAttrs_list PySem.F.slot_list_append PySem.F.type_list_append mt_append (pv 1) (pa_cons (pe_tupP (pa_cons (pv 2) (pa_cons (pe_int) (pa_nil)))) pa_nil)))
    (pss_nil)))
    (pss_nil)))
    (pss_cons (ps_ret (pe_callTy call_tupP (by rfl) T.z_tuple (by decide +kernel) (pa_cons (pv 1) (pa_nil))))
    (pss_nil))), rfl⟩
end
end K49

set_option maxRecDepth 100000
set_option maxHeartbeats 4000000
namespace K49
open PySem PySem.Spec PyProof.Rows L2 Pv
section
variable {P : Program} {w : World} {K : PySem.W.Frag} {κ : Cls} {mg : Str → Option Value} {base : Heap}
theorem ok_l_take {a : Addr} {fd : FuncData} (T : Tx K κ mg) (F : Fun K "_law_take" "_law_take" s_l_take a fd)  : FnX P w K κ mg base 1 a fd p_l_take (f_l_take T) := by
  refine fnx_of F sc_l_take (by decide) fun cdv A outer s H E Wx hr hq tk => ?_
  have hu := hr.units
  have hu2 := hu_str hr
  have hu1 := hu_of hr
  exact ⟨_, pss_cons (ps_set (i := 2) sc_l_take.nd rfl (Or.inl rfl) (pe_op op_mod (pe_ix ix_list (pv 0) (pe_int) (fun _ _ => rfl)) (pv 1)))
    (pss_cons (ps_asg (pe_op op_fdivW (pe_ix ix_list (pv 0) (pe_int) (fun _ _ => rfl)) (pv 1)) (pg_sub (pv 0) pe_int set_list))
    (pss_cons (ps_ret (pv 2))
    (pss_nil))), rfl⟩
end
end K49

set_option maxRecDepth 100000
set_option maxHeartbeats 4000000
namespace K49
open PySem PySem.Spec PyProof.Rows L2 Pv
section
variable {P : Program} {w : World} {K : PySem.W.Frag} {κ : Cls} {mg : Str → Option Value} {base : Heap}
theorem ok_l_changed {a : Addr} {fd : FuncData} (T : Tx K κ mg) (F : Fun K "_law_changed" "_law_changed" s_l_changed a fd) (D_l_coins : Def P w K κ mg base "_law_coins" 1 p_l_coins (f_l_coins T)) (D_l_heap : Def P w K κ mg base "_law_heap" 1 p_l_heap (f_l_heap T)) (D_l_take : Def P w K κ mg base "_law_take" 1 p_l_take (f_l_take T)) : FnX P w K κ mg base 2 a fd p_l_changed (f_l_changed T) := by
  refine fnx_of F sc_l_changed (by decide) fun cdv A outer s H E Wx hr hq tk => ?_
  have hu := hr.units
  have hu2 := hu_str hr
  have hu1 := hu_of hr
  exact ⟨_, pss_cons (ps_set (i := 2) sc_l_changed.nd rfl (Or.inl rfl) (pe_defK D_l_coins ⟨rfl, rfl, rfl, rfl, rfl⟩ hr (by decide) hq tk (pa_cons (pv 1) (pa_nil))))
    (pss_cons (ps_if (PW.pt (pw_or (pt_cmpR (op_eqD hu) (pv 2) (pe_lst (pa_nil)) (nomark _)) (pw_or1 (pt_cmpR (op_eqD hu) (pe_defK D_l_take ⟨rfl, rfl, rfl, rfl, rfl⟩ hr (by decide) hq tk (pa_cons (pv 0) (pa_cons (pe_int) (pa_nil)))) (pe_int) (nomark _))))) (pss_cons (ps_ret (pe_defK D_l_heap ⟨rfl, rfl, rfl, rfl, rfl⟩ hr (by decide) hq tk (pa_cons (pe_op op_catL (pv 2) (pe_lst (pa_cons (pe_op op_add (pe_int) (pe_defK D_l_take ⟨rfl, rfl, rfl, rfl, rfl⟩ hr (by decide) hq tk (pa_cons (pv 0) (pa_cons (pe_int) (pa_nil))))) (pa_nil)))) (pa_nil))))
    (pss_nil)) (pss_nil))
    (pss_cons (ps_set (i := 3) sc_l_changed.nd rfl (Or.inl rfl) (pe_bm PySem.F.plainAttrs_list PySem.F.slot_list_pop PySem.F.type_list_pop mt_popAt (pv 2) (pa_cons (pe_defK D_l_take ⟨rfl, rfl, rfl, rfl, rfl⟩ hr (by decide) hq tk (pa_cons (pv 0) (pa_cons (pe_callB call_len_seq (by rfl) T.z_len boot_len (pa_cons (pv 2) pa_nil)) (pa_nil)))) pa_nil)))
    (pss_cons (ps_ret (pe_defK D_l_heap ⟨rfl, rfl, rfl, rfl, rfl⟩ hr (by decide) hq tk (pa_cons (pe_op op_catL (pv 2) (pe_op op_rep (pe_lst (pa_cons (pe_op op_add (pv 3) (pe_defK D_l_take ⟨rfl, rfl, rfl, rfl, rfl⟩ hr (by decide) hq tk (pa_cons (pv 0) (pa_cons (pe_int) (pa_nil))))) (pa_nil))) (pe_defK D_l_take ⟨rfl, rfl, rfl, rfl, rfl⟩ hr (by decide) hq tk (pa_cons (pv 0) (pa_cons (pe_int) (pa_nil)))))) (pa_nil))))
    (pss_nil)))), rfl⟩
end
end K49

set_option maxRecDepth 100000
set_option maxHeartbeats 4000000
namespace K49
open PySem PySem.Spec PyProof.Rows L2 Pv
section
variable {P : Program} {w : World} {K : PySem.W.Frag} {κ : Cls} {mg : Str → Option Value} {base : Heap}
theorem ok_l_under {a : Addr} {fd : FuncData} (T : Tx K κ mg) (F : Fun K "_law_under" "_law_under" s_l_under a fd)  : FnX P w K κ mg base 1 a fd p_l_under (f_l_under T) := by
  refine fnx_of F sc_l_under (by decide) fun cdv A outer s H E Wx hr hq tk => ?_
  have hu := hr.units
  have hu2 := hu_str hr
  have hu1 := hu_of hr
  exact ⟨_, pss_cons (ps_ret (pe_callB (cr_sum rfl) (by rfl) T.z_sum (by decide +kernel) (pa_cons (pe_lc (own := [("_law_worth", 2), ("_law_many", 3)]) rfl sc_l_under.nd (pi_tup (pv 0)) (blkOk_by (own := [("_law_worth", 2), ("_law_many", 3)]) (N := N_l_under) (sc := defScope s_l_under) (by decide +kernel)) (fun _ _ _ _ _ => by exact (pg_tup (by rfl) (pgs_cons (pg_name (i := 2) sc_l_under.nd rfl (Or.inl rfl)) (pgs_cons (pg_name (i := 3) sc_l_under.nd rfl (Or.inl rfl)) (pgs_nil))))) (fun _ _ _ _ _ => by exact (pts_one (PW.pt (pw_or (pt_cmp (pc_isN (pv 1)) rfl) (pw_or1 (pt_cmpR op_lt (pv 2) (pv 1) (nomark _))))))) (fun _ _ _ _ _ => by exact (pe_op op_mul (pv 2) (pv 3)))) (pa_nil))))
    (pss_nil), rfl⟩
end
end K49

set_option maxRecDepth 100000
set_option maxHeartbeats 4000000
namespace K49
open PySem PySem.Spec PyProof.Rows L2 Pv
section
variable {P : Program} {w : World} {K : PySem.W.Frag} {κ : Cls} {mg : Str → Option Value} {base : Heap}
theorem ok_l_due {a : Addr} {fd : FuncData} (T : Tx K κ mg) (F : Fun K "_law_due" "_law_due" s_l_due a fd) (D_l_under : Def P w K κ mg base "_law_under" 1 p_l_under (f_l_under T)) : FnX P w K κ mg base 2 a fd p_l_due (f_l_due T) := by
  refine fnx_of F sc_l_due (by decide) fun cdv A outer s H E Wx hr hq tk => ?_
  have hu := hr.units
  have hu2 := hu_str hr
  have hu1 := hu_of hr
  exact ⟨_, pss_cons (ps_setLc (i := 2) (own := [("_law_worth", 3), ("_law_many", 4)]) rfl sc_l_due.nd rfl rfl (sw_true rfl rfl rfl (by decide +kernel)) (pi_tup (pe_op op_catP (pv 0) (pv 1))) (blkOk_by (own := [("_law_worth", 3), ("_law_many", 4)]) (N := N_l_due) (sc := defScope s_l_due) (by decide +kernel)) (fun _ _ _ _ _ => by exact (pg_tup (by rfl) (pgs_cons (pg_name (i := 3) sc_l_due.nd rfl (Or.inl rfl)) (pgs_cons (pg_name (i := 4) sc_l_due.nd rfl (Or.inl rfl)) (pgs_nil))))) (fun _ _ _ _ _ => by exact (pts_nil)) (fun _ _ _ _ _ => by exact (pe_op op_add (pv 3) (pe_int))))
    (pss_cons (ps_ret (pe_cmpR (op_eqD hu) (pe_lc (own := [("_law_bound", 5)]) rfl sc_l_due.nd (pi_list (pv 2)) (blkOk_by (own := [("_law_bound", 5)]) (N := N_l_due) (sc := defScope s_l_due) (by decide +kernel)) (fun _ _ _ _ _ => by exact (pg_name (i := 5) sc_l_due.nd rfl (Or.inl rfl))) (fun _ _ _ _ _ => by exact (pts_one (pt_cmpR op_lt (pe_defK D_l_under ⟨rfl, rfl, rfl, rfl, rfl⟩ hr (by decide) hq takes0 (pa_cons (pv 0) (pa_cons (pv 5) (pa_nil)))) (pe_defK D_l_under ⟨rfl, rfl, rfl, rfl, rfl⟩ hr (by decide) hq takes0 (pa_cons (pv 1) (pa_cons (pv 5) (pa_nil)))) (nomark _)))) (fun _ _ _ _ _ => by exact (pv 5))) (pe_lst (pa_nil)) (nomark _)))
    (pss_nil)), rfl⟩
end
end K49

set_option maxRecDepth 100000
set_option maxHeartbeats 4000000
namespace K49
open PySem PySem.Spec PyProof.Rows L2 Pv
section
variable {P : Program} {w : World} {K : PySem.W.Frag} {κ : Cls} {mg : Str → Option Value} {base : Heap}
theorem ok_l_sum {a : Addr} {fd : FuncData} (T : Tx K κ mg) (F : Fun K "_law_sum" "_law_sum" s_l_sum a fd)  : FnX P w K κ mg base 1 a fd p_l_sum (f_l_sum T) := by
  refine fnx_of F sc_l_sum (by decide) fun cdv A outer s H E Wx hr hq tk => ?_
  have hu := hr.units
  have hu2 := hu_str hr
  have hu1 := hu_of hr
  exact ⟨_, pss_cons (ps_ret (pe_callB (cr_sum rfl) (by rfl) T.z_sum (by decide +kernel) (pa_cons (pe_lc (own := [("_law_worth", 1), ("_law_many", 2)]) rfl sc_l_sum.nd (pi_tup (pv 0)) (blkOk_by (own := [("_law_worth", 1), ("_law_many", 2)]) (N := N_l_sum) (sc := defScope s_l_sum) (by decide +kernel)) (fun _ _ _ _ _ => by exact (pg_tup (by rfl) (pgs_cons (pg_name (i := 1) sc_l_sum.nd rfl (Or.inl rfl)) (pgs_cons (pg_name (i := 2) sc_l_sum.nd rfl (Or.inl rfl)) (pgs_nil))))) (fun _ _ _ _ _ => by exact (pts_nil)) (fun _ _ _ _ _ => by exact (pe_op op_mul (pv 1) (pv 2)))) (pa_nil))))
    (pss_nil), rfl⟩
end
end K49

set_option maxRecDepth 100000
set_option maxHeartbeats 4000000
namespace K49
open PySem PySem.Spec PyProof.Rows L2 Pv
section
variable {P : Program} {w : World} {K : PySem.W.Frag} {κ : Cls} {mg : Str → Option Value} {base : Heap}
theorem ok_l_top {a : Addr} {fd : FuncData} (T : Tx K κ mg) (F : Fun K "_law_top" "_law_top" s_l_top a fd)  : FnX P w K κ mg base 1 a fd p_l_top (f_l_top T) := by
  refine fnx_of F sc_l_top (by decide) fun cdv A outer s H E Wx hr hq tk => ?_
  have hu := hr.units
  have hu2 := hu_str hr
  have hu1 := hu_of hr
  exact ⟨_, pss_cons (ps_set (i := 2) sc_l_top.nd rfl (Or.inl rfl) (pe_ix ix_tup (pv 0) (pe_int) (fun _ _ => rfl)))
    (pss_cons (ps_if (pt_cmpR (op_eqD hu) (pv 2) (pe_str) (nomark _)) (pss_cons (ps_ret (pe_op op_mul (pe_ix ix_tup (pv 0) (pe_int) (fun _ _ => rfl)) (pe_ifExp (pt_cmp (pc_isN (pv 1)) rfl) (pe_ix ix_tup (pv 0) (pe_int) (fun _ _ => rfl)) (pe_callB (call_min2 rfl) (by rfl) T.z_min (by decide +kernel) (pa_cons (pe_ix ix_tup (pv 0) (pe_int) (fun _ _ => rfl)) (pa_cons (pe_op op_sub (pv 1) (pe_int)) (pa_nil)))))))
    (pss_nil)) (pss_nil))
    (pss_cons (ps_never)
    (pss_cons (ps_never)
    (pss_cons (ps_never)
    (pss_cons (ps_never)
    (pss_cons (ps_never)
    (pss_nil))))))), rfl⟩
end
end K49

set_option maxRecDepth 100000
set_option maxHeartbeats 4000000
namespace K49
open PySem PySem.Spec PyProof.Rows L2 Pv
section
variable {P : Program} {w : World} {K : PySem.W.Frag} {κ : Cls} {mg : Str → Option Value} {base : Heap}
theorem ok_l_holds {a : Addr} {fd : FuncData} (T : Tx K κ mg) (F : Fun K "_law_holds" "_law_holds" s_l_holds a fd) (D_l_sum : Def P w K κ mg base "_law_sum" 1 p_l_sum (f_l_sum T)) (D_l_top : Def P w K κ mg base "_law_top" 1 p_l_top (f_l_top T)) (D_l_under : Def P w K κ mg base "_law_under" 1 p_l_under (f_l_under T)) : FnX P w K κ mg base 2 a fd p_l_holds (f_l_holds T) := by
  refine fnx_of F sc_l_holds (by decide) fun cdv A outer s H E Wx hr hq tk => ?_
  have hu := hr.units
  have hu2 := hu_str hr
  have hu1 := hu_of hr
  exact ⟨_, pss_cons (ps_for (passes_of rfl) rfl (pi_tup (pv 0)) (pg_tup (by rfl) (pgs_cons (pg_name (i := 2) sc_l_holds.nd rfl (Or.inl rfl)) (pgs_cons (pg_name (i := 3) sc_l_holds.nd rfl (Or.inl rfl)) (pgs_nil)))) (pss_cons (ps_if (PW.pt (pw_and (pt_cmpR op_gt (pv 2) (pe_int) (nomark _)) (pw_and1 (pt_cmpR op_gt (pe_defK D_l_top ⟨rfl, rfl, rfl, rfl, rfl⟩ hr (by decide) hq tk (pa_cons (pv 1) (pa_cons (pv 2) (pa_nil)))) (pe_defK D_l_under ⟨rfl, rfl, rfl, rfl, rfl⟩ hr (by decide) hq tk (pa_cons (pv 0) (pa_cons (pv 2) (pa_nil)))) (nomark _))))) (pss_cons (ps_ret (pe_bl))
    (pss_nil)) (pss_nil))
    (pss_nil)))
    (pss_cons (ps_ret (pe_cmpR op_le (pe_defK D_l_top ⟨rfl, rfl, rfl, rfl, rfl⟩ hr (by decide) hq tk (pa_cons (pv 1) (pa_cons (pe_non) (pa_nil)))) (pe_defK D_l_sum ⟨rfl, rfl, rfl, rfl, rfl⟩ hr (by decide) hq tk (pa_cons (pv 0) (pa_nil))) (nomark _)))
    (pss_nil)), rfl⟩
end
end K49

set_option maxRecDepth 100000
set_option maxHeartbeats 4000000
namespace K49
open PySem PySem.Spec PyProof.Rows L2 Pv
section
variable {P : Program} {w : World} {K : PySem.W.Frag} {κ : Cls} {mg : Str → Option Value} {base : Heap}
theorem ok_l_whole_from {a : Addr} {fd : FuncData} (T : Tx K κ mg) (F : Fun K "_law_whole_from" "_law_whole_from" s_l_whole_from a fd)  : FnX P w K κ mg base 1 a fd p_l_whole_from (f_l_whole_from T) := by
  refine fnx_of F sc_l_whole_from (by decide) fun cdv A outer s H E Wx hr hq tk => ?_
  have hu := hr.units
  have hu2 := hu_str hr
  have hu1 := hu_of hr
  exact ⟨_, pss_cons (ps_ret (pe_and (pe_callB call_isD (by rfl) T.z_isinstance (by decide +kernel) (pa_cons (pv 0) (pa_cons (pe_bltn (v := .ty "int") (u := .type "int") (by rfl) T.z_int (by decide +kernel) rfl) pa_nil))) (pe_and (pe_not (pe_callB call_isD (by rfl) T.z_isinstance (by decide +kernel) (pa_cons (pv 0) (pa_cons (pe_bltn (v := .ty "bool") (u := .type "bool") (by rfl) T.z_bool (by decide +kernel) rfl) pa_nil)))) (pe_one (pe_cmpR op_ge (pv 0) (pv 1) (nomark _))))))
    (pss_nil), rfl⟩
end
end K49

set_option maxRecDepth 100000
set_option maxHeartbeats 4000000
namespace K49
open PySem PySem.Spec PyProof.Rows L2 Pv
section
variable {P : Program} {w : World} {K : PySem.W.Frag} {κ : Cls} {mg : Str → Option Value} {base : Heap}
theorem ok_l_is_pile {a : Addr} {fd : FuncData} (T : Tx K κ mg) (F : Fun K "_law_is_pile" "_law_is_pile" s_l_is_pile a fd) (D_l_whole_from : Def P w K κ mg base "_law_whole_from" 1 p_l_whole_from (f_l_whole_from T)) : FnX P w K κ mg base 2 a fd p_l_is_pile (f_l_is_pile T) := by
  refine fnx_of F sc_l_is_pile (by decide) fun cdv A outer s H E Wx hr hq tk => ?_
  have hu := hr.units
  have hu2 := hu_str hr
  have hu1 := hu_of hr
  exact ⟨_, pss_cons (ps_if (pt_not (pt_val (pe_callB call_isD (by rfl) T.z_isinstance (by decide +kernel) (pa_cons (pv 0) (pa_cons (pe_bltn (v := .ty "tuple") (u := .type "tuple") (by rfl) T.z_tuple (by decide +kernel) rfl) pa_nil))))) (pss_cons (ps_ret (pe_bl))
    (pss_nil)) (pss_nil))
    (pss_cons (ps_for (passes_of rfl) rfl (pi_tup (pv 0)) (pg_name (i := 1) sc_l_is_pile.nd rfl (Or.inl rfl)) (pss_cons (ps_if (PW.pt (pw_or (pt_not (pt_val (pe_callB call_isD (by rfl) T.z_isinstance (by decide +kernel) (pa_cons (pv 1) (pa_cons (pe_bltn (v := .ty "tuple") (u := .type "tuple") (by rfl) T.z_tuple (by decide +kernel) rfl) pa_nil))))) (pw_or1 (pt_cmpR (op_neD hu) (pe_callB call_len_seq (by rfl) T.z_len (by decide +kernel) (pa_cons (pv 1) (pa_nil))) (pe_int) (nomark _))))) (pss_cons (ps_ret (pe_bl))
    (pss_nil)) (pss_nil))
    (pss_cons (ps_if (PW.pt (pw_or (pt_not (pt_val (pe_defK D_l_whole_from ⟨rfl, rfl, rfl, rfl, rfl⟩ hr (by decide) hq tk (pa_cons (pe_ix ix_tup (pv 1) (pe_int) (fun _ _ => rfl)) (pa_cons (pe_int) (pa_nil)))))) (pw_or1 (pt_not (pt_val (pe_defK D_l_whole_from ⟨rfl, rfl, rfl, rfl, rfl⟩ hr (by decide) hq tk (pa_cons (pe_ix ix_tup (pv 1) (pe_int) (fun _ _ => rfl)) (pa_cons (pe_int) (pa_nil))))))))) (pss_cons (ps_ret (pe_bl))
    (pss_nil)) (pss_nil))
    (pss_nil))))
    (pss_cons (ps_ret (pe_callB (cr_all rfl) (by rfl) T.z_all (by decide +kernel) (pa_cons (pe_lc (own := [("_law_one", 2), ("_law_other", 3)]) rfl sc_l_is_pile.nd (RZ.pi_zipA (by rfl) T.z_zip (pa_cons (pv 0) (pa_cons (pe_slice sl_tupP (pv 0) (po_some (pe_int)) (po_none)) pa_nil))) (blkOk_by (own := [("_law_one", 2), ("_law_other", 3)]) (N := N_l_is_pile) (sc := defScope s_l_is_pile) (by decide +kernel)) (fun _ _ _ _ _ => by exact (pg_tup (by rfl) (pgs_cons (pg_name (i := 2) sc_l_is_pile.nd rfl (Or.inl rfl)) (pgs_cons (pg_name (i := 3) sc_l_is_pile.nd rfl (Or.inl rfl)) (pgs_nil))))) (fun _ _ _ _ _ => by exact (pts_nil)) (fun _ _ _ _ _ => by exact (pe_cmpR op_lt (pe_ix ix_tup (pv 2) (pe_int) (fun _ _ => rfl)) (pe_ix ix_tup (pv 3) (pe_int) (fun _ _ => rfl)) (nomark _)))) (pa_nil))))
    (pss_nil))), rfl⟩
end
end K49

set_option maxRecDepth 100000
set_option maxHeartbeats 4000000
namespace K49
open PySem PySem.Spec PyProof.Rows L2 Pv
section
variable {P : Program} {w : World} {K : PySem.W.Frag} {κ : Cls} {mg : Str → Option Value} {base : Heap}
theorem ok_l_tag {a : Addr} {fd : FuncData} (T : Tx K κ mg) (F : Fun K "_law_tag" "_law_tag" s_l_tag a fd)  : FnX P w K κ mg base 1 a fd p_l_tag (f_l_tag T) := by
  refine fnx_of F sc_l_tag (by decide) fun cdv A outer s H E Wx hr hq tk => ?_
  have hu := hr.units
  have hu2 := hu_str hr
  have hu1 := hu_of hr
  exact ⟨_, pss_cons (ps_if (PW.pt (pw_or (pt_not (pt_val (pe_callB call_isD (by rfl) T.z_isinstance (by decide +kernel) (pa_cons (pv 0) (pa_cons (pe_bltn (v := .ty "str") (u := .type "str") (by rfl) T.z_str (by decide +kernel) rfl) pa_nil))))) (pw_or1 (pt_not (pt_chain op_lt op_lt (pe_int) (pe_callB call_len_str (by rfl) T.z_len (by decide +kernel) (pa_cons (pv 0) (pa_nil))) (pe_int)))))) (pss_cons (ps_ret (pe_bl))
    (pss_nil)) (pss_nil))
    (pss_cons (ps_ret (pe_callB (cr_all rfl) (by rfl) T.z_all (by decide +kernel) (pa_cons (pe_lc (own := [("_law_sign", 1)]) rfl sc_l_tag.nd (pi_str (pv 0)) (blkOk_by (own := [("_law_sign", 1)]) (N := N_l_tag) (sc := defScope s_l_tag) (by decide +kernel)) (fun _ _ _ _ _ => by exact (pg_name (i := 1) sc_l_tag.nd rfl (Or.inl rfl))) (fun _ _ _ _ _ => by exact (pts_nil)) (fun _ _ _ _ _ => by exact (pe_cmpR op_in_sign (pv 1) (pe_str) (by rfl)))) (pa_nil))))
    (pss_nil)), rfl⟩
end
end K49

set_option maxRecDepth 100000
set_option maxHeartbeats 4000000
namespace K49
open PySem PySem.Spec PyProof.Rows L2 Pv
section
variable {P : Program} {w : World} {K : PySem.W.Frag} {κ : Cls} {mg : Str → Option Value} {base : Heap}
theorem ok_l_formed {a : Addr} {fd : FuncData} (T : Tx K κ mg) (F : Fun K "_law_formed" "_law_formed" s_l_formed a fd) (D_l_tag : Def P w K κ mg base "_law_tag" 1 p_l_tag (f_l_tag T)) (D_l_whole_from : Def P w K κ mg base "_law_whole_from" 1 p_l_whole_from (f_l_whole_from T)) : FnX P w K κ mg base 2 a fd p_l_formed (f_l_formed T) := by
  refine fnx_of F sc_l_formed (by decide) fun cdv A outer s H E Wx hr hq tk => ?_
  have hu := hr.units
  have hu2 := hu_str hr
  have hu1 := hu_of hr
  exact ⟨_, pss_cons (ps_if (PW.pt (pw_or (pt_not (pt_val (pe_callB call_isD (by rfl) T.z_isinstance (by decide +kernel) (pa_cons (pv 0) (pa_cons (pe_bltn (v := .ty "tuple") (u := .type "tuple") (by rfl) T.z_tuple (by decide +kernel) rfl) pa_nil))))) (pw_or (pt_cmpR (op_eqD hu) (pe_callB call_len_seq (by rfl) T.z_len (by decide +kernel) (pa_cons (pv 0) (pa_nil))) (pe_int) (nomark _)) (pw_or1 (pt_cmpR op_lt (pv 1) (pe_int) (nomark _)))))) (pss_cons (ps_ret (pe_bl))
    (pss_nil)) (pss_nil))
    (pss_cons (ps_if (PW.pt (pw_and (pt_cmpR (op_eqD hu) (pe_ix ix_tup (pv 0) (pe_int) (fun _ _ => rfl)) (pe_str) (nomark _)) (pw_and (pt_cmpR (op_eqD hu) (pe_callB call_len_seq (by rfl) T.z_len (by decide +kernel) (pa_cons (pv 0) (pa_nil))) (pe_int) (nomark _)) (pw_and1 (pt_val (pe_defK D_l_tag ⟨rfl, rfl, rfl, rfl, rfl⟩ hr (by decide) hq tk (pa_cons (pe_ix ix_tup (pv 0) (pe_int) (fun _ _ => rfl)) (pa_nil)))))))) (pss_cons (ps_ret (pe_and (pe_defK D_l_whole_from ⟨rfl, rfl, rfl, rfl, rfl⟩ hr (by decide) hq tk (pa_cons (pe_ix ix_tup (pv 0) (pe_int) (fun _ _ => rfl)) (pa_cons (pe_int) (pa_nil)))) (pe_one (pe_defK D_l_whole_from ⟨rfl, rfl, rfl, rfl, rfl⟩ hr (by decide) hq tk (pa_cons (pe_ix ix_tup (pv 0) (pe_int) (fun _ _ => rfl)) (pa_cons (pe_int) (pa_nil)))))))
    (pss_nil)) (pss_nil))
    (pss_cons (ps_never)
    (pss_cons (ps_never)
    (pss_cons (ps_never)
    (pss_nil))))), rfl⟩
end
end K49

set_option maxRecDepth 100000
set_option maxHeartbeats 4000000
namespace K49
open PySem PySem.Spec PyProof.Rows L2 Pv
section
variable {P : Program} {w : World} {K : PySem.W.Frag} {κ : Cls} {mg : Str → Option Value} {base : Heap}
theorem ok_l_names {a : Addr} {fd : FuncData} (T : Tx K κ mg) (F : Fun K "_law_names" "_law_names" s_l_names a fd)  : FnX P w K κ mg base 1 a fd p_l_names (f_l_names T) := by
  refine fnx_of F sc_l_names (by decide) fun cdv A outer s H E Wx hr hq tk => ?_
  have hu := hr.units
  have hu2 := hu_str hr
  have hu1 := hu_of hr
  exact ⟨_, pss_cons (ps_if (pt_cmpR (op_eqD hu) (pe_ix ix_tup (pv 0) (pe_int) (fun _ _ => rfl)) (pe_str) (nomark _)) (pss_cons (ps_ret (pe_lst (pa_cons (pe_ix ix_tup (pv 0) (pe_int) (fun _ _ => rfl)) (pa_nil))))
    (pss_nil)) (pss_nil))
    (pss_cons (ps_never)
    (pss_cons (ps_never)
    (pss_cons (ps_never)
    (pss_cons (ps_never)
    (pss_nil))))), rfl⟩
end
end K49

set_option maxRecDepth 100000
set_option maxHeartbeats 4000000
namespace K49
open PySem PySem.Spec PyProof.Rows L2 Pv
section
variable {P : Program} {w : World} {K : PySem.W.Frag} {κ : Cls} {mg : Str → Option Value} {base : Heap}
theorem ok_l_is_right {a : Addr} {fd : FuncData} (T : Tx K κ mg) (F : Fun K "_law_is_right" "_law_is_right" s_l_is_right a fd) (D_l_formed : Def P w K κ mg base "_law_formed" 2 p_l_formed (f_l_formed T)) (D_l_names : Def P w K κ mg base "_law_names" 1 p_l_names (f_l_names T)) : FnX P w K κ mg base 3 a fd p_l_is_right (f_l_is_right T) := by
  refine fnx_of F sc_l_is_right (by decide) fun cdv A outer s H E Wx hr hq tk => ?_
  have hu := hr.units
  have hu2 := hu_str hr
  have hu1 := hu_of hr
  exact ⟨_, pss_cons (ps_ret (pe_and (pe_defK D_l_formed ⟨rfl, rfl, rfl, rfl, rfl⟩ hr (by decide) hq tk (pa_cons (pv 0) (pa_cons (pe_int) (pa_nil)))) (pe_one (pe_cmpR (op_eqD hu) (pe_lenSet rfl (by rfl) T.z_len (by rfl) T.z_set (pe_defK D_l_names ⟨rfl, rfl, rfl, rfl, rfl⟩ hr (by decide) hq tk (pa_cons (pv 0) (pa_nil)))) (pe_callB call_len_seq (by rfl) T.z_len (by decide +kernel) (pa_cons (pe_defK D_l_names ⟨rfl, rfl, rfl, rfl, rfl⟩ hr (by decide) hq tk (pa_cons (pv 0) (pa_nil))) (pa_nil))) (nomark _)))))
    (pss_nil), rfl⟩
end
end K49

set_option maxRecDepth 100000
set_option maxHeartbeats 4000000
namespace K49
open PySem PySem.Spec PyProof.Rows L2 Pv
section
variable {P : Program} {w : World} {K : PySem.W.Frag} {κ : Cls} {mg : Str → Option Value} {base : Heap}
theorem ok_l_together {a : Addr} {fd : FuncData} (T : Tx K κ mg) (F : Fun K "_law_together" "_law_together" s_l_together a fd)  : FnX P w K κ mg base 1 a fd p_l_together (f_l_together T) := by
  refine fnx_of F sc_l_together (by decide) fun cdv A outer s H E Wx hr hq tk => ?_
  have hu := hr.units
  have hu2 := hu_str hr
  have hu1 := hu_of hr
  exact ⟨_, pss_cons (ps_set (i := 2) sc_l_together.nd rfl (Or.inr rfl) (pe_callTy (call_dictS rfl) (by rfl) T.z_dict (by decide +kernel) (pa_cons (pv 0) pa_nil)))
    (pss_cons (ps_for (passes_of rfl) rfl (pi_tup (pv 1)) (pg_tup (by rfl) (pgs_cons (pg_name (i := 3) sc_l_together.nd rfl (Or.inl rfl)) (pgs_cons (pg_name (i := 4) sc_l_together.nd rfl (Or.inl rfl)) (pgs_nil)))) (pss_cons (ps_dput hu1 (pv 2) (pv 3) (pe_op op_add (pe_dget2 hu1 (pv 2) (pv 3) (pe_int) ⟨rfl, rfl, rfl, rfl⟩) (pv 4)) rfl)
    (pss_nil)))
    (pss_cons (ps_ret (pe_callTy call_tupP (by rfl) T.z_tuple (by decide +kernel) (pa_cons (pe_lc (own := [("_law_worth", 3)]) rfl sc_l_together.nd (pi_list (pe_callB (call_sortedDI rfl) (by rfl) T.z_sorted (by decide +kernel) (pa_cons (pv 2) pa_nil))) (blkOk_by (own := [("_law_worth", 3)]) (N := N_l_together) (sc := defScope s_l_together) (by decide +kernel)) (fun _ _ _ _ _ => by exact (pg_name (i := 3) sc_l_together.nd rfl (Or.inl rfl))) (fun _ _ _ _ _ => by exact (pts_nil)) (fun _ _ _ _ _ => by exact (pe_tupP (pa_cons (pv 3) (pa_cons (pe_dget hu1 (pv 2) (pv 3) (fun _ _ => rfl)) (pa_nil)))))) (pa_nil))))
    (pss_nil))), rfl⟩
end
end K49

set_option maxRecDepth 100000
set_option maxHeartbeats 4000000
namespace K49
open PySem PySem.Spec PyProof.Rows L2 Pv
section
variable {P : Program} {w : World} {K : PySem.W.Frag} {κ : Cls} {mg : Str → Option Value} {base : Heap}
theorem ok__outdone_at {a : Addr} {fd : FuncData} (T : Tx K κ mg) (F : Fun K "_outdone_at" "_outdone_at" s__outdone_at a fd)  : FnX P w K κ mg base 1 a fd p__outdone_at (f__outdone_at T) := by
  refine fnx_of F sc__outdone_at (by decide) fun cdv A outer s H E Wx hr hq tk => ?_
  have hu := hr.units
  have hu2 := hu_str hr
  have hu1 := hu_of hr
  exact ⟨_, pss_cons (ps_set (i := 2) sc__outdone_at.nd rfl (Or.inl rfl) (pe_int))
    (pss_cons (ps_for (passes_of rfl) rfl (pi_tup (pv 1)) (pg_tup (by rfl) (pgs_cons (pg_name (i := 3) sc__outdone_at.nd rfl (Or.inr rfl)) (pgs_cons (pg_name (i := 4) sc__outdone_at.nd rfl (Or.inl rfl)) (pgs_nil)))) (pss_cons (ps_aug (i := 2) sc__outdone_at.nd rfl (Or.inl rfl) (pe_op op_mul (pv 3) (pv 4)) ip_add)
    (pss_cons (ps_if (pt_cmpR op_lt (pe_callB (cr_sum rfl) (by rfl) T.z_sum (by decide +kernel) (pa_cons (pe_lc (own := [("coin", 5), ("coins", 6)]) rfl sc__outdone_at.nd (pi_tup (pv 0)) (blkOk_by (own := [("coin", 5), ("coins", 6)]) (N := N__outdone_at) (sc := defScope s__outdone_at) (by decide +kernel)) (fun _ _ _ _ _ => by exact (pg_tup (by rfl) (pgs_cons (pg_name (i := 5) sc__outdone_at.nd rfl (Or.inl rfl)) (pgs_cons (pg_name (i := 6) sc__outdone_at.nd rfl (Or.inl rfl)) (pgs_nil))))) (fun _ _ _ _ _ => by exact (pts_one (pt_cmpR op_le (pv 5) (pv 3) (nomark _)))) (fun _ _ _ _ _ => by exact (pe_op op_mul (pv 5) (pv 6)))) (pa_nil))) (pv 2) (nomark _)) (pss_cons (ps_ret (pe_tupP (pa_cons (pe_op op_add (pv 3) (pe_int)) (pa_cons (pv 2) (pa_nil)))))
    (pss_nil)) (pss_nil))
    (pss_nil))))
    (pss_cons (ps_ret (pe_non))
    (pss_nil))), rfl⟩
end
end K49

set_option maxRecDepth 100000
set_option maxHeartbeats 4000000
namespace K49
open PySem PySem.Spec PyProof.Rows L2 Pv
section
variable {P : Program} {w : World} {K : PySem.W.Frag} {κ : Cls} {mg : Str → Option Value} {base : Heap}
theorem ok_is_number {a : Addr} {fd : FuncData} (T : Tx K κ mg) (F : Fun K "is_number" "is_number" s_is_number a fd)  : FnX P w K κ mg base 1 a fd p_is_number (f_is_number T) := by
  refine fnx_of F sc_is_number (by decide) fun cdv A outer s H E Wx hr hq tk => ?_
  have hu := hr.units
  have hu2 := hu_str hr
  have hu1 := hu_of hr
  exact ⟨_, pss_cons (ps_ret (pe_and (pe_callB call_isD (by rfl) T.z_isinstance (by decide +kernel) (pa_cons (pv 0) (pa_cons (pe_bltn (v := .ty "int") (u := .type "int") (by rfl) T.z_int (by decide +kernel) rfl) pa_nil))) (pe_and (pe_not (pe_callB call_isD (by rfl) T.z_isinstance (by decide +kernel) (pa_cons (pv 0) (pa_cons (pe_bltn (v := .ty "bool") (u := .type "bool") (by rfl) T.z_bool (by decide +kernel) rfl) pa_nil)))) (pe_one (pe_cmpR op_ge (pv 0) (pv 1) (nomark _))))))
    (pss_nil), rfl⟩
end
end K49

set_option maxRecDepth 100000
set_option maxHeartbeats 4000000
namespace K49
open PySem PySem.Spec PyProof.Rows L2 Pv
section
variable {P : Program} {w : World} {K : PySem.W.Frag} {κ : Cls} {mg : Str → Option Value} {base : Heap}
theorem ok__is_lot {a : Addr} {fd : FuncData} (T : Tx K κ mg) (F : Fun K "_is_lot" "_is_lot" s__is_lot a fd) (D_is_number : Def P w K κ mg base "is_number" 1 p_is_number (f_is_number T)) : FnX P w K κ mg base 2 a fd p__is_lot (f__is_lot T) := by
  refine fnx_of F sc__is_lot (by decide) fun cdv A outer s H E Wx hr hq tk => ?_
  have hu := hr.units
  have hu2 := hu_str hr
  have hu1 := hu_of hr
  exact ⟨_, pss_cons (ps_if (PW.pt (pw_or (pt_not (pt_val (pe_callB call_isD (by rfl) T.z_isinstance (by decide +kernel) (pa_cons (pv 0) (pa_cons (pe_bltn (v := .ty "tuple") (u := .type "tuple") (by rfl) T.z_tuple (by decide +kernel) rfl) pa_nil))))) (pw_or1 (pt_cmpR (op_neD hu) (pe_callB call_len_seq (by rfl) T.z_len (by decide +kernel) (pa_cons (pv 0) (pa_nil))) (pe_int) (nomark _))))) (pss_cons (ps_ret (pe_bl))
    (pss_nil)) (pss_nil))
    (pss_cons (ps_ret (pe_and (pe_defK D_is_number ⟨rfl, rfl, rfl, rfl, rfl⟩ hr (by decide) hq tk (pa_cons (pe_ix ix_tup (pv 0) (pe_int) (fun _ _ => rfl)) (pa_cons (pe_int) (pa_nil)))) (pe_one (pe_defK D_is_number ⟨rfl, rfl, rfl, rfl, rfl⟩ hr (by decide) hq tk (pa_cons (pe_ix ix_tup (pv 0) (pe_int) (fun _ _ => rfl)) (pa_cons (pe_int) (pa_nil)))))))
    (pss_nil)), rfl⟩
end
end K49

set_option maxRecDepth 100000
set_option maxHeartbeats 4000000
namespace K49
open PySem PySem.Spec PyProof.Rows L2 Pv
section
variable {P : Program} {w : World} {K : PySem.W.Frag} {κ : Cls} {mg : Str → Option Value} {base : Heap}
theorem ok_is_pile {a : Addr} {fd : FuncData} (T : Tx K κ mg) (F : Fun K "is_pile" "is_pile" s_is_pile a fd) (D__is_lot : Def P w K κ mg base "_is_lot" 2 p__is_lot (f__is_lot T)) : FnX P w K κ mg base 3 a fd p_is_pile (f_is_pile T) := by
  refine fnx_of F sc_is_pile (by decide) fun cdv A outer s H E Wx hr hq tk => ?_
  have hu := hr.units
  have hu2 := hu_str hr
  have hu1 := hu_of hr
  exact ⟨_, pss_cons (ps_if (pt_not (pt_val (pe_callB call_isD (by rfl) T.z_isinstance (by decide +kernel) (pa_cons (pv 0) (pa_cons (pe_bltn (v := .ty "tuple") (u := .type "tuple") (by rfl) T.z_tuple (by decide +kernel) rfl) pa_nil))))) (pss_cons (ps_ret (pe_bl))
    (pss_nil)) (pss_nil))
    (pss_cons (ps_set (i := 1) sc_is_pile.nd rfl (Or.inl rfl) (pe_int))
    (pss_cons (ps_for (passes_of rfl) rfl (pi_tup (pv 0)) (pg_name (i := 2) sc_is_pile.nd rfl (Or.inl rfl)) (pss_cons (ps_if (PW.pt (pw_or (pt_not (pt_val (pe_defK D__is_lot ⟨rfl, rfl, rfl, rfl, rfl⟩ hr (by decide) hq tk (pa_cons (pv 2) (pa_nil))))) (pw_or1 (pt_cmpR op_le (pe_ix ix_tup (pv 2) (pe_int) (fun _ _ => rfl)) (pv 1) (nomark _))))) (pss_cons (ps_ret (pe_bl))
    (pss_nil)) (pss_nil))
    (pss_cons (ps_set (i := 1) sc_is_pile.nd rfl (Or.inl rfl) (pe_ix ix_tup (pv 2) (pe_int) (fun _ _ => rfl)))
    (pss_nil))))
    (pss_cons (ps_ret (pe_bl))
    (pss_nil)))), rfl⟩
end
end K49

set_option maxRecDepth 100000
set_option maxHeartbeats 4000000
namespace K49
open PySem PySem.Spec PyProof.Rows L2 Pv
section
variable {P : Program} {w : World} {K : PySem.W.Frag} {κ : Cls} {mg : Str → Option Value} {base : Heap}
theorem ok_check_pile {a : Addr} {fd : FuncData} (T : Tx K κ mg) (F : Fun K "check_pile" "check_pile" s_check_pile a fd) (D_is_pile : Def P w K κ mg base "is_pile" 3 p_is_pile (f_is_pile T)) : FnX P w K κ mg base 4 a fd p_check_pile (f_check_pile T) := by
  refine fnx_of F sc_check_pile (by decide) fun cdv A outer s H E Wx hr hq tk => ?_
  have hu := hr.units
  have hu2 := hu_str hr
  have hu1 := hu_of hr
  exact ⟨_, pss_cons (ps_if (pt_not (pt_val (pe_defK D_is_pile ⟨rfl, rfl, rfl, rfl, rfl⟩ hr (by decide) hq tk (pa_cons (pv 0) (pa_nil))))) (pss_cons (ps_never)
    (pss_nil)) (pss_nil))
    (pss_nil), rfl⟩
end
end K49

set_option maxRecDepth 100000
set_option maxHeartbeats 4000000
namespace K49
open PySem PySem.Spec PyProof.Rows L2 Pv
section
variable {P : Program} {w : World} {K : PySem.W.Frag} {κ : Cls} {mg : Str → Option Value} {base : Heap}
theorem ok_outdoes {a : Addr} {fd : FuncData} (T : Tx K κ mg) (F : Fun K "outdoes" "outdoes" s_outdoes a fd) (D__outdone_at : Def P w K κ mg base "_outdone_at" 1 p__outdone_at (f__outdone_at T)) (D_check_pile : Def P w K κ mg base "check_pile" 4 p_check_pile (f_check_pile T)) : FnX P w K κ mg base 5 a fd p_outdoes (f_outdoes T) := by
  refine fnx_of F sc_outdoes (by decide) fun cdv A outer s H E Wx hr hq tk => ?_
  have hu := hr.units
  have hu2 := hu_str hr
  have hu1 := hu_of hr
  exact ⟨_, pss_cons (ps_expr (pe_defK D_check_pile ⟨rfl, rfl, rfl, rfl, rfl⟩ hr (by decide) hq tk (pa_cons (pv 0) (pa_nil))))
    (pss_cons (ps_expr (pe_defK D_check_pile ⟨rfl, rfl, rfl, rfl, rfl⟩ hr (by decide) hq tk (pa_cons (pv 1) (pa_nil))))
    (pss_cons (ps_ret (pe_cmp (pc_isN (pe_defK D__outdone_at ⟨rfl, rfl, rfl, rfl, rfl⟩ hr (by decide) hq tk (pa_cons (pv 0) (pa_cons (pv 1) (pa_nil))))) rfl))
    (pss_nil))), rfl⟩
end
end K49

set_option maxRecDepth 100000
set_option maxHeartbeats 4000000
namespace K49
open PySem PySem.Spec PyProof.Rows L2 Pv
section
variable {P : Program} {w : World} {K : PySem.W.Frag} {κ : Cls} {mg : Str → Option Value} {base : Heap}
theorem ok_sum_of {a : Addr} {fd : FuncData} (T : Tx K κ mg) (F : Fun K "sum_of" "sum_of" s_sum_of a fd)  : FnX P w K κ mg base 1 a fd p_sum_of (f_sum_of T) := by
  refine fnx_of F sc_sum_of (by decide) fun cdv A outer s H E Wx hr hq tk => ?_
  have hu := hr.units
  have hu2 := hu_str hr
  have hu1 := hu_of hr
  exact ⟨_, pss_cons (ps_ret (pe_callB (cr_sum rfl) (by rfl) T.z_sum (by decide +kernel) (pa_cons (pe_lc (own := [("worth", 1), ("many", 2)]) rfl sc_sum_of.nd (pi_tup (pv 0)) (blkOk_by (own := [("worth", 1), ("many", 2)]) (N := N_sum_of) (sc := defScope s_sum_of) (by decide +kernel)) (fun _ _ _ _ _ => by exact (pg_tup (by rfl) (pgs_cons (pg_name (i := 1) sc_sum_of.nd rfl (Or.inl rfl)) (pgs_cons (pg_name (i := 2) sc_sum_of.nd rfl (Or.inl rfl)) (pgs_nil))))) (fun _ _ _ _ _ => by exact (pts_nil)) (fun _ _ _ _ _ => by exact (pe_op op_mul (pv 1) (pv 2)))) (pa_nil))))
    (pss_nil), rfl⟩
end
end K49

set_option maxRecDepth 100000
set_option maxHeartbeats 4000000
namespace K49
open PySem PySem.Spec PyProof.Rows L2 Pv
section
variable {P : Program} {w : World} {K : PySem.W.Frag} {κ : Cls} {mg : Str → Option Value} {base : Heap}
theorem ok_check_small_pile {a : Addr} {fd : FuncData} (T : Tx K κ mg) (F : Fun K "check_small_pile" "check_small_pile" s_check_small_pile a fd) (D_sum_of : Def P w K κ mg base "sum_of" 1 p_sum_of (f_sum_of T)) : FnX P w K κ mg base 2 a fd p_check_small_pile (f_check_small_pile T) := by
  refine fnx_of F sc_check_small_pile (by decide) fun cdv A outer s H E Wx hr hq tk => ?_
  have hu := hr.units
  have hu2 := hu_str hr
  have hu1 := hu_of hr
  exact ⟨_, pss_cons (ps_if (pt_cmpR op_gt (pe_defK D_sum_of ⟨rfl, rfl, rfl, rfl, rfl⟩ hr (by decide) hq tk (pa_cons (pv 0) (pa_nil))) (pe_glob (v := .int 200) rfl T.c_SMALL.choose_spec ⟨_, rfl⟩) (nomark _)) (pss_cons (ps_never)
    (pss_nil)) (pss_nil))
    (pss_nil), rfl⟩
end
end K49

set_option maxRecDepth 100000
set_option maxHeartbeats 4000000
namespace K49
open PySem PySem.Spec PyProof.Rows L2 Pv
section
variable {P : Program} {w : World} {K : PySem.W.Frag} {κ : Cls} {mg : Str → Option Value} {base : Heap}
theorem ok_telling_company {a : Addr} {fd : FuncData} (T : Tx K κ mg) (F : Fun K "telling_company" "telling_company" s_telling_company a fd) (D__outdone_at : Def P w K κ mg base "_outdone_at" 1 p__outdone_at (f__outdone_at T)) (D_check_pile : Def P w K κ mg base "check_pile" 4 p_check_pile (f_check_pile T)) (D_check_small_pile : Def P w K κ mg base "check_small_pile" 2 p_check_small_pile (f_check_small_pile T)) : FnX P w K κ mg base 5 a fd p_telling_company (f_telling_company T) := by
  refine fnx_of F sc_telling_company (by decide) fun cdv A outer s H E Wx hr hq tk => ?_
  have hu := hr.units
  have hu2 := hu_str hr
  have hu1 := hu_of hr
  exact ⟨_, pss_cons (ps_expr (pe_defK D_check_pile ⟨rfl, rfl, rfl, rfl, rfl⟩ hr (by decide) hq tk (pa_cons (pv 0) (pa_nil))))
    (pss_cons (ps_expr (pe_defK D_check_pile ⟨rfl, rfl, rfl, rfl, rfl⟩ hr (by decide) hq tk (pa_cons (pv 1) (pa_nil))))
    (pss_cons (ps_expr (pe_defK D_check_small_pile ⟨rfl, rfl, rfl, rfl, rfl⟩ hr (by decide) hq tk (pa_cons (pv 0) (pa_nil))))
    (pss_cons (ps_expr (pe_defK D_check_small_pile ⟨rfl, rfl, rfl, rfl, rfl⟩ hr (by decide) hq tk (pa_cons (pv 1) (pa_nil))))
    (pss_cons (ps_set (i := 2) sc_telling_company.nd rfl (Or.inl rfl) (pe_defK D__outdone_at ⟨rfl, rfl, rfl, rfl, rfl⟩ hr (by decide) hq tk (pa_cons (pv 0) (pa_cons (pv 1) (pa_nil)))))
    (pss_cons (ps_if (pt_cmp (pc_isN (pv 2)) rfl) (pss_cons (ps_ret (pe_non))
    (pss_nil)) (pss_nil))
    (pss_cons (ps_asg (pv 2) (pg_tup (by rfl) (pgs_cons (pg_name (i := 3) sc_telling_company.nd rfl (Or.inl rfl)) (pgs_cons (pg_name (i := 4) sc_telling_company.nd rfl (Or.inl rfl)) (pgs_nil)))))
    (pss_cons (ps_set (i := 5) sc_telling_company.nd rfl (Or.inl rfl) (pe_op op_mul (pv 4) (pe_op op_sub (pv 3) (pe_int))))
    (pss_cons (ps_set (i := 6) sc_telling_company.nd rfl (Or.inl rfl) (pe_ifExp (pt_cmpR op_gt (pv 5) (pe_int) (nomark _)) (pe_tupP (pa_cons (pe_tupP (pa_cons (pe_int) (pa_cons (pv 5) (pa_nil)))) (pa_cons (pe_tupP (pa_cons (pv 3) (pa_cons (pe_int) (pa_nil)))) (pa_nil)))) (pe_tupP (pa_cons (pe_tupP (pa_cons (pv 3) (pa_cons (pe_int) (pa_nil)))) (pa_nil)))))
    (pss_cons (ps_ret (pe_tupP (pa_cons (pv 6) (pa_cons (pe_tupP (pa_cons (pe_str) (pa_cons (pe_str) (pa_cons (pe_op op_sub (pv 3) (pe_int)) (pa_cons (pv 4) (pa_nil)))))) (pa_nil)))))
    (pss_nil)))))))))), rfl⟩
end
end K49

set_option maxRecDepth 100000
set_option maxHeartbeats 4000000
namespace K49
open PySem PySem.Spec PyProof.Rows L2 Pv
section
variable {P : Program} {w : World} {K : PySem.W.Frag} {κ : Cls} {mg : Str → Option Value} {base : Heap}
theorem ok_l_good {a : Addr} {fd : FuncData} (T : Tx K κ mg) (F : Fun K "_law_good" "_law_good" s_l_good a fd) (D_l_due : Def P w K κ mg base "_law_due" 2 p_l_due (f_l_due T)) (D_l_holds : Def P w K κ mg base "_law_holds" 2 p_l_holds (f_l_holds T)) (D_l_is_pile : Def P w K κ mg base "_law_is_pile" 2 p_l_is_pile (f_l_is_pile T)) (D_l_is_right : Def P w K κ mg base "_law_is_right" 3 p_l_is_right (f_l_is_right T)) (D_l_together : Def P w K κ mg base "_law_together" 1 p_l_together (f_l_together T)) (D_outdoes : Def P w K κ mg base "outdoes" 5 p_outdoes (f_outdoes T)) (D_telling_company : Def P w K κ mg base "telling_company" 5 p_telling_company (f_telling_company T)) : FnX P w K κ mg base 6 a fd p_l_good (f_l_good T) := by
  refine fnx_of F sc_l_good (by decide) fun cdv A outer s H E Wx hr hq tk => ?_
  have hu := hr.units
  have hu2 := hu_str hr
  have hu1 := hu_of hr
  exact ⟨_, pss_cons (ps_set (i := 2) sc_l_good.nd rfl (Or.inl rfl) (pe_defK D_l_due ⟨rfl, rfl, rfl, rfl, rfl⟩ hr (by decide) hq tk (pa_cons (pv 0) (pa_cons (pv 1) (pa_nil)))))
    (pss_cons (ps_set (i := 3) sc_l_good.nd rfl (Or.inl rfl) (pe_defK D_telling_company ⟨rfl, rfl, rfl, rfl, rfl⟩ hr (by decide) hq tk (pa_cons (pv 0) (pa_cons (pv 1) (pa_nil)))))
    (pss_cons (ps_if (PW.pt (pw_or (pt_cmpR (op_neD hu) (pe_defK D_outdoes ⟨rfl, rfl, rfl, rfl, rfl⟩ hr (by decide) hq tk (pa_cons (pv 0) (pa_cons (pv 1) (pa_nil)))) (pv 2) (nomark _)) (pw_or (pt_not (pt_val (pe_callB call_isD (by rfl) T.z_isinstance (by decide +kernel) (pa_cons (pe_defK D_outdoes ⟨rfl, rfl, rfl, rfl, rfl⟩ hr (by decide) hq tk (pa_cons (pv 0) (pa_cons (pv 1) (pa_nil)))) (pa_cons (pe_bltn (v := .ty "bool") (u := .type "bool") (by rfl) T.z_bool (by decide +kernel) rfl) pa_nil))))) (pw_or1 (pt_cmpR (op_neD hu) (pv 2) (pe_cmp (pc_isN (pv 3)) rfl) (nomark _)))))) (pss_cons (ps_ret (pe_bl))
    (pss_nil)) (pss_nil))
    (pss_cons (ps_if (pt_val (pv 2)) (pss_cons (ps_ret (pe_bl))
    (pss_nil)) (pss_nil))
    (pss_cons (ps_if (PW.pt (pw_or (pt_not (pt_val (pe_callB call_isD (by rfl) T.z_isinstance (by decide +kernel) (pa_cons (pv 3) (pa_cons (pe_bltn (v := .ty "tuple") (u := .type "tuple") (by rfl) T.z_tuple (by decide +kernel) rfl) pa_nil))))) (pw_or (pt_cmpR (op_neD hu) (pe_callB call_len_seq (by rfl) T.z_len (by decide +kernel) (pa_cons (pv 3) (pa_nil))) (pe_int) (nomark _)) (pw_or (pt_not (pt_val (pe_defK D_l_is_pile ⟨rfl, rfl, rfl, rfl, rfl⟩ hr (by decide) hq tk (pa_cons (pe_ix ix_tup (pv 3) (pe_int) (fun _ _ => rfl)) (pa_nil))))) (pw_or1 (pt_not (pt_val (pe_defK D_l_is_right ⟨rfl, rfl, rfl, rfl, rfl⟩ hr (by decide) hq tk (pa_cons (pe_ix ix_tup (pv 3) (pe_int) (fun _ _ => rfl)) (pa_nil)))))))))) (pss_cons (ps_ret (pe_bl))
    (pss_nil)) (pss_nil))
    (pss_cons (ps_asg (pv 3) (pg_tup (by rfl) (pgs_cons (pg_name (i := 4) sc_l_good.nd rfl (Or.inl rfl)) (pgs_cons (pg_name (i := 5) sc_l_good.nd rfl (Or.inl rfl)) (pgs_nil)))))
    (pss_cons (ps_ret (pe_and (pe_defK D_l_holds ⟨rfl, rfl, rfl, rfl, rfl⟩ hr (by decide) hq tk (pa_cons (pe_defK D_l_together ⟨rfl, rfl, rfl, rfl, rfl⟩ hr (by decide) hq tk (pa_cons (pv 1) (pa_cons (pv 4) (pa_nil)))) (pa_cons (pv 5) (pa_nil)))) (pe_one (pe_not (pe_defK D_l_holds ⟨rfl, rfl, rfl, rfl, rfl⟩ hr (by decide) hq tk (pa_cons (pe_defK D_l_together ⟨rfl, rfl, rfl, rfl, rfl⟩ hr (by decide) hq tk (pa_cons (pv 0) (pa_cons (pv 4) (pa_nil)))) (pa_cons (pv 5) (pa_nil))))))))
    (pss_nil))))))), rfl⟩
end
end K49

set_option maxRecDepth 100000
set_option maxHeartbeats 4000000
namespace K49
open PySem PySem.Spec PyProof.Rows L2 Pv
section
variable {P : Program} {w : World} {K : PySem.W.Frag} {κ : Cls} {mg : Str → Option Value} {base : Heap}
theorem ok_l_pile {a : Addr} {fd : FuncData} (T : Tx K κ mg) (F : Fun K "_law_pile" "_law_pile" s_l_pile a fd) (D_l_heap : Def P w K κ mg base "_law_heap" 1 p_l_heap (f_l_heap T)) (D_l_take : Def P w K κ mg base "_law_take" 1 p_l_take (f_l_take T)) : FnX P w K κ mg base 2 a fd p_l_pile (f_l_pile T) := by
  refine fnx_of F sc_l_pile (by decide) fun cdv A outer s H E Wx hr hq tk => ?_
  have hu := hr.units
  have hu2 := hu_str hr
  have hu1 := hu_of hr
  exact ⟨_, pss_cons (ps_set (i := 2) sc_l_pile.nd rfl (Or.inl rfl) (pe_op op_rep (pe_lst (pa_cons (pe_int) (pa_nil))) (pe_defK D_l_take ⟨rfl, rfl, rfl, rfl, rfl⟩ hr (by decide) hq tk (pa_cons (pv 0) (pa_cons (pe_int) (pa_nil))))))
    (pss_cons (ps_for (passes_of rfl) rfl (pi_range1 (by rfl) T.z_range (pa_cons (pe_defK D_l_take ⟨rfl, rfl, rfl, rfl, rfl⟩ hr (by decide) hq tk (pa_cons (pv 0) (pa_cons (pe_int) (pa_nil)))) pa_nil)) (pg_name (i := 3) sc_l_pile.nd rfl (Or.inl rfl)) (pss_cons (ps_expr (pe_bm PySem.F.plainAttrs_list PySem.F.slot_list_append PySem.F.type_list_append mt_append (pv 2) (pa_cons (pe_op op_add (pe_int) (pe_defK D_l_take ⟨rfl, rfl, rfl, rfl, rfl⟩ hr (by decide) hq tk (pa_cons (pv 0) (pa_cons (pe_ix ix_list (pe_lst (pa_cons (pe_int) (pa_cons (pv 1) (pa_nil)))) (pe_defK D_l_take ⟨rfl, rfl, rfl, rfl, rfl⟩ hr (by decide) hq tk (pa_cons (pv 0) (pa_cons (pe_int) (pa_nil)))) (fun _ _ => rfl)) (pa_nil))))) pa_nil)))
    (pss_nil)))
    (pss_cons (ps_ret (pe_defK D_l_heap ⟨rfl, rfl, rfl, rfl, rfl⟩ hr (by decide) hq tk (pa_cons (pv 2) (pa_nil))))
    (pss_nil))), rfl⟩
end
end K49

set_option maxRecDepth 100000
set_option maxHeartbeats 4000000
namespace K49
open PySem PySem.Spec PyProof.Rows L2 Pv
section
variable {P : Program} {w : World} {K : PySem.W.Frag} {κ : Cls} {mg : Str → Option Value} {base : Heap}
theorem ok_law {a : Addr} {fd : FuncData} (T : Tx K κ mg) (F : Fun K "law" "law" s_law a fd) (D_l_cell : Def P w K κ mg base "_law_cell" 2 p_l_cell (f_l_cell T)) (D_l_changed : Def P w K κ mg base "_law_changed" 2 p_l_changed (f_l_changed T)) (D_l_due : Def P w K κ mg base "_law_due" 2 p_l_due (f_l_due T)) (D_l_good : Def P w K κ mg base "_law_good" 6 p_l_good (f_l_good T)) (D_l_pile : Def P w K κ mg base "_law_pile" 2 p_l_pile (f_l_pile T)) (D_l_take : Def P w K κ mg base "_law_take" 1 p_l_take (f_l_take T)) (D_outdoes : Def P w K κ mg base "outdoes" 5 p_outdoes (f_outdoes T)) : FnX P w K κ mg base 7 a fd p_law (f_law T) := by
  refine fnx_of F sc_law (by decide) fun cdv A outer s H E Wx hr hq tk => ?_
  have hu := hr.units
  have hu2 := hu_str hr
  have hu1 := hu_of hr
  exact ⟨_, pss_cons (ps_for (passes_of rfl) rfl (pi_range1 (by rfl) T.z_range (pa_cons (pe_callB (call_max2 rfl) (by rfl) T.z_max (by decide +kernel) (pa_cons (pe_callB (call_min2 rfl) (by rfl) T.z_min (by decide +kernel) (pa_cons (pe_callB call_len_seq (by rfl) T.z_len (by decide +kernel) (pa_cons (pv 0) (pa_nil))) (pa_cons (pe_int) (pa_nil)))) (pa_cons (pe_int) (pa_nil)))) pa_nil)) (pg_name (i := 1) sc_law.nd rfl (Or.inl rfl)) (pss_cons (ps_set (i := 3) sc_law.nd rfl (Or.inl rfl) (pe_lst (pa_cons (pe_defK D_l_cell ⟨rfl, rfl, rfl, rfl, rfl⟩ hr (by decide) hq tk (pa_cons (pv 0) (pa_cons (pv 1) (pa_nil)))) (pa_nil))))
    (pss_cons (ps_for (passes_of rfl) rfl (pi_range1 (by rfl) T.z_range (pa_cons (pe_int) pa_nil)) (pg_name (i := 4) sc_law.nd rfl (Or.inl rfl)) (pss_cons (ps_set (i := 5) sc_law.nd rfl (Or.inl rfl) (pe_defK D_l_pile ⟨rfl, rfl, rfl, rfl, rfl⟩ hr (by decide) hq tk (pa_cons (pv 3) (pa_cons (pe_int) (pa_nil)))))
    (pss_cons (ps_set (i := 6) sc_law.nd rfl (Or.inl rfl) (pe_defK D_l_changed ⟨rfl, rfl, rfl, rfl, rfl⟩ hr (by decide) hq tk (pa_cons (pv 3) (pa_cons (pv 5) (pa_nil)))))
    (pss_cons (ps_if (pt_cmpR (op_eqD hu) (pe_defK D_l_take ⟨rfl, rfl, rfl, rfl, rfl⟩ hr (by decide) hq tk (pa_cons (pv 3) (pa_cons (pe_int) (pa_nil)))) (pe_int) (nomark _)) (pss_cons (ps_set (i := 6) sc_law.nd rfl (Or.inl rfl) (pe_defK D_l_pile ⟨rfl, rfl, rfl, rfl, rfl⟩ hr (by decide) hq tk (pa_cons (pv 3) (pa_cons (pe_int) (pa_nil)))))
    (pss_nil)) (pss_nil))
    (pss_cons (ps_if (PW.pt (pw_or (pt_not (pt_val (pe_defK D_l_good ⟨rfl, rfl, rfl, rfl, rfl⟩ hr (by decide) hq tk (pa_cons (pv 5) (pa_cons (pv 6) (pa_nil)))))) (pw_or (pt_not (pt_val (pe_defK D_l_good ⟨rfl, rfl, rfl, rfl, rfl⟩ hr (by decide) hq tk (pa_cons (pv 6) (pa_cons (pv 5) (pa_nil)))))) (pw_or1 (pt_not (pt_val (pe_defK D_l_good ⟨rfl, rfl, rfl, rfl, rfl⟩ hr (by decide) hq tk (pa_cons (pv 5) (pa_cons (pv 5) (pa_nil)))))))))) (pss_cons (ps_ret (pe_bl))
    (pss_nil)) (pss_nil))
    (pss_cons (ps_set (i := 7) sc_law.nd rfl (Or.inl rfl) (pe_tupP (pa_cons (pe_tupP (pa_cons (pe_op op_add (pe_int) (pe_defK D_l_take ⟨rfl, rfl, rfl, rfl, rfl⟩ hr (by decide) hq tk (pa_cons (pv 3) (pa_cons (pe_op op_pow (pe_int) (pe_int)) (pa_nil))))) (pa_cons (pe_op op_add (pe_int) (pe_defK D_l_take ⟨rfl, rfl, rfl, rfl, rfl⟩ hr (by decide) hq tk (pa_cons (pv 3) (pa_cons (pe_int) (pa_nil))))) (pa_nil)))) (pa_nil))))
    (pss_cons (ps_if (PW.pt (pw_or (pt_cmpR (op_neD hu) (pe_defK D_outdoes ⟨rfl, rfl, rfl, rfl, rfl⟩ hr (by decide) hq tk (pa_cons (pv 7) (pa_cons (pv 5) (pa_nil)))) (pe_defK D_l_due ⟨rfl, rfl, rfl, rfl, rfl⟩ hr (by decide) hq tk (pa_cons (pv 7) (pa_cons (pv 5) (pa_nil)))) (nomark _)) (pw_or1 (pt_cmpR (op_neD hu) (pe_defK D_outdoes ⟨rfl, rfl, rfl, rfl, rfl⟩ hr (by decide) hq tk (pa_cons (pv 5) (pa_cons (pv 7) (pa_nil)))) (pe_defK D_l_due ⟨rfl, rfl, rfl, rfl, rfl⟩ hr (by decide) hq tk (pa_cons (pv 5) (pa_cons (pv 7) (pa_nil)))) (nomark _))))) (pss_cons (ps_ret (pe_bl))
    (pss_nil)) (pss_nil))
    (pss_nil))))))))
    (pss_nil))))
    (pss_cons (ps_if (PW.pt (pw_or (pt_not (pt_val (pe_defK D_l_good ⟨rfl, rfl, rfl, rfl, rfl⟩ hr (by decide) hq tk (pa_cons (pe_tupP (pa_cons (pe_tupP (pa_cons (pe_int) (pa_cons (pe_int) (pa_nil)))) (pa_nil))) (pa_cons (pe_tupP (pa_cons (pe_tupP (pa_cons (pe_int) (pa_cons (pe_int) (pa_nil)))) (pa_nil))) (pa_nil)))))) (pw_or1 (pt_not (pt_val (pe_defK D_l_good ⟨rfl, rfl, rfl, rfl, rfl⟩ hr (by decide) hq tk (pa_cons (pe_tupP (pa_cons (pe_tupP (pa_cons (pe_int) (pa_cons (pe_int) (pa_nil)))) (pa_nil))) (pa_cons (pe_tupP (pa_cons (pe_tupP (pa_cons (pe_int) (pa_cons (pe_int) (pa_nil)))) (pa_nil))) (pa_nil))))))))) (pss_cons (ps_ret (pe_bl))
    (pss_nil)) (pss_nil))
    (pss_cons (ps_set (i := 2) sc_law.nd rfl (Or.inl rfl) (pe_lst (pa_cons (pe_tupP (pa_cons (pe_tupP (pa_cons (pe_int) (pa_cons (pe_int) (pa_nil)))) (pa_cons (pe_tupP (pa_cons (pe_int) (pa_cons (pe_int) (pa_nil)))) (pa_cons (pe_tupP (pa_cons (pe_int) (pa_cons (pe_int) (pa_nil)))) (pa_nil))))) (pa_cons (pe_tupP (pa_cons (pe_tupP (pa_cons (pe_int) (pa_cons (pe_int) (pa_nil)))) (pa_cons (pe_tupP (pa_cons (pe_int) (pa_cons (pe_int) (pa_nil)))) (pa_nil)))) (pa_nil)))))
    (pss_cons (ps_ret (pe_and (pe_not (pe_defK D_outdoes ⟨rfl, rfl, rfl, rfl, rfl⟩ hr (by decide) hq tk (pa_cons (pe_ix ix_list (pv 2) (pe_int) (fun _ _ => rfl)) (pa_cons (pe_ix ix_list (pv 2) (pe_int) (fun _ _ => rfl)) (pa_nil))))) (pe_one (pe_defK D_outdoes ⟨rfl, rfl, rfl, rfl, rfl⟩ hr (by decide) hq tk (pa_cons (pe_ix ix_list (pv 2) (pe_int) (fun _ _ => rfl)) (pa_cons (pe_ix ix_list (pv 2) (pe_int) (fun _ _ => rfl)) (pa_nil)))))))
    (pss_nil)))), rfl⟩
end
end K49

namespace P25
/-- the lesser of two, as min tells it -/
def mn (x y : Int) : Int := if y < x then y else x
theorem mn_le_l (x y : Int) : mn x y ≤ x := by unfold mn; split <;> omega
theorem mn_le_r (x y : Int) : mn x y ≤ y := by unfold mn; split <;> omega
theorem le_mn (x y t : Int) : t ≤ mn x y ↔ t ≤ x ∧ t ≤ y := by unfold mn; split <;> omega
def sumP (ps : List (Int × Int)) : Int := (ps.map fun p => p.1 * p.2).sum
def undP (ps : List (Int × Int)) (c : Int) : Int := ((ps.filter fun p => decide (p.1 < c)).map fun p => p.1 * p.2).sum
def Up : Int → List (Int × Int) → Prop
  | _, [] => True
  | m, p :: ps => m < p.1 ∧ 1 ≤ p.2 ∧ Up p.1 ps
theorem Up.lt : ∀ {ps : List (Int × Int)} {m : Int}, Up m ps → ∀ p ∈ ps, m < p.1
  | [], _, _, p, hp => nomatch hp
  | q :: ps, m, h, p, hp => by
    rcases List.mem_cons.mp hp with rfl | hp
    · exact h.1
    · have h1 := h.1
      have := Up.lt h.2.2 p hp
      omega
theorem sumP_cons (p : Int × Int) (ps : List (Int × Int)) : sumP (p :: ps) = p.1 * p.2 + sumP ps := by simp [sumP]
theorem sumP_append (ps qs : List (Int × Int)) : sumP (ps ++ qs) = sumP ps + sumP qs := by simp [sumP]
theorem undP_cons (p : Int × Int) (ps : List (Int × Int)) (c : Int) : undP (p :: ps) c = (if p.1 < c then p.1 * p.2 else 0) + undP ps c := by
  unfold undP
  by_cases h : p.1 < c
  · rw [if_pos h, List.filter_cons_of_pos (by simpa using h)]; simp
  · rw [if_neg h, List.filter_cons_of_neg (by simpa using h)]; simp
theorem undP_none {ps : List (Int × Int)} {c : Int} (h : ∀ p ∈ ps, ¬ p.1 < c) : undP ps c = 0 := by
  induction ps with
  | nil => rfl
  | cons p ps ih => rw [undP_cons, if_neg (h p (by simp)), ih fun q hq => h q (by simp [hq])]; omega
theorem undP_split : ∀ {pre : List (Int × Int)} {m : Int} {p : Int × Int} {suf : List (Int × Int)}, Up m (pre ++ p :: suf) → undP (pre ++ p :: suf) p.1 = sumP pre
  | [], m, p, suf, h => by
    rw [List.nil_append]
    refine (undP_none fun q hq => ?_).trans rfl
    rcases List.mem_cons.mp hq with rfl | hq
    · omega
    · have := Up.lt h.2.2 q hq; omega
  | q :: pre, m, p, suf, h => by
    have h2 := undP_split (pre := pre) h.2.2
    have h3 := Up.lt h.2.2 p (by simp)
    rw [List.cons_append, undP_cons, h2, if_pos h3, sumP_cons]
theorem sumP_nonneg : ∀ {ps : List (Int × Int)} {m : Int}, 0 ≤ m → Up m ps → 0 ≤ sumP ps
  | [], _, _, _ => by simp [sumP]
  | p :: ps, m, h0, h => by
    have := sumP_nonneg (ps := ps) (m := p.1) (by have := h.1; omega) h.2.2
    rw [sumP_cons]
    have h1 := h.1
    have h2 := h.2.1
    have : 0 ≤ p.1 * p.2 := Int.mul_nonneg (by omega) (by omega)
    omega
theorem Up.tail : ∀ {pre : List (Int × Int)} {m : Int} {suf : List (Int × Int)}, 0 ≤ m → Up m (pre ++ suf) → ∃ m', 0 ≤ m' ∧ Up m' suf
  | [], m, _, h0, h => ⟨m, h0, h⟩
  | p :: pre, m, _, h0, h => Up.tail (pre := pre) (m := p.1) (by have := h.1; omega) h.2.2
theorem Up.pre : ∀ {pre : List (Int × Int)} {m : Int} {suf : List (Int × Int)}, Up m (pre ++ suf) → Up m pre
  | [], _, _, _ => trivial
  | p :: pre, m, suf, h => ⟨h.1, h.2.1, Up.pre h.2.2⟩
theorem worth_le : ∀ {ps : List (Int × Int)} {m : Int}, 0 ≤ m → Up m ps → ∀ p ∈ ps, p.1 ≤ sumP ps
  | [], _, _, _, p, hp => nomatch hp
  | q :: ps, m, h0, h, p, hp => by
    have h1 := h.1
    have h2 := h.2.1
    have n := sumP_nonneg (m := q.1) (by omega) h.2.2
    have k : q.1 ≤ q.1 * q.2 := by
      have : q.1 * 1 ≤ q.1 * q.2 := Int.mul_le_mul_of_nonneg_left h2 (by omega)
      omega
    rw [sumP_cons]
    rcases List.mem_cons.mp hp with rfl | hp
    · omega
    · have := worth_le (m := q.1) (by omega) h.2.2 p hp
      omega
/-- the greatest sum of an even list, cut -/
def evn (room worth below : Int) : Int := if below < worth then room else (below - 1) * (room / (worth - 1)) + room % (worth - 1)
def allL (amount b : Int) : List (Int × Int) → Int → Int → Option Int
  | [], g, _ => some g
  | p :: ps, g, l => if 1 < p.1 then (if l - mn amount (p.1 - 1) < 0 then none else allL amount b ps (mn g (evn (l - mn amount (p.1 - 1)) p.1 b)) (l + p.1 * p.2)) else allL amount b ps g (l + p.1 * p.2)
def allP (ps : List (Int × Int)) (amount b : Int) : Option Int := if sumP ps - amount < 0 then none else allL amount b ps (sumP ps - amount) 0
def callsOf (bound : Option Int) (total : Int) : List (Int × Int) := match bound with
  | none => [(total, 1)]
  | some c => [(c - 1, total / (c - 1)), (total % (c - 1), 1)]
def cutP (calls : List (Int × Int)) (w : Int) : Int := (calls.map fun c => c.2 * mn c.1 (w - 1)).sum
/-- what the law asks of one lot -/
def lotF (ps : List (Int × Int)) (amount : Int) (calls : List (Int × Int)) (p : Int × Int) : Bool := !decide (1 < p.1) || !decide (undP ps p.1 < cutP calls p.1 + mn amount (p.1 - 1))
def fitP (ps : List (Int × Int)) (amount : Int) (bound : Option Int) (total : Int) : Bool := ps.all (lotF ps amount (callsOf bound total)) && decide (total + amount ≤ sumP ps)
/-! one lot -/
theorem div_lt_one {a b : Int} (h0 : 0 ≤ a) (h : a < b) : a / b = 0 ∧ a % b = a := ⟨Int.ediv_eq_zero_of_lt h0 h, Int.emod_eq_of_lt h0 h⟩
theorem mul_lt_of {q a k b : Int} (hk : 0 < k) (hb : 0 ≤ b) (hq : a < q) (hb2 : b < k) : k * a + b < k * q := by
  have : k * (a + 1) ≤ k * q := Int.mul_le_mul_of_nonneg_left (by omega) (by omega)
  rw [Int.mul_add] at this
  omega
theorem cut_some {w c A total : Int} (hw : 1 < w) (hc : 2 ≤ c) (hA : 0 ≤ A) (ht : 0 ≤ total) : cutP (callsOf (some c) total) w ≤ A ↔ total ≤ evn A w c := by
  have e : cutP (callsOf (some c) total) w = total / (c - 1) * mn (c - 1) (w - 1) + mn (total % (c - 1)) (w - 1) := by
    simp [cutP, callsOf]
  rw [e]
  have d1 := Int.mul_ediv_add_emod total (c - 1)
  have r0 := Int.emod_nonneg total (show c - 1 ≠ 0 by omega)
  have r1 := Int.emod_lt_of_pos total (show 0 < c - 1 by omega)
  have q0 : 0 ≤ total / (c - 1) := Int.ediv_nonneg ht (by omega)
  generalize total / (c - 1) = q at *
  generalize total % (c - 1) = r at *
  unfold evn
  by_cases h : c < w
  · rw [if_pos h]
    have m1 : mn (c - 1) (w - 1) = c - 1 := by unfold mn; split <;> omega
    have m2 : mn r (w - 1) = r := by unfold mn; split <;> omega
    rw [m1, m2, Int.mul_comm]
    omega
  · rw [if_neg h]
    have m1 : mn (c - 1) (w - 1) = w - 1 := by unfold mn; split <;> omega
    rw [m1]
    have d2 := Int.mul_ediv_add_emod A (w - 1)
    have s0 := Int.emod_nonneg A (show w - 1 ≠ 0 by omega)
    have s1 := Int.emod_lt_of_pos A (show 0 < w - 1 by omega)
    have a0 : 0 ≤ A / (w - 1) := Int.ediv_nonneg hA (by omega)
    generalize A / (w - 1) = a at *
    generalize A % (w - 1) = b at *
    have m2a := mn_le_l r (w - 1)
    have m2b := mn_le_r r (w - 1)
    have m0 : 0 ≤ mn r (w - 1) := (le_mn _ _ _).mpr ⟨r0, by omega⟩
    rw [Int.mul_comm q (w - 1)]
    rcases Int.lt_trichotomy q a with hq | hq | hq
    · have k1 := mul_lt_of (k := c - 1) (b := r) (by omega) r0 hq r1
      have k2 : (w - 1) * (q + 1) ≤ (w - 1) * a := Int.mul_le_mul_of_nonneg_left (by omega) (by omega)
      rw [Int.mul_add] at k2
      constructor
      · intro _; omega
      · intro _; omega
    · subst hq
      constructor
      · intro hle
        have : mn r (w - 1) ≤ b := by omega
        have : r ≤ b := by unfold mn at this; split at this <;> omega
        omega
      · intro hle
        have : r ≤ b := by omega
        omega
    · have k1 := mul_lt_of (k := c - 1) (b := b) (by omega) s0 hq (by omega)
      have k2 := mul_lt_of (k := w - 1) (b := b) (by omega) s0 hq s1
      constructor
      · intro hle; omega
      · intro hle; omega
theorem cut_none {w A total S : Int} (hw : 1 < w) (hS : w ≤ S) (hA : 0 ≤ A) (ht : 0 ≤ total) (hT : total ≤ S) : cutP (callsOf none total) w ≤ A ↔ total ≤ evn A w (S + 2) := by
  have e : cutP (callsOf none total) w = mn total (w - 1) := by simp [cutP, callsOf]
  rw [e]
  unfold evn
  rw [if_neg (by omega)]
  by_cases h : A < w - 1
  · obtain ⟨z1, z2⟩ := div_lt_one hA h
    rw [z1, z2]
    unfold mn
    split <;> omega
  · have a1 : 1 ≤ A / (w - 1) := by
      have := Int.ediv_le_ediv (show 0 < w - 1 by omega) (show w - 1 ≤ A by omega)
      rw [Int.ediv_self (by omega)] at this
      exact this
    have s0 := Int.emod_nonneg A (show w - 1 ≠ 0 by omega)
    have : (S + 2 - 1) * 1 ≤ (S + 2 - 1) * (A / (w - 1)) := Int.mul_le_mul_of_nonneg_left a1 (by omega)
    have m := mn_le_r total (w - 1)
    constructor
    · intro _; omega
    · intro _; omega
theorem cut_nonneg {bound : Option Int} {total w : Int} (hb : ∀ c, bound = some c → 2 ≤ c) (hw : 1 < w) (ht : 0 ≤ total) : 0 ≤ cutP (callsOf bound total) w := by
  cases bound with
  | none =>
    have e : cutP (callsOf none total) w = mn total (w - 1) := by simp [cutP, callsOf]
    rw [e]
    exact (le_mn _ _ _).mpr ⟨ht, by omega⟩
  | some c =>
    have hc := hb c rfl
    have e : cutP (callsOf (some c) total) w = total / (c - 1) * mn (c - 1) (w - 1) + mn (total % (c - 1)) (w - 1) := by
      simp [cutP, callsOf]
    rw [e]
    have r0 := Int.emod_nonneg total (show c - 1 ≠ 0 by omega)
    have q0 : 0 ≤ total / (c - 1) := Int.ediv_nonneg ht (by omega)
    have m1 : 0 ≤ mn (c - 1) (w - 1) := (le_mn _ _ _).mpr ⟨by omega, by omega⟩
    have m2 : 0 ≤ mn (total % (c - 1)) (w - 1) := (le_mn _ _ _).mpr ⟨r0, by omega⟩
    have := Int.mul_nonneg q0 m1
    omega
/-- the bound that the program reckons with -/
def belowOf (ps : List (Int × Int)) : Option Int → Int
  | none => sumP ps + 2
  | some c => c
theorem cut_iff {ps : List (Int × Int)} {bound : Option Int} {w A total : Int} (hb : ∀ c, bound = some c → 2 ≤ c) (hw : 1 < w) (hS : w ≤ sumP ps) (ht : 0 ≤ total) (hT : total ≤ sumP ps) : cutP (callsOf bound total) w ≤ A ↔ 0 ≤ A ∧ total ≤ evn A w (belowOf ps bound) := by
  by_cases hA : 0 ≤ A
  · cases bound with
    | none => rw [show belowOf ps none = sumP ps + 2 from rfl, cut_none hw hS hA ht hT]; simp [hA]
    | some c => rw [show belowOf ps (some c) = c from rfl, cut_some hw (hb c rfl) hA ht]; simp [hA]
  · have := cut_nonneg hb hw ht
    constructor
    · intro h; omega
    · intro h; exact absurd h.1 hA
theorem allL_iff {ps : List (Int × Int)} {amount : Int} {bound : Option Int} (hU : Up 0 ps) (hb : ∀ c, bound = some c → 2 ≤ c) {total : Int} (ht : 0 ≤ total) (hT : total ≤ sumP ps) :
    ∀ (suf pre : List (Int × Int)) (g l : Int), ps = pre ++ suf → l = sumP pre → ((∃ g', allL amount (belowOf ps bound) suf g l = some g' ∧ total ≤ g') ↔ total ≤ g ∧ suf.all (lotF ps amount (callsOf bound total)) = true) := by
  intro suf
  induction suf with
  | nil => intro pre g l _ _; simp [allL]
  | cons p suf ih =>
    intro pre g l e el
    have e' : ps = (pre ++ [p]) ++ suf := by rw [e]; simp
    have el' : l + p.1 * p.2 = sumP (pre ++ [p]) := by rw [sumP_append, el, sumP_cons]; simp [sumP]
    have un : undP ps p.1 = l := by rw [el, e]; exact undP_split (m := 0) (by rw [← e]; exact hU)
    have wl : p.1 ≤ sumP ps := worth_le (Int.le_refl 0) hU p (by rw [e]; simp)
    unfold allL
    by_cases hw : 1 < p.1
    · rw [if_pos hw]
      have lf : lotF ps amount (callsOf bound total) p = decide (cutP (callsOf bound total) p.1 ≤ l - mn amount (p.1 - 1)) := by
        unfold lotF
        rw [un]
        simp only [hw, decide_true, Bool.not_true, Bool.false_or]
        rw [← decide_not]
        congr 1
        simp only [eq_iff_iff]
        omega
      have ci := cut_iff (ps := ps) (A := l - mn amount (p.1 - 1)) hb hw wl ht hT
      rw [List.all_cons, lf, Bool.and_eq_true, decide_eq_true_eq, ci]
      by_cases hn : l - mn amount (p.1 - 1) < 0
      · rw [if_pos hn]
        constructor
        · rintro ⟨g', h, _⟩; cases h
        · rintro ⟨_, ⟨h, _⟩, _⟩; omega
      · rw [if_neg hn, ih (pre ++ [p]) _ _ e' el', le_mn]
        constructor
        · rintro ⟨⟨h1, h2⟩, h3⟩; exact ⟨h1, ⟨by omega, h2⟩, h3⟩
        · rintro ⟨h1, ⟨_, h2⟩, h3⟩; exact ⟨⟨h1, h2⟩, h3⟩
    · rw [if_neg hw]
      have lf : lotF ps amount (callsOf bound total) p = true := by unfold lotF; simp [hw]
      rw [ih (pre ++ [p]) _ _ e' el', List.all_cons, lf]
      simp
/-- THE promise: the program's number is the greatest that fits -/
theorem fit_iff {ps : List (Int × Int)} {amount : Int} {bound : Option Int} (hU : Up 0 ps) (ha : 1 ≤ amount) (hb : ∀ c, bound = some c → 2 ≤ c) {total : Int} (ht : 0 ≤ total) :
    fitP ps amount bound total = true ↔ ∃ g, allP ps amount (belowOf ps bound) = some g ∧ total ≤ g := by
  unfold fitP allP
  rw [Bool.and_eq_true, decide_eq_true_eq]
  by_cases hT : total ≤ sumP ps
  · have key := allL_iff (amount := amount) hU hb ht hT ps [] (sumP ps - amount) 0 rfl rfl
    by_cases hn : sumP ps - amount < 0
    · rw [if_pos hn]
      constructor
      · rintro ⟨_, h⟩; omega
      · rintro ⟨g, h, _⟩; cases h
    · rw [if_neg hn, key]
      constructor
      · rintro ⟨h1, h2⟩; exact ⟨by omega, h1⟩
      · rintro ⟨h1, h2⟩; exact ⟨h2, by omega⟩
  · have le : ∀ (suf : List (Int × Int)) (g l g' : Int), allL amount (belowOf ps bound) suf g l = some g' → g' ≤ g := by
      intro suf
      induction suf with
      | nil => intro g l g' h; cases h; exact Int.le_refl _
      | cons p suf ih =>
        intro g l g' h
        unfold allL at h
        split at h
        · split at h
          · cases h
          · exact Int.le_trans (ih _ _ _ h) (mn_le_l _ _)
        · exact ih _ _ _ h
    constructor
    · rintro ⟨_, h⟩; omega
    · rintro ⟨g, h, h2⟩
      split at h
      · cases h
      · have := le _ _ _ _ h; omega
theorem evn_nonneg {A w b : Int} (hA : 0 ≤ A) (hw : 1 < w) (hb : 1 ≤ b) : 0 ≤ evn A w b := by
  unfold evn
  split
  · exact hA
  · have := Int.mul_nonneg (show 0 ≤ b - 1 by omega) (Int.ediv_nonneg hA (show 0 ≤ w - 1 by omega))
    have := Int.emod_nonneg A (show w - 1 ≠ 0 by omega)
    omega
theorem allP_nonneg {ps : List (Int × Int)} {amount b g : Int} (hb : 1 ≤ b) (h : allP ps amount b = some g) : 0 ≤ g := by
  have key : ∀ (suf : List (Int × Int)) (g l g' : Int), 0 ≤ g → allL amount b suf g l = some g' → 0 ≤ g' := by
    intro suf
    induction suf with
    | nil => intro g l g' h0 h; cases h; exact h0
    | cons p suf ih =>
      intro g l g' h0 h
      unfold allL at h
      split at h
      · rename_i hw
        split at h
        · cases h
        · rename_i hr
          exact ih _ _ _ ((le_mn _ _ _).mpr ⟨h0, evn_nonneg (by omega) hw hb⟩) h
      · exact ih _ _ _ h0 h
  unfold allP at h
  split at h
  · cases h
  · exact key _ _ _ _ (by omega) h
/-- whether there is such a number doesn't hang on the bound -/
theorem allP_none {ps : List (Int × Int)} {amount b b' : Int} (h : allP ps amount b = none) : allP ps amount b' = none := by
  have key : ∀ (suf : List (Int × Int)) (g g' l : Int), allL amount b suf g l = none → allL amount b' suf g' l = none := by
    intro suf
    induction suf with
    | nil => intro g g' l h; cases h
    | cons p suf ih =>
      intro g g' l h
      unfold allL at h ⊢
      split
      · rename_i hw
        rw [if_pos hw] at h
        split
        · rfl
        · rename_i hr
          rw [if_neg hr] at h
          exact ih _ _ _ h
      · rename_i hw
        rw [if_neg hw] at h
        exact ih _ _ _ h
  unfold allP at h ⊢
  split
  · rfl
  · rename_i hs
    rw [if_neg hs] at h
    exact key _ _ _ _ h
end P25


/-! arithmetic: lists of worths dealt out -/
namespace P66
def lowL (c : Int) (L : List Int) : Int := ((L.filter fun l => decide (l < c))).sum
theorem lowL_cons (c l : Int) (L : List Int) : lowL c (l :: L) = (if l < c then l else 0) + lowL c L := by
  unfold lowL
  by_cases h : l < c
  · rw [if_pos h, List.filter_cons_of_pos (by simpa using h)]; simp
  · rw [if_neg h, List.filter_cons_of_neg (by simpa using h)]; simp
theorem lowL_app (c : Int) (A B : List Int) : lowL c (A ++ B) = lowL c A + lowL c B := by
  unfold lowL
  simp [List.filter_append]
/-- whether these coins can be dealt out so that each lack is filled: what the law's own search says at most -/
inductive Deal : List Int → List Int → Prop
  | nil (L : List Int) : Deal [] L
  | cons (x : Int) (C A B : List Int) (l : Int) : x ≤ l → Deal C (A ++ [l - x] ++ B) → Deal (x :: C) (A ++ [l] ++ B)
theorem deal_low {c : Int} (hc : 0 < c) : ∀ {C L : List Int}, Deal C L → (∀ x ∈ C, 0 < x) → (∀ l ∈ L, 0 ≤ l) → L.sum = C.sum → lowL c L ≤ lowL c C := by
  intro C L d
  induction d with
  | nil L =>
    intro _ h0 hs
    have z : ∀ L : List Int, (∀ l ∈ L, 0 ≤ l) → 0 ≤ lowL c L ∧ lowL c L ≤ L.sum := by
      intro L
      induction L with
      | nil => intro _; simp [lowL]
      | cons l L ih =>
        intro h
        have h1 := h l (by simp)
        have := ih fun q hq => h q (by simp [hq])
        rw [lowL_cons, List.sum_cons]
        split <;> omega
    have := z L h0
    have e : lowL c [] = 0 := rfl
    rw [e]
    simp at hs
    omega
  | cons x C A B l hx _ ih =>
    intro hp h0 hs
    have x0 := hp x (by simp)
    have l0 := h0 l (by simp)
    have := ih (fun y hy => hp y (by simp [hy])) (fun q hq => by
      simp only [List.mem_append, List.mem_singleton] at hq
      rcases hq with (hq | rfl) | hq
      · exact h0 q (by simp [hq])
      · omega
      · exact h0 q (by simp [hq])) (by
      simp only [List.sum_append, List.sum_cons, List.sum_nil] at hs ⊢
      omega)
    rw [lowL_cons]
    rw [lowL_app, lowL_app, lowL_cons] at this ⊢
    have e : lowL c [] = 0 := rfl
    rw [e] at this ⊢
    split at this <;> split <;> split <;> omega
theorem lowL_rep (c a : Int) (h : a < c) (n : Nat) : lowL c (List.replicate n a) = n * a := by
  induction n with
  | zero => simp [lowL]
  | succ n ih =>
    rw [List.replicate_succ, lowL_cons, if_pos h, ih]
    have : ((n + 1 : Nat) : Int) = (n : Int) + 1 := rfl
    rw [this, Int.add_mul]
    omega
theorem sum_rep (a : Int) (n : Nat) : (List.replicate n a).sum = n * a := by
  induction n with
  | zero => simp
  | succ n ih =>
    rw [List.replicate_succ, List.sum_cons, ih]
    have : ((n + 1 : Nat) : Int) = (n : Int) + 1 := rfl
    rw [this, Int.add_mul]
    omega
/-- the told list -/
def toldL (S total many : Int) : List Int :=
  let full := (if total / (S - 1) < many - 1 then total / (S - 1) else many - 1)
  List.replicate full.toNat (S - 1) ++ [total - full * (S - 1)] ++ List.replicate (many - full - 1).toNat 0
theorem told_facts {S total many : Int} (hS : 1 < S) (ht : 0 ≤ total) (hm : 1 ≤ many) : (toldL S total many).length = many.toNat ∧ (toldL S total many).sum = total ∧ ∀ l ∈ toldL S total many, 0 ≤ l := by
  obtain ⟨f, hf⟩ : ∃ f, f = (if total / (S - 1) < many - 1 then total / (S - 1) else many - 1) := ⟨_, rfl⟩
  have q0 : 0 ≤ total / (S - 1) := Int.ediv_nonneg ht (by omega)
  have d := Int.mul_ediv_add_emod total (S - 1)
  have r0 := Int.emod_nonneg total (show S - 1 ≠ 0 by omega)
  have f0 : 0 ≤ f := by rw [hf]; split <;> omega
  have f1 : f ≤ many - 1 := by rw [hf]; split <;> omega
  have f2 : f ≤ total / (S - 1) := by rw [hf]; split <;> omega
  have f3 : f * (S - 1) ≤ total := by
    have : f * (S - 1) ≤ total / (S - 1) * (S - 1) := Int.mul_le_mul_of_nonneg_right f2 (by omega)
    rw [Int.mul_comm (total / (S - 1))] at this
    omega
  have e : toldL S total many = List.replicate f.toNat (S - 1) ++ [total - f * (S - 1)] ++ List.replicate (many - f - 1).toNat 0 := by
    unfold toldL
    rw [← hf]
  rw [e]
  refine ⟨?_, ?_, ?_⟩
  · simp only [List.length_append, List.length_replicate, List.length_singleton]
    omega
  · simp only [List.sum_append, sum_rep, List.sum_cons, List.sum_nil]
    have : ((f.toNat : Nat) : Int) = f := Int.toNat_of_nonneg f0
    rw [this]
    omega
  · intro l hl
    simp only [List.mem_append, List.mem_replicate, List.mem_singleton] at hl
    rcases hl with (⟨_, rfl⟩ | rfl) | ⟨_, rfl⟩ <;> omega
/-- it can't be dealt -/
theorem told_not {S total many : Int} {C : List Int} (hS : 1 < S) (hm : 1 ≤ many) (hp : ∀ x ∈ C, 0 < x) (hs : C.sum = total) (hin : S ∈ C) (hlow : lowL S C < (many - 1) * (S - 1)) : ¬ Deal C (toldL S total many) := by
  intro dl
  have pos : ∀ C : List Int, (∀ x ∈ C, 0 < x) → 0 ≤ C.sum ∧ ∀ x ∈ C, lowL S C + (if x < S then 0 else x) ≤ C.sum ∧ lowL S C ≤ C.sum := by
    intro C
    induction C with
    | nil => intro _; exact ⟨by simp, fun x hx => nomatch hx⟩
    | cons y C ih =>
      intro h
      have hy := h y (by simp)
      obtain ⟨i1, i2⟩ := ih fun z hz => h z (by simp [hz])
      have low : ∀ C : List Int, (∀ x ∈ C, 0 < x) → lowL S C ≤ C.sum := by
        intro C
        induction C with
        | nil => intro _; simp [lowL]
        | cons y C ih =>
          intro h
          have := h y (by simp)
          have := ih fun z hz => h z (by simp [hz])
          rw [lowL_cons, List.sum_cons]
          split <;> omega
      have l1 := low C fun z hz => h z (by simp [hz])
      refine ⟨by rw [List.sum_cons]; omega, fun x hx => ?_⟩
      rw [lowL_cons, List.sum_cons]
      rcases List.mem_cons.mp hx with rfl | hx
      · split <;> omega
      · have := i2 x hx
        split <;> omega
  have t0 : 0 ≤ total := by rw [← hs]; exact (pos C hp).1
  obtain ⟨h1, h2, h3⟩ := told_facts hS t0 hm
  have key := deal_low (c := S) (by omega) dl hp h3 (by rw [h2, hs])
  obtain ⟨f, hf⟩ : ∃ f, f = (if total / (S - 1) < many - 1 then total / (S - 1) else many - 1) := ⟨_, rfl⟩
  have q0 : 0 ≤ total / (S - 1) := Int.ediv_nonneg t0 (by omega)
  have d := Int.mul_ediv_add_emod total (S - 1)
  have r0 := Int.emod_nonneg total (show S - 1 ≠ 0 by omega)
  have r1 := Int.emod_lt_of_pos total (show 0 < S - 1 by omega)
  have f0 : 0 ≤ f := by rw [hf]; split <;> omega
  have e : toldL S total many = List.replicate f.toNat (S - 1) ++ [total - f * (S - 1)] ++ List.replicate (many - f - 1).toNat 0 := by
    unfold toldL
    rw [← hf]
  have nn : ((f.toNat : Nat) : Int) = f := Int.toNat_of_nonneg f0
  rw [e, lowL_app, lowL_app, lowL_rep _ _ (by omega), lowL_rep _ _ (by omega), lowL_cons, nn] at key
  have e0 : lowL S [] = 0 := rfl
  rw [e0] at key
  have st := ((pos C hp).2 S hin).1
  rw [if_neg (by omega), hs] at st
  by_cases c : total / (S - 1) < many - 1
  · rw [if_pos c] at hf
    subst hf
    have : total - total / (S - 1) * (S - 1) = total % (S - 1) := by rw [Int.mul_comm]; omega
    rw [this, if_pos (by omega)] at key
    rw [Int.mul_comm] at key
    omega
  · rw [if_neg c] at hf
    subst hf
    split at key <;> omega
end P66

/-! arithmetic: coins heaped up -/
namespace P66
open P25
def expand (ps : List (Int × Int)) : List Int := ps.flatMap fun p => List.replicate p.2.toNat p.1
theorem expand_nil : expand [] = [] := rfl
theorem expand_cons (p : Int × Int) (ps : List (Int × Int)) : expand (p :: ps) = List.replicate p.2.toNat p.1 ++ expand ps := by simp [expand]
theorem expand_app (ps qs : List (Int × Int)) : expand (ps ++ qs) = expand ps ++ expand qs := by simp [expand]
def addC (fs : List (Int × Int)) (x : Int) : List (Int × Int) := match fs.getLast? with
  | some p => if p.1 = x then fs.dropLast ++ [(p.1, p.2 + 1)] else fs ++ [(x, 1)]
  | none => [(x, 1)]
theorem addC_nil (x : Int) : addC [] x = [(x, 1)] := rfl
theorem addC_eq (gs : List (Int × Int)) (w m : Int) : addC (gs ++ [(w, m)]) w = gs ++ [(w, m + 1)] := by
  unfold addC
  simp
theorem addC_ne (gs : List (Int × Int)) {w m x : Int} (h : w ≠ x) : addC (gs ++ [(w, m)]) x = gs ++ [(w, m)] ++ [(x, 1)] := by
  unfold addC
  simp [h]
theorem up_snoc : ∀ {ps : List (Int × Int)} {m w c : Int}, Up m ps → (∀ p ∈ ps, p.1 < w) → m < w → 1 ≤ c → Up m (ps ++ [(w, c)])
  | [], m, w, c, _, _, h, h' => ⟨h, h', trivial⟩
  | p :: ps, m, w, c, h, hl, _, h' => ⟨h.1, h.2.1, up_snoc h.2.2 (fun q hq => hl q (by simp [hq])) (hl p (by simp)) h'⟩
theorem up_last : ∀ {gs : List (Int × Int)} {m w c c' : Int}, Up m (gs ++ [(w, c)]) → 1 ≤ c' → Up m (gs ++ [(w, c')])
  | [], m, w, c, c', h, h' => ⟨h.1, h', trivial⟩
  | p :: gs, m, w, c, c', h, h' => ⟨h.1, h.2.1, up_last h.2.2 h'⟩
theorem up_before : ∀ {gs : List (Int × Int)} {m w c : Int}, Up m (gs ++ [(w, c)]) → ∀ p ∈ gs, p.1 < w
  | [], m, w, c, _, p, hp => nomatch hp
  | q :: gs, m, w, c, h, p, hp => by
    rcases List.mem_cons.mp hp with rfl | hp
    · exact Up.lt h.2.2 (w, c) (by simp)
    · exact up_before h.2.2 p hp
theorem up_many : ∀ {ps : List (Int × Int)} {m : Int}, Up m ps → ∀ p ∈ ps, m < p.1 ∧ 1 ≤ p.2
  | [], _, _, p, hp => nomatch hp
  | q :: ps, m, h, p, hp => by
    rcases List.mem_cons.mp hp with rfl | hp
    · exact ⟨h.1, h.2.1⟩
    · have := up_many h.2.2 p hp
      have := h.1
      omega
theorem add_step {fs : List (Int × Int)} {x : Int} (hU : Up 0 fs) (hx : 1 ≤ x) (hl : ∀ y ∈ expand fs, y ≤ x) : Up 0 (addC fs x) ∧ expand (addC fs x) = expand fs ++ [x] := by
  rcases List.eq_nil_or_concat fs with rfl | ⟨gs, p, rfl⟩
  · rw [addC_nil]
    exact ⟨⟨by show (0 : Int) < x; omega, Int.le_refl 1, trivial⟩, rfl⟩
  · obtain ⟨w, m⟩ := p
    rw [List.concat_eq_append] at *
    have pm := up_many hU (w, m) (by simp)
    have m1 : 1 ≤ m := pm.2
    by_cases e : w = x
    · subst e
      rw [addC_eq]
      refine ⟨up_last hU (by omega), ?_⟩
      rw [expand_app, expand_app, expand_cons, expand_cons, expand_nil, List.append_nil, List.append_nil, List.append_assoc]
      congr 1
      show List.replicate (m + 1).toNat w = List.replicate m.toNat w ++ [w]
      rw [show (m + 1).toNat = m.toNat + 1 by omega, List.replicate_succ']
    · rw [addC_ne gs e]
      have win : w ∈ expand (gs ++ [(w, m)]) := by
        rw [expand_app, expand_cons, expand_nil, List.append_nil]
        refine List.mem_append_right _ (List.mem_replicate.mpr ⟨?_, rfl⟩)
        show m.toNat ≠ 0
        omega
      have wx : w < x := by have := hl w win; omega
      refine ⟨up_snoc hU (fun p hp => ?_) (by omega) (Int.le_refl 1), ?_⟩
      · rcases List.mem_append.mp hp with hp | hp
        · have := up_before hU p hp
          omega
        · rw [List.mem_singleton] at hp
          subst hp
          exact wx
      · rw [expand_app]
        rfl
theorem fold_add : ∀ (xs : List Int) (fs : List (Int × Int)), Up 0 fs → xs.Pairwise (· ≤ ·) → (∀ x ∈ xs, 1 ≤ x) → (∀ x ∈ xs, ∀ y ∈ expand fs, y ≤ x) → Up 0 (xs.foldl addC fs) ∧ expand (xs.foldl addC fs) = expand fs ++ xs
  | [], fs, hU, _, _, _ => ⟨hU, by simp⟩
  | x :: xs, fs, hU, hs, h1, hl => by
    have hs' := List.pairwise_cons.mp hs
    obtain ⟨u, e⟩ := add_step hU (h1 x (by simp)) (hl x (by simp))
    obtain ⟨u2, e2⟩ := fold_add xs (addC fs x) u hs'.2 (fun y hy => h1 y (by simp [hy])) (fun y hy z hz => by
      rw [e] at hz
      rcases List.mem_append.mp hz with hz | hz
      · exact hl y (by simp [hy]) z hz
      · rw [List.mem_singleton] at hz
        subst hz
        exact hs'.1 y hy)
    exact ⟨u2, by rw [List.foldl_cons, e2, e]; simp⟩
theorem sum_expand : ∀ {ps : List (Int × Int)} {m : Int}, Up m ps → (expand ps).sum = sumP ps
  | [], _, _ => rfl
  | p :: ps, m, h => by
    have h2 := h.2.1
    have nn : ((p.2.toNat : Nat) : Int) = p.2 := Int.toNat_of_nonneg (by omega)
    rw [expand_cons, List.sum_append, sum_expand h.2.2, sumP_cons, sum_rep, nn, Int.mul_comm]
theorem low_expand (c : Int) : ∀ {ps : List (Int × Int)} {m : Int}, Up m ps → lowL c (expand ps) = undP ps c
  | [], _, _ => rfl
  | p :: ps, m, h => by
    have h2 := h.2.1
    have nn : ((p.2.toNat : Nat) : Int) = p.2 := Int.toNat_of_nonneg (by omega)
    rw [expand_cons, lowL_app, low_expand c h.2.2, undP_cons]
    by_cases q : p.1 < c
    · rw [if_pos q, lowL_rep _ _ q, nn, Int.mul_comm]
    · rw [if_neg q]
      have : lowL c (List.replicate p.2.toNat p.1) = 0 := by
        unfold lowL
        rw [List.filter_eq_nil_iff.mpr]
        · rfl
        · intro y hy
          rw [(List.mem_replicate.mp hy).2]
          simpa using q
      rw [this]
theorem expand_len : ∀ {ps : List (Int × Int)} {m : Int}, Up m ps → ps.length ≤ (expand ps).length ∧ ∀ p ∈ ps, p.1 ∈ expand ps ∧ p.2 ≤ (expand ps).length
  | [], _, _ => ⟨by simp, fun p hp => nomatch hp⟩
  | q :: ps, m, h => by
    have h2 := h.2.1
    obtain ⟨i1, i2⟩ := expand_len h.2.2
    have l : (expand (q :: ps)).length = q.2.toNat + (expand ps).length := by rw [expand_cons, List.length_append, List.length_replicate]
    refine ⟨by rw [l, List.length_cons]; omega, fun p hp => ?_⟩
    rcases List.mem_cons.mp hp with rfl | hp
    · refine ⟨?_, by rw [l]; omega⟩
      rw [expand_cons]
      exact List.mem_append_left _ (List.mem_replicate.mpr ⟨by omega, rfl⟩)
    · obtain ⟨a, b⟩ := i2 p hp
      refine ⟨?_, by rw [l]; omega⟩
      rw [expand_cons]
      exact List.mem_append_right _ a
theorem expand_pos : ∀ {ps : List (Int × Int)} {m : Int}, 0 ≤ m → Up m ps → ∀ x ∈ expand ps, 0 < x
  | [], _, _, _, x, hx => nomatch hx
  | q :: ps, m, h0, h, x, hx => by
    have h1 := h.1
    rw [expand_cons] at hx
    rcases List.mem_append.mp hx with hx | hx
    · rw [(List.mem_replicate.mp hx).2]
      omega
    · exact expand_pos (by omega) h.2.2 x hx
end P66

namespace P01
/-- rising worths above m, of one coin at least -/
def Up : Int → List (Int × Int) → Prop
  | _, [] => True
  | m, p :: ps => m < p.1 ∧ 1 ≤ p.2 ∧ Up p.1 ps
theorem Up.lt : ∀ {ps : List (Int × Int)} {m : Int}, Up m ps → ∀ p ∈ ps, m < p.1
  | [], _, _, p, hp => nomatch hp
  | q :: ps, m, h, p, hp => by
    rcases List.mem_cons.mp hp with rfl | hp
    · exact h.1
    · have h1 := h.1
      have := Up.lt h.2.2 p hp
      omega
theorem Up.low : ∀ {ps : List (Int × Int)} {m m' : Int}, m' ≤ m → Up m ps → Up m' ps
  | [], _, _, _, _ => trivial
  | p :: ps, m, m', h, u => ⟨by have := u.1; omega, u.2⟩
theorem up_ge : ∀ {ps : List (Int × Int)} {m : Int}, Up m ps → ∀ p ∈ ps, m < p.1 ∧ 1 ≤ p.2
  | [], _, _, p, hp => nomatch hp
  | q :: ps, m, h, p, hp => by
    rcases List.mem_cons.mp hp with rfl | hp
    · exact ⟨h.1, h.2.1⟩
    · have := up_ge h.2.2 p hp
      have := h.1
      omega
def getI : List (Int × Int) → Int → Int
  | [], _ => 0
  | p :: r, w => if p.1 = w then p.2 else getI r w
def keysP (L : List (Int × Int)) : List Int := L.map (·.1)
theorem key_mem {L : List (Int × Int)} {p : Int × Int} (h : p ∈ L) : p.1 ∈ keysP L := List.mem_map.mpr ⟨p, h, rfl⟩
theorem key_head (p : Int × Int) (r : List (Int × Int)) : p.1 ∈ keysP (p :: r) := key_mem List.mem_cons_self
def stW (L : List (Int × Int)) (w c : Int) : List (Int × Int) := if (L.any fun p => decide (p.1 = w)) = true then L.map (fun p => if p.1 = w then (p.1, c) else p) else L ++ [(w, c)]
theorem getI_no : ∀ {L : List (Int × Int)} {w : Int}, w ∉ keysP L → getI L w = 0
  | [], _, _ => rfl
  | p :: r, w, h => by
    unfold getI
    rw [if_neg (fun e => h (by rw [← e]; exact key_head _ _)), getI_no (L := r) fun z => h (List.mem_cons_of_mem _ z)]
theorem getI_up {L : List (Int × Int)} {m w : Int} (h : Up m L) (hw : w ≤ m) : getI L w = 0 := getI_no fun z => by
  obtain ⟨p, hp, rfl⟩ := List.mem_map.mp z
  have := h.lt p hp
  omega
theorem getI_mem : ∀ {L : List (Int × Int)} {w : Int}, getI L w ≠ 0 → (w, getI L w) ∈ L
  | [], _, h => absurd rfl h
  | p :: r, w, h => by
    unfold getI at h ⊢
    by_cases e : p.1 = w
    · rw [if_pos e]; rw [← e]; exact List.mem_cons_self
    · rw [if_neg e] at h ⊢; exact List.mem_cons_of_mem _ (getI_mem h)
theorem getI_of : ∀ {L : List (Int × Int)} {m : Int}, Up m L → ∀ p ∈ L, getI L p.1 = p.2
  | [], _, _, p, hp => nomatch hp
  | q :: L, m, h, p, hp => by
    unfold getI
    rcases List.mem_cons.mp hp with rfl | hp
    · rw [if_pos rfl]
    · have := h.2.2.lt p hp
      rw [if_neg (by omega), getI_of h.2.2 p hp]
theorem getI_nn {L : List (Int × Int)} {m : Int} (h : Up m L) (w : Int) : 0 ≤ getI L w := by
  by_cases z : getI L w = 0
  · omega
  · have := (up_ge h _ (getI_mem z)).2
    simp only at this
    omega
theorem any_iff (L : List (Int × Int)) (w : Int) : (L.any fun p => decide (p.1 = w)) = true ↔ w ∈ keysP L := by
  rw [List.any_eq_true]
  constructor
  · rintro ⟨p, hp, e⟩
    have := of_decide_eq_true e
    rw [← this]
    exact key_mem hp
  · intro h
    obtain ⟨p, hp, e⟩ := List.mem_map.mp h
    exact ⟨p, hp, decide_eq_true e⟩
theorem getI_map (w c v : Int) : ∀ L : List (Int × Int), getI (L.map fun p => if p.1 = w then (p.1, c) else p) v = if v = w then (if v ∈ keysP L then c else 0) else getI L v
  | [] => by simp [getI, keysP]
  | p :: r => by
    rw [List.map_cons]
    have ih := getI_map w c v r
    by_cases e : p.1 = w
    · rw [if_pos e]
      unfold getI
      by_cases f : v = w
      · rw [if_pos (show p.1 = v by rw [e, f]), if_pos f, if_pos (by rw [f, ← e]; exact key_head _ _)]
      · rw [if_neg (show ¬ p.1 = v from fun z => f (by rw [← z, e])), if_neg f, ih, if_neg f, if_neg (show ¬ p.1 = v from fun z => f (by rw [← z, e]))]
    · rw [if_neg e]
      unfold getI
      by_cases f : p.1 = v
      · rw [if_pos f, if_pos f, if_neg (show ¬ v = w from fun z => e (by rw [f, z]))]
      · rw [if_neg f, if_neg f, ih]
        by_cases g : v = w
        · rw [if_pos g, if_pos g]
          have : v ∈ keysP (p :: r) ↔ v ∈ keysP r := by
            unfold keysP
            rw [List.map_cons, List.mem_cons]
            exact ⟨fun z => z.resolve_left (fun z => f z.symm), .inr⟩
          simp only [this]
        · rw [if_neg g, if_neg g]
theorem getI_app (w c v : Int) : ∀ L : List (Int × Int), w ∉ keysP L → getI (L ++ [(w, c)]) v = if v = w then c else getI L v
  | [], _ => by
    show (if w = v then c else 0) = _
    by_cases e : v = w
    · rw [if_pos e, if_pos e.symm]
    · rw [if_neg e, if_neg (fun z => e z.symm)]; rfl
  | p :: r, h => by
    have ih := getI_app w c v r fun z => h (List.mem_cons_of_mem _ z)
    have n : ¬ p.1 = w := fun e => h (by rw [← e]; exact key_head _ _)
    rw [List.cons_append]
    unfold getI
    by_cases f : p.1 = v
    · rw [if_pos f, if_pos f, if_neg (fun z => n (by rw [f, z]))]
    · rw [if_neg f, if_neg f, ih]
theorem getI_st (L : List (Int × Int)) (w c v : Int) : getI (stW L w c) v = if v = w then c else getI L v := by
  unfold stW
  by_cases h : w ∈ keysP L
  · rw [if_pos ((any_iff L w).mpr h), getI_map]
    by_cases e : v = w
    · rw [if_pos e, if_pos e, if_pos (by rw [e]; exact h)]
    · rw [if_neg e, if_neg e]
  · rw [if_neg (fun z => h ((any_iff L w).mp z)), getI_app w c v L h]
theorem keys_in {L : List (Int × Int)} {w c : Int} (h : w ∈ keysP L) : keysP (stW L w c) = keysP L := by
  unfold stW
  rw [if_pos ((any_iff L w).mpr h)]
  unfold keysP
  rw [List.map_map]
  refine List.map_congr_left fun p _ => ?_
  show (if p.1 = w then (p.1, c) else p).1 = p.1
  by_cases e : p.1 = w
  · rw [if_pos e]
  · rw [if_neg e]
theorem keys_out {L : List (Int × Int)} {w c : Int} (h : w ∉ keysP L) : keysP (stW L w c) = keysP L ++ [w] := by
  unfold stW
  rw [if_neg (fun z => h ((any_iff L w).mp z))]
  simp [keysP]
theorem keys_nodup {L : List (Int × Int)} {w c : Int} (h : (keysP L).Nodup) : (keysP (stW L w c)).Nodup := by
  by_cases k : w ∈ keysP L
  · rw [keys_in k]; exact h
  · rw [keys_out k]
    rw [List.nodup_append]
    refine ⟨h, by simp, fun a ha b hb => ?_⟩
    rw [List.mem_singleton.mp hb]
    exact fun e => k (e ▸ ha)
theorem len_st {L : List (Int × Int)} {w c : Int} : (stW L w c).length ≤ L.length + 1 := by
  unfold stW
  split <;> simp
theorem mem_keys {L : List (Int × Int)} {w c v : Int} : v ∈ keysP (stW L w c) ↔ v ∈ keysP L ∨ v = w := by
  by_cases k : w ∈ keysP L
  · rw [keys_in k]
    exact ⟨.inl, fun z => z.elim id (fun e => e ▸ k)⟩
  · rw [keys_out k]; simp
/-! adding -/
def addL : List (Int × Int) → List (Int × Int) → List (Int × Int)
  | L, [] => L
  | L, p :: b => addL (stW L p.1 (getI L p.1 + p.2)) b
theorem getI_add : ∀ {b : List (Int × Int)} {m : Int} (L : List (Int × Int)), Up m b → ∀ w, getI (addL L b) w = getI L w + getI b w
  | [], _, L, _, w => by simp [addL, getI]
  | p :: b, m, L, h, w => by
    unfold addL
    rw [getI_add _ h.2.2 w, getI_st]
    show _ = getI L w + (if p.1 = w then p.2 else getI b w)
    by_cases e : w = p.1
    · rw [if_pos e, if_pos e.symm, e, getI_up h.2.2 (Int.le_refl _)]; omega
    · rw [if_neg e, if_neg (fun z => e z.symm)]
theorem nodup_add : ∀ {b L : List (Int × Int)}, (keysP L).Nodup → (keysP (addL L b)).Nodup
  | [], _, h => h
  | p :: b, L, h => nodup_add (b := b) (keys_nodup h)
theorem len_add : ∀ {b L : List (Int × Int)}, (addL L b).length ≤ L.length + b.length
  | [], L => by simp [addL]
  | p :: b, L => by
    have := len_add (b := b) (L := stW L p.1 (getI L p.1 + p.2))
    have := len_st (L := L) (w := p.1) (c := getI L p.1 + p.2)
    unfold addL
    simp only [List.length_cons]
    omega
theorem keys_add : ∀ {b L : List (Int × Int)} {v : Int}, v ∈ keysP (addL L b) ↔ v ∈ keysP L ∨ v ∈ keysP b
  | [], L, v => by simp [addL, keysP]
  | p :: b, L, v => by
    unfold addL
    rw [keys_add, mem_keys]
    show _ ↔ v ∈ keysP L ∨ v ∈ p.1 :: keysP b
    rw [List.mem_cons, or_assoc]
theorem up_nodup : ∀ {L : List (Int × Int)} {m : Int}, Up m L → (keysP L).Pairwise (· < ·)
  | [], _, _ => .nil
  | p :: L, m, h => by
    refine List.Pairwise.cons (fun w hw => ?_) (up_nodup h.2.2)
    obtain ⟨q, hq, rfl⟩ := List.mem_map.mp hw
    exact h.2.2.lt q hq
theorem nodup_of {L : List Int} (h : L.Pairwise (· < ·)) : L.Nodup := h.imp fun a => by omega
/-! the canonical form -/
theorem up_of (g : Int → Int) : ∀ {ws : List Int} {m : Int}, ws.Pairwise (· < ·) → (∀ w ∈ ws, m < w ∧ 1 ≤ g w) → Up m (ws.map fun w => (w, g w))
  | [], _, _, _ => trivial
  | w :: ws, m, h, k => by
    cases h with
    | cons h1 h2 => exact ⟨(k w (by simp)).1, (k w (by simp)).2, up_of g h2 fun v hv => ⟨h1 v hv, (k v (by simp [hv])).2⟩⟩
theorem getI_canon (g : Int → Int) (v : Int) : ∀ ws : List Int, getI (ws.map fun w => (w, g w)) v = if v ∈ ws then g v else 0
  | [] => by simp [getI]
  | w :: ws => by
    rw [List.map_cons]
    unfold getI
    by_cases e : w = v
    · rw [if_pos e, if_pos (by rw [e]; exact List.mem_cons_self), e]
    · rw [if_neg e, getI_canon g v ws]
      have : v ∈ w :: ws ↔ v ∈ ws := by
        rw [List.mem_cons]
        exact ⟨fun z => z.resolve_left fun z => e z.symm, .inr⟩
      simp only [this]
theorem up_ext : ∀ {P Q : List (Int × Int)} {m : Int}, Up m P → Up m Q → (∀ w, getI P w = getI Q w) → P = Q
  | [], [], _, _, _, _ => rfl
  | [], q :: Q, m, _, hq, h => by
    have := h q.1
    rw [show getI (q :: Q) q.1 = q.2 from if_pos rfl] at this
    have := hq.2.1
    simp [getI] at *
    omega
  | p :: P, [], m, hp, _, h => by
    have := h p.1
    rw [show getI (p :: P) p.1 = p.2 from if_pos rfl] at this
    have := hp.2.1
    simp [getI] at *
    omega
  | p :: P, q :: Q, m, hp, hq, h => by
    have e1 : p.1 = q.1 := by
      have a := h p.1
      have b := h q.1
      rw [show getI (p :: P) p.1 = p.2 from if_pos rfl] at a
      rw [show getI (q :: Q) q.1 = q.2 from if_pos rfl] at b
      have a1 := hp.2.1
      have b1 := hq.2.1
      by_cases c : p.1 < q.1
      · have : getI (q :: Q) p.1 = 0 := by
          unfold getI
          rw [if_neg (by omega), getI_up hq.2.2 (by omega)]
        omega
      · by_cases c2 : q.1 < p.1
        · have : getI (p :: P) q.1 = 0 := by
            unfold getI
            rw [if_neg (by omega), getI_up hp.2.2 (by omega)]
          omega
        · omega
    have e2 : p.2 = q.2 := by
      have a := h p.1
      rw [show getI (p :: P) p.1 = p.2 from if_pos rfl, e1, show getI (q :: Q) q.1 = q.2 from if_pos rfl] at a
      exact a
    have e3 : p = q := Prod.ext e1 e2
    subst e3
    rw [up_ext (P := P) (Q := Q) (m := p.1) hp.2.2 hq.2.2 fun w => ?_]
    by_cases c : w = p.1
    · rw [c, getI_up hp.2.2 (Int.le_refl _), getI_up hq.2.2 (Int.le_refl _)]
    · have := h w
      unfold getI at this
      rwa [if_neg (fun z => c z.symm), if_neg (fun z => c z.symm)] at this
end P01

namespace P01
def tkL : List (Int × Int) → List (Int × Int) → Sum Int (List (Int × Int))
  | L, [] => .inr L
  | L, p :: b => if getI L p.1 < p.2 then .inl p.1 else tkL (stW L p.1 (getI L p.1 - p.2)) b
def lackL (a b : List (Int × Int)) : List Int := (b.filter fun p => decide (getI a p.1 < p.2)).map (·.1)
theorem key_of_getI {L : List (Int × Int)} {w : Int} (h : getI L w ≠ 0) : w ∈ keysP L := key_mem (getI_mem h)
theorem tk_spec : ∀ {b : List (Int × Int)} {m : Int} (L a : List (Int × Int)), Up m b → (∀ p ∈ b, getI L p.1 = getI a p.1) → match tkL L b with
    | .inl w => ∃ r, lackL a b = w :: r
    | .inr L' => lackL a b = [] ∧ (∀ v, getI L' v = getI L v - getI b v) ∧ keysP L' = keysP L
  | [], m, L, a, _, _ => by
    refine ⟨rfl, fun v => ?_, rfl⟩
    show getI L v = getI L v - 0
    omega
  | p :: b, m, L, a, h, e => by
    unfold tkL
    have e0 := e p (by simp)
    by_cases c : getI L p.1 < p.2
    · rw [if_pos c]
      unfold lackL
      rw [List.filter_cons_of_pos (by rw [← e0]; exact decide_eq_true c), List.map_cons]
      exact ⟨_, rfl⟩
    · rw [if_neg c]
      have ne : ∀ q ∈ b, q.1 ≠ p.1 := fun q hq => by have := h.2.2.lt q hq; omega
      have ih := tk_spec (stW L p.1 (getI L p.1 - p.2)) a h.2.2 (fun q hq => by
        rw [getI_st, if_neg (ne q hq)]; exact e q (by simp [hq]))
      have lk : lackL a (p :: b) = lackL a b := by
        unfold lackL
        rw [List.filter_cons_of_neg (by rw [← e0]; simpa using c)]
      rw [lk]
      cases ht : tkL (stW L p.1 (getI L p.1 - p.2)) b with
      | inl w => rw [ht] at ih; exact ih
      | inr L' =>
        rw [ht] at ih
        obtain ⟨h1, h2, h3⟩ := ih
        have pos := h.2.1
        refine ⟨h1, fun v => ?_, h3.trans (keys_in (key_of_getI (by omega)))⟩
        rw [h2 v, getI_st]
        show _ = getI L v - (if p.1 = v then p.2 else getI b v)
        by_cases f : v = p.1
        · rw [if_pos f, if_pos f.symm, f, getI_up h.2.2 (Int.le_refl _)]; omega
        · rw [if_neg f, if_neg (fun z => f z.symm)]
theorem tk_good {a b : List (Int × Int)} {m : Int} (h : Up m b) (k : ∀ p ∈ b, p.2 ≤ getI a p.1) : lackL a b = [] := by
  unfold lackL
  rw [List.filter_eq_nil_iff.mpr fun p hp => by have := k p hp; simp only [decide_eq_true_eq]; omega]
  rfl
def posL (L : List (Int × Int)) : List (Int × Int) := L.filter fun p => decide (0 < p.2)
theorem up_pos : ∀ {L : List (Int × Int)} {m : Int}, (keysP L).Pairwise (· < ·) → (∀ w ∈ keysP L, m < w) → Up m (posL L)
  | [], _, _, _ => trivial
  | p :: L, m, h, k => by
    have h' : (p.1 :: keysP L).Pairwise (· < ·) := h
    have h' := List.pairwise_cons.mp h'
    unfold posL
    by_cases c : 0 < p.2
    · rw [List.filter_cons_of_pos (p := fun p : Int × Int => decide (0 < p.2)) (decide_eq_true c)]
      exact ⟨k _ (key_head _ _), c, up_pos h'.2 h'.1⟩
    · rw [List.filter_cons_of_neg (by simpa using c)]
      exact up_pos h'.2 fun w hw => k w (List.mem_cons_of_mem _ hw)
theorem getI_pos (v : Int) : ∀ {L : List (Int × Int)}, (keysP L).Nodup → getI (posL L) v = if 0 < getI L v then getI L v else 0
  | [], _ => by simp [posL, getI]
  | p :: L, h => by
    have h' : (p.1 :: keysP L).Nodup := h
    have h' := List.nodup_cons.mp h'
    have ih := getI_pos v h'.2
    unfold posL
    by_cases c : 0 < p.2
    · rw [List.filter_cons_of_pos (p := fun p : Int × Int => decide (0 < p.2)) (decide_eq_true c)]
      unfold getI
      by_cases e : p.1 = v
      · rw [if_pos e, if_pos e, if_pos c]
      · rw [if_neg e, if_neg e]; exact ih
    · rw [List.filter_cons_of_neg (by simpa using c)]
      show getI (posL L) v = _
      rw [ih]
      by_cases e : p.1 = v
      · have z : getI L v = 0 := getI_no (by rw [← e]; exact h'.1)
        have z2 : getI (p :: L) v = p.2 := if_pos e
        rw [z, z2, if_neg (by omega), if_neg c]
      · have z2 : getI (p :: L) v = getI L v := if_neg e
        rw [z2]
def ksL (L : List (Int × Int)) : List Int := Pv.sortI (keysP L)
theorem ks_mem {L : List (Int × Int)} {v : Int} : v ∈ ksL L ↔ v ∈ keysP L := (Pv.sortI_perm _).mem_iff
theorem ks_lt {L : List (Int × Int)} (h : (keysP L).Nodup) : (ksL L).Pairwise (· < ·) := by
  have a := Pv.sortI_sorted (keysP L)
  have b : (ksL L).Nodup := (Pv.sortI_perm (keysP L)).nodup_iff.mpr h
  exact (List.Pairwise.and a b).imp fun {x y} h => by
    have := h.2
    have h1 := h.1
    omega
theorem ks_len {L : List (Int × Int)} : (ksL L).length = L.length := by
  rw [show (ksL L).length = (keysP L).length from (Pv.sortI_perm (keysP L)).length_eq]
  simp [keysP]
def canL (L : List (Int × Int)) : List (Int × Int) := (ksL L).map fun w => (w, getI L w)
theorem up_can {L : List (Int × Int)} {m : Int} (h : (keysP L).Nodup) (k : ∀ w ∈ keysP L, m < w ∧ 1 ≤ getI L w) : Up m (canL L) :=
  up_of (getI L) (ks_lt h) fun w hw => k w (ks_mem.mp hw)
theorem getI_can (L : List (Int × Int)) (v : Int) : getI (canL L) v = getI L v := by
  unfold canL
  rw [getI_canon (getI L) v (ksL L)]
  by_cases h : v ∈ keysP L
  · rw [if_pos (ks_mem.mpr h)]
  · rw [if_neg (fun z => h (ks_mem.mp z)), getI_no h]
def kpL (L : List (Int × Int)) : List (Int × Int) := ((ksL L).filter fun w => decide (0 < getI L w)).map fun w => (w, getI L w)
theorem up_kp {L : List (Int × Int)} {m : Int} (h : (keysP L).Nodup) (k : ∀ w ∈ keysP L, m < w) : Up m (kpL L) :=
  up_of (getI L) ((ks_lt h).filter _) fun w hw => by
    have := List.mem_filter.mp hw
    exact ⟨k w (ks_mem.mp this.1), of_decide_eq_true this.2⟩
theorem getI_kp (L : List (Int × Int)) (v : Int) : getI (kpL L) v = if 0 < getI L v then getI L v else 0 := by
  unfold kpL
  rw [getI_canon (getI L) v]
  by_cases c : 0 < getI L v
  · rw [if_pos c, if_pos (List.mem_filter.mpr ⟨ks_mem.mpr (key_of_getI (by omega)), decide_eq_true c⟩)]
  · rw [if_neg c, if_neg (show ¬ v ∈ (ksL L).filter (fun w => decide (0 < getI L w)) from fun z => c (of_decide_eq_true (List.mem_filter.mp z).2))]
/-! a pile of at most n lots, of at most c coins each -/
structure Pil (n : Nat) (c : Int) (ps : List (Int × Int)) : Prop where
  up : Up 0 ps
  few : ps.length ≤ n
  small : ∀ p ∈ ps, p.1 < 10 ^ 10 ∧ p.2 ≤ c
theorem Pil.nodup {n : Nat} {c : Int} {ps : List (Int × Int)} (h : Pil n c ps) : (keysP ps).Nodup := nodup_of (up_nodup h.up)
theorem Pil.key {n : Nat} {c : Int} {ps : List (Int × Int)} (h : Pil n c ps) : ∀ w ∈ keysP ps, 0 < w ∧ w < 10 ^ 10 := fun w hw => by
  obtain ⟨p, hp, rfl⟩ := List.mem_map.mp hw
  exact ⟨h.up.lt p hp, (h.small p hp).1⟩
theorem getI_le {n : Nat} {c : Int} (h0 : 0 ≤ c) {ps : List (Int × Int)} (h : Pil n c ps) (w : Int) : getI ps w ≤ c := by
  by_cases z : getI ps w = 0
  · omega
  · exact (h.small _ (getI_mem z)).2
def togL (a b : List (Int × Int)) : List (Int × Int) := canL (addL a b)
theorem tog_key {n m : Nat} {c d : Int} {a b : List (Int × Int)} (ha : Pil n c a) (hb : Pil m d b) : ∀ w ∈ keysP (addL a b), 0 < w ∧ 1 ≤ getI (addL a b) w := fun w hw => by
  rw [getI_add a hb.up]
  have h1 := getI_nn ha.up w
  have h2 := getI_nn hb.up w
  rcases keys_add.mp hw with k | k
  · obtain ⟨p, hp, rfl⟩ := List.mem_map.mp k
    have := getI_of ha.up p hp
    have := up_ge ha.up p hp
    omega
  · obtain ⟨p, hp, rfl⟩ := List.mem_map.mp k
    have := getI_of hb.up p hp
    have := up_ge hb.up p hp
    omega
theorem tog_nodup {n m : Nat} {c d : Int} {a b : List (Int × Int)} (ha : Pil n c a) (hb : Pil m d b) : (keysP (addL a b)).Nodup := nodup_add ha.nodup
theorem tog_get {n m : Nat} {c d : Int} {a b : List (Int × Int)} (ha : Pil n c a) (hb : Pil m d b) (w : Int) : getI (togL a b) w = getI a w + getI b w := by
  unfold togL
  rw [getI_can, getI_add a hb.up]
theorem tog_pil {n m : Nat} {c d : Int} {a b : List (Int × Int)} (hc : 0 ≤ c) (hd : 0 ≤ d) (ha : Pil n c a) (hb : Pil m d b) : Pil (n + m) (c + d) (togL a b) := by
  have up : Up 0 (togL a b) := up_can (tog_nodup ha hb) (tog_key ha hb)
  refine ⟨up, ?_, fun p hp => ?_⟩
  · unfold togL canL
    rw [List.length_map, ks_len]
    have := len_add (L := a) (b := b)
    have := ha.few
    have := hb.few
    omega
  · have e := getI_of up p hp
    rw [tog_get ha hb] at e
    have h1 := getI_le hc ha p.1
    have h2 := getI_le hd hb p.1
    refine ⟨?_, by omega⟩
    have hk : p.1 ∈ keysP (addL a b) := ks_mem.mp (by
      unfold togL canL at hp
      obtain ⟨w, hw, rfl⟩ := List.mem_map.mp hp
      exact hw)
    rcases keys_add.mp hk with k | k
    · exact (ha.key _ k).2
    · exact (hb.key _ k).2
theorem tog_comm {n m : Nat} {c d : Int} {a b : List (Int × Int)} (hc : 0 ≤ c) (hd : 0 ≤ d) (ha : Pil n c a) (hb : Pil m d b) : togL b a = togL a b :=
  up_ext (tog_pil hd hc hb ha).up (tog_pil hc hd ha hb).up fun w => by rw [tog_get hb ha, tog_get ha hb]; omega
theorem kp_tog {n m : Nat} {c d : Int} {a b : List (Int × Int)} (hc : 0 ≤ c) (hd : 0 ≤ d) (ha : Pil n c a) (hb : Pil m d b) : kpL (addL a b) = togL a b :=
  up_ext (m := 0) (up_kp (tog_nodup ha hb) fun w hw => (tog_key ha hb w hw).1) (tog_pil hc hd ha hb).up fun w => by
    rw [getI_kp, tog_get ha hb, getI_add a hb.up]
    have h1 := getI_nn ha.up w
    have h2 := getI_nn hb.up w
    split <;> omega
/-- what is left: its form and its counts -/
theorem left_eq {n : Nat} {c : Int} {a L' : List (Int × Int)} (ha : Pil n c a) (hk : keysP L' = keysP a) : posL L' = kpL L' := by
  have nd : (keysP L').Nodup := by rw [hk]; exact ha.nodup
  refine up_ext (m := 0) (up_pos (by rw [hk]; exact up_nodup ha.up) fun w hw => ?_) (up_kp nd fun w hw => ?_) fun w => ?_
  · rw [hk] at hw; exact (ha.key w hw).1
  · rw [hk] at hw; exact (ha.key w hw).1
  · rw [getI_pos w nd, getI_kp]
theorem left_is {n m : Nat} {c d : Int} {a b x L' : List (Int × Int)} (ha : Pil n c a) (hx : Up 0 x) (hk : keysP L' = keysP a) (hg : ∀ v, getI L' v = getI a v - getI b v) (e : ∀ v, getI a v - getI b v = getI x v) : posL L' = x := by
  have nd : (keysP L').Nodup := by rw [hk]; exact ha.nodup
  refine up_ext (m := 0) (up_pos (by rw [hk]; exact up_nodup ha.up) fun w hw => ?_) hx fun w => ?_
  · rw [hk] at hw; exact (ha.key w hw).1
  · rw [getI_pos w nd, hg, e]
    have := getI_nn hx w
    split <;> omega
end P01

/-! arithmetic: a till in every company -/
namespace P49
open P25 P66
theorem und_nonneg : ∀ {ps : List (Int × Int)} {m : Int}, 0 ≤ m → Up m ps → ∀ c, 0 ≤ undP ps c
  | [], _, _, _, _ => by simp [undP]
  | p :: ps, m, h0, h, c => by
    have h1 := h.1
    have h2 := h.2.1
    have := und_nonneg (ps := ps) (m := p.1) (by omega) h.2.2 c
    have k : 0 ≤ p.1 * p.2 := Int.mul_nonneg (by omega) (by omega)
    rw [undP_cons]
    split <;> omega
theorem und_mono : ∀ {ps : List (Int × Int)} {m : Int}, 0 ≤ m → Up m ps → ∀ {b c : Int}, b ≤ c → undP ps b ≤ undP ps c
  | [], _, _, _, _, _, _ => Int.le_refl _
  | p :: ps, m, h0, h, b, c, hb => by
    have h1 := h.1
    have h2 := h.2.1
    have := und_mono (ps := ps) (m := p.1) (by omega) h.2.2 hb
    have k : 0 ≤ p.1 * p.2 := Int.mul_nonneg (by omega) (by omega)
    rw [undP_cons, undP_cons]
    split <;> split <;> omega
theorem und_le_sum : ∀ {ps : List (Int × Int)} {m : Int}, 0 ≤ m → Up m ps → ∀ c, undP ps c ≤ sumP ps
  | [], _, _, _, _ => by simp [undP, sumP]
  | p :: ps, m, h0, h, c => by
    have h1 := h.1
    have h2 := h.2.1
    have := und_le_sum (ps := ps) (m := p.1) (by omega) h.2.2 c
    have k : 0 ≤ p.1 * p.2 := Int.mul_nonneg (by omega) (by omega)
    rw [undP_cons, sumP_cons]
    split <;> omega
/-- the last worth beneath a bound -/
theorem und_last : ∀ {ps : List (Int × Int)} {m : Int}, Up m ps → ∀ b, undP ps b = 0 ∨ ∃ q ∈ ps, q.1 < b ∧ undP ps b = undP ps (q.1 + 1)
  | [], _, _, _ => .inl rfl
  | p :: ps, m, h, b => by
    by_cases c : p.1 < b
    · right
      rcases und_last h.2.2 b with z | ⟨q, hq, lt, e⟩
      · refine ⟨p, by simp, c, ?_⟩
        have n : undP ps (p.1 + 1) = 0 := undP_none fun q hq => by have := Up.lt h.2.2 q hq; omega
        rw [undP_cons, undP_cons, if_pos c, if_pos (by omega), z, n]
      · refine ⟨q, by simp [hq], lt, ?_⟩
        have := Up.lt h.2.2 q hq
        rw [undP_cons, undP_cons, if_pos c, if_pos (by omega), e]
    · left
      rw [undP_cons, if_neg c, undP_none fun q hq => by have := Up.lt h.2.2 q hq; omega]
      rfl
/-- the first worth of the other at which the one has less -/
def outA (one : List (Int × Int)) : List (Int × Int) → Int → Option (Int × Int)
  | [], _ => none
  | p :: ps, l => if undP one (p.1 + 1) < l + p.1 * p.2 then some (p.1 + 1, l + p.1 * p.2) else outA one ps (l + p.1 * p.2)
theorem und_upto {pre : List (Int × Int)} {m : Int} {p : Int × Int} {suf : List (Int × Int)} (h : Up m (pre ++ p :: suf)) : undP (pre ++ p :: suf) (p.1 + 1) = sumP pre + p.1 * p.2 := by
  have e := undP_split h
  have key : ∀ {pre : List (Int × Int)} {m : Int}, Up m (pre ++ p :: suf) → undP (pre ++ p :: suf) (p.1 + 1) = undP (pre ++ p :: suf) p.1 + p.1 * p.2 := by
    intro pre
    induction pre with
    | nil =>
      intro m h
      rw [List.nil_append, undP_cons, undP_cons, if_pos (by omega), if_neg (by omega), undP_none fun q hq => by have := Up.lt h.2.2 q hq; omega, undP_none fun q hq => by have := Up.lt h.2.2 q hq; omega]
      omega
    | cons q pre ih =>
      intro m h
      have := Up.lt h.2.2 p (by simp)
      rw [List.cons_append, undP_cons, undP_cons, ih h.2.2, if_pos (by omega), if_pos (by omega)]
      omega
  rw [key h, e]
theorem out_none {one other : List (Int × Int)} (hO : Up 0 other) : ∀ (suf pre : List (Int × Int)), other = pre ++ suf → (outA one suf (sumP pre) = none ↔ ∀ p ∈ suf, undP other (p.1 + 1) ≤ undP one (p.1 + 1))
  | [], pre, _ => by simp [outA]
  | p :: suf, pre, e => by
    have u : undP other (p.1 + 1) = sumP pre + p.1 * p.2 := by rw [e]; exact und_upto (m := 0) (by rw [← e]; exact hO)
    have ih := out_none (one := one) hO suf (pre ++ [p]) (by rw [e]; simp)
    have s : sumP (pre ++ [p]) = sumP pre + p.1 * p.2 := by rw [sumP_append, sumP_cons]; simp [sumP]
    rw [s] at ih
    unfold outA
    by_cases c : undP one (p.1 + 1) < sumP pre + p.1 * p.2
    · rw [if_pos c]
      constructor
      · intro h; cases h
      · intro h
        have := h p (by simp)
        omega
    · rw [if_neg c, ih]
      constructor
      · intro h q hq
        rcases List.mem_cons.mp hq with rfl | hq
        · omega
        · exact h q hq
      · intro h q hq
        exact h q (by simp [hq])
theorem out_some {one other : List (Int × Int)} (hO : Up 0 other) {w l : Int} : ∀ (suf pre : List (Int × Int)), other = pre ++ suf → outA one suf (sumP pre) = some (w, l) → l = undP other w ∧ undP one w < l ∧ ∃ p ∈ other, w = p.1 + 1
  | [], pre, _, h => by cases h
  | p :: suf, pre, e, h => by
    have u : undP other (p.1 + 1) = sumP pre + p.1 * p.2 := by rw [e]; exact und_upto (m := 0) (by rw [← e]; exact hO)
    have s : sumP (pre ++ [p]) = sumP pre + p.1 * p.2 := by rw [sumP_append, sumP_cons]; simp [sumP]
    unfold outA at h
    by_cases c : undP one (p.1 + 1) < sumP pre + p.1 * p.2
    · rw [if_pos c] at h
      cases h
      exact ⟨u.symm, c, p, by rw [e]; simp, rfl⟩
    · rw [if_neg c, ← s] at h
      exact out_some hO suf (pre ++ [p]) (by rw [e]; simp) h
def dueB (one other : List (Int × Int)) : Bool := (one ++ other).all fun p => !decide (undP one (p.1 + 1) < undP other (p.1 + 1))
theorem due_iff {one other : List (Int × Int)} (h1 : Up 0 one) (h2 : Up 0 other) : dueB one other = true ↔ outA one other 0 = none := by
  have key := out_none (one := one) h2 other [] rfl
  have e : sumP [] = 0 := rfl
  rw [e] at key
  rw [key]
  unfold dueB
  rw [List.all_eq_true]
  constructor
  · intro h p hp
    have := h p (by simp [hp])
    simp only [Bool.not_eq_true', decide_eq_false_iff_not] at this
    omega
  · intro h p hp
    simp only [Bool.not_eq_true', decide_eq_false_iff_not]
    rcases List.mem_append.mp hp with hp | hp
    · rcases und_last h2 (p.1 + 1) with z | ⟨q, hq, lt, z⟩
      · have := und_nonneg (Int.le_refl 0) h1 (p.1 + 1)
        omega
      · have a := h q hq
        have b := und_mono (Int.le_refl 0) h1 (show q.1 + 1 ≤ p.1 + 1 by omega)
        omega
    · have := h p hp
      omega
/-- l calls of w - 1 held by a till -/
def topM (w l v : Int) : Int := l * mn (w - 1) (v - 1)
def holdB (ps : List (Int × Int)) (w l : Int) : Bool := (ps.all fun p => !(decide (1 < p.1) && decide (undP ps p.1 < topM w l p.1))) && decide (l * (w - 1) ≤ sumP ps)
def comp (w l : Int) : List (Int × Int) := if 0 < l * (w - 2) then [(1, l * (w - 2)), (w, 1)] else [(w, 1)]
theorem comp_up {w l : Int} (hw : 1 < w) (hl : 0 < l) : Up 0 (comp w l) := by
  unfold comp
  split
  · exact ⟨by show (0 : Int) < 1; decide, by show 1 ≤ l * (w - 2); omega, hw, Int.le_refl 1, trivial⟩
  · exact ⟨by show 0 < w; omega, Int.le_refl 1, trivial⟩
theorem comp_low {w l v : Int} (hw : 1 < w) (hl : 0 < l) (hv : 1 < v) : undP (comp w l) v = l * (w - 2) + (if w < v then w else 0) := by
  have n : 0 ≤ l * (w - 2) := Int.mul_nonneg (by omega) (by omega)
  unfold comp
  split
  · rw [undP_cons, undP_cons, if_pos (show (1 : Int) < v by omega)]
    have e : undP [] v = 0 := rfl
    rw [e]
    split <;> simp
  · rw [undP_cons]
    have e : undP [] v = 0 := rfl
    rw [e]
    split <;> simp <;> omega
theorem comp_sum {w l : Int} (hw : 1 < w) (hl : 0 < l) : sumP (comp w l) = l * (w - 2) + w := by
  have n : 0 ≤ l * (w - 2) := Int.mul_nonneg (by omega) (by omega)
  unfold comp
  split
  · simp [sumP]
  · simp [sumP]; omega
/-- the other's till with the company holds them, the one's doesn't -/
theorem holds_yes {other ps : List (Int × Int)} {w l : Int} (hO : Up 0 other) (hw : 1 < w) (hl : 0 < l) (e : l = undP other w) (hu : ∀ v, undP ps v = undP other v + undP (comp w l) v) (hs : sumP ps = sumP other + sumP (comp w l)) : holdB ps w l = true := by
  have m2 : l * (w - 1) = l * (w - 2) + l := by
    rw [show w - 1 = w - 2 + 1 by omega, Int.mul_add, Int.mul_one]
  unfold holdB
  rw [Bool.and_eq_true, decide_eq_true_eq, List.all_eq_true]
  refine ⟨fun p _ => ?_, ?_⟩
  · rw [Bool.not_eq_true', Bool.and_eq_false_iff]
    by_cases h1 : 1 < p.1
    · right
      rw [decide_eq_false_iff_not, hu, comp_low hw hl h1]
      have u0 := und_nonneg (Int.le_refl 0) hO p.1
      unfold topM mn
      by_cases c : w ≤ p.1
      · have := und_mono (Int.le_refl 0) hO c
        rw [if_neg (show ¬ p.1 - 1 < w - 1 by omega), m2]
        split <;> omega
      · rw [if_pos (show p.1 - 1 < w - 1 by omega), if_neg (show ¬ w < p.1 by omega)]
        have : l * (p.1 - 1) ≤ l * (w - 2) := Int.mul_le_mul_of_nonneg_left (by omega) (by omega)
        omega
    · left
      exact decide_eq_false h1
  · have := und_le_sum (Int.le_refl 0) hO w
    rw [hs, comp_sum hw hl]
    omega
theorem holds_no {one ps : List (Int × Int)} {w l : Int} (hw : 1 < w) (hl : 0 < l) (e : undP one w < l) (hu : ∀ v, undP ps v = undP one v + undP (comp w l) v) (hm : ∃ p ∈ ps, p.1 = w) : holdB ps w l = false := by
  have m2 : l * (w - 1) = l * (w - 2) + l := by
    rw [show w - 1 = w - 2 + 1 by omega, Int.mul_add, Int.mul_one]
  obtain ⟨p, hp, ew⟩ := hm
  have : (ps.all fun p => !(decide (1 < p.1) && decide (undP ps p.1 < topM w l p.1))) = false := by
    rw [List.all_eq_false]
    refine ⟨p, hp, ?_⟩
    have t : topM w l w = l * (w - 1) := by unfold topM mn; rw [if_neg (by omega)]
    rw [ew, hu, comp_low hw hl hw, if_neg (by omega), t, decide_eq_true hw, decide_eq_true (by omega)]
    simp
  unfold holdB
  rw [this]
  rfl
end P49

set_option maxRecDepth 100000
set_option maxHeartbeats 4000000
namespace K49
open PySem PySem.Spec PyProof.Rows L2 Pv
section
variable {K : PySem.W.Frag} {κ : Cls} {mg : Str → Option Value}
/-- no exception -/
def nx : D → Prop
  | .exc _ => False
  | .excF _ _ => False
  | .tupW _ => False
  | _ => True
def nxs : D → Prop
  | .tup xs => ∀ x ∈ xs, nx x
  | _ => True
def nxp : D → Prop
  | .tup xs => ∀ x ∈ xs, nx x ∧ nxs x
  | _ => True
def numB : D → Int → Bool
  | .int i, n => decide (n ≤ i)
  | _, _ => false
theorem v_num (T : Tx K κ mg) (x : D) (n : Int) (h : nx x) : f_is_number T [.d x, .d (.int n)] = .ok (.d (.bl (numB x n))) [.d x, .d (.int n)] := by
  cases x <;> first | exact h.elim | kernel_rfl
def lotB : D → Bool
  | .tup [a, b] => numB a 1 && numB b 1
  | _ => false
theorem kt1 : kitB "int" "int" = some true := by decide +kernel
theorem v_lot (T : Tx K κ mg) (x : D) (h : nx x) (h' : nxs x) : f__is_lot T [.d x] = .ok (.d (.bl (lotB x))) [.d x] := by
  cases x with
  | tup xs =>
    match xs, h' with
    | [], _ => kernel_rfl
    | [a], _ => kernel_rfl
    | a :: b :: c :: l, _ => kernel_rfl
    | [a, b], h' =>
      have ha := v_num T a 1 (h' a (by simp))
      have hb := v_num T b 1 (h' b (by simp))
      have t : gTy "tuple" (.tup [a, b]) = some true := by kernel_rfl
      have n2 : gNe (.int ((0 + 1 + 1 : Nat) : Int)) (.int 2) = some (.bl false) := by kernel_rfl
      have i0 : gIxT (.tup [a, b]) (.int 0) = some a := by kernel_rfl
      have i1 : gIxT (.tup [a, b]) (.int 1) = some b := by kernel_rfl
      unfold f__is_lot Pv.fnOf b__is_lot
      simp only [eV_ev, eC_ev, eOp_ev, eUn_ev, eIsN_ev, eNotN_ev, aNil_ev, aCons_ev, aM_ev, eTup_ev, eLst_ev, eLstM_ev, eCall_ev, eCB_ev, tV_ev, tV'_ev, tAnd'_ev, tOr'_ev, tNot'_ev, eAndV_ev, eOrV_ev, eNotV_ev, eIf_ev, sNil_sv, sSeq_sv, sAsg_sv, sIf_sv, sRet_sv, sDrop_sv, sSetL_sv, sApp_sv, eIxM_ev, eLenM_ev, iT_ev, iL_ev, iR1_ev, iR2_ev, gN_put, gs0_put, gs1_put, gT_put, sAsgG_sv, tYes'_ev, eIs_ev, sRaise_sv, sTry_sv, sNever_sv, sPar_sv, o0_ev, o1_ev, eSlT_ev, sSetD_sv, eIxD_ev, eGetD_ev, eSortD_ev, eDict_ev, eNegC_ev, eRevT_ev, eOrD_ev, eRepM_ev, sAugI_sv, iItemsD_ev, iZip_ev, sRaiseF_sv, eIsX_ev, eFldX_ev, eCatM_ev, eSortIt_ev, sAugAdd, sAugSub, eIntOf, eRep01, eStrOf, eTupOf, eLstOf, eCatT, eInt, eStr, eBl, eNon, eAdd, eSub, eMul, eMulW, eMod, eDiv, ePow, eLt, eLe, eGt, eGe, eEq, eNe, eIxL, eIxT, eLen, eMax2, eMin2, eAll, eAny, eSum, eIsTy, R.bindD_ok, gI, R.bindD_ok, R.bindD_exc, R.bind_ok, R.bind_exc, R.bind_bad, R.of, R.flow, evV, evD, dat, pull, push, callOn, left, begun, List.length_cons, List.length_nil, List.getElem?_cons_zero, List.getElem?_cons_succ, List.set_cons_zero, List.set_cons_succ, if_true, if_false, ite_t, ite_f, Nat.reduceAdd, Nat.reduceLT, Nat.reduceSub, Nat.reduceEqDiff, Nat.reduceLeDiff, List.map_cons, List.map_nil, List.replicate, List.append_nil, List.nil_append, List.cons_append, and_self, true_and, and_true, Bool.not_true, Bool.not_false, Bool.false_eq_true, reduceIte, Nat.zero_add, Nat.lt_add_left_iff_pos, t, gLen, n2, i0, i1, ha, hb]
      have l : lotB (.tup [a, b]) = (numB a 1 && numB b 1) := rfl
      rw [l]
      cases numB a 1 <;> rfl
  | exc _ => exact h.elim
  | excF _ _ => exact h.elim
  | tupW _ => exact h.elim
  | _ => kernel_rfl
def lotN : D → Option Int
  | .tup [.int a, .int b] => if 1 ≤ a ∧ 1 ≤ b then some a else none
  | _ => none
/-- what is_pile tells, from a last worth on -/
def pilF : Int → List D → Bool
  | _, [] => true
  | m, y :: r => match lotN y with
    | some a => !decide (a ≤ m) && pilF a r
    | none => false
def pilB : D → Bool
  | .tup xs => pilF 0 xs
  | _ => false
theorem lot_of {y : D} (h : lotB y = true) : ∃ a b : Int, y = .tup [.int a, .int b] ∧ 1 ≤ a ∧ 1 ≤ b := by
  unfold lotB at h
  split at h
  · rename_i a b
    rw [Bool.and_eq_true] at h
    cases a <;> simp [numB] at h
    cases b <;> simp [numB] at h
    exact ⟨_, _, rfl, h.1, h.2⟩
  · cases h
theorem lot_no {y : D} (h : lotB y = false) : lotN y = none := by
  unfold lotN
  split
  · rename_i a b
    have : (decide (1 ≤ a) && decide (1 ≤ b)) = false := h
    rw [if_neg]
    intro q
    rw [decide_eq_true q.1, decide_eq_true q.2] at this
    cases this
  · rfl
theorem lot_yes {a b : Int} (h : 1 ≤ a) (h' : 1 ≤ b) : lotN (.tup [.int a, .int b]) = some a := if_pos ⟨h, h'⟩
def bd_is_pile (T : Tx K κ mg) : SS K κ := sSeq (sIf (tOr' (tNot' (tV (eCall 1 (f__is_lot T) (aCons (eV 2) (aNil))))) (tV' (eLe (eIxT (eV 2) (eInt 0)) (eV 1)))) (sSeq (sRet (eBl false))
    (sNil)) (sNil))
    (sSeq (sAsg 1 (eIxT (eV 2) (eInt 0)))
    (sNil))
theorem is_pile_loop (T : Tx K κ mg) (x : D) : ∀ (r : List D) (m : Int) (l : Option W), (∀ y ∈ r, nx y ∧ nxs y) →
    ∃ u v, loopS (gN (K := K) (κ := κ) 2).put (bd_is_pile T).sv r [some (.d x), some (.d (.int m)), l] = .ok (if pilF m r = true then .nx else .rt (.d (.bl false))) [some (.d x), u, v] := by
  intro r
  induction r with
  | nil => exact fun m l _ => ⟨_, _, rfl⟩
  | cons y r ih =>
    intro m l h
    have hy := h y (by simp)
    have ly := v_lot T y hy.1 hy.2
    cases hl : lotB y with
    | false =>
      rw [hl] at ly
      refine ⟨some (.d (.int m)), some (.d y), ?_⟩
      unfold pilF
      rw [lot_no hl]
      exact loop_rt rfl (by unfold bd_is_pile; simp only [eV_ev, eC_ev, eOp_ev, eUn_ev, eIsN_ev, eNotN_ev, aNil_ev, aCons_ev, aM_ev, eTup_ev, eLst_ev, eLstM_ev, eCall_ev, eCB_ev, tV_ev, tV'_ev, tAnd'_ev, tOr'_ev, tNot'_ev, eAndV_ev, eOrV_ev, eNotV_ev, eIf_ev, sNil_sv, sSeq_sv, sAsg_sv, sIf_sv, sRet_sv, sDrop_sv, sSetL_sv, sApp_sv, eIxM_ev, eLenM_ev, iT_ev, iL_ev, iR1_ev, iR2_ev, gN_put, gs0_put, gs1_put, gT_put, sAsgG_sv, tYes'_ev, eIs_ev, sRaise_sv, sTry_sv, sNever_sv, sPar_sv, o0_ev, o1_ev, eSlT_ev, sSetD_sv, eIxD_ev, eGetD_ev, eSortD_ev, eDict_ev, eNegC_ev, eRevT_ev, eOrD_ev, eRepM_ev, sAugI_sv, iItemsD_ev, iZip_ev, sRaiseF_sv, eIsX_ev, eFldX_ev, eCatM_ev, eSortIt_ev, sAugAdd, sAugSub, eIntOf, eRep01, eStrOf, eTupOf, eLstOf, eCatT, eInt, eStr, eBl, eNon, eAdd, eSub, eMul, eMulW, eMod, eDiv, ePow, eLt, eLe, eGt, eGe, eEq, eNe, eIxL, eIxT, eLen, eMax2, eMin2, eAll, eAny, eSum, eIsTy, R.bindD_ok, gI, R.bindD_ok, R.bindD_exc, R.bind_ok, R.bind_exc, R.bind_bad, R.of, R.flow, evV, evD, dat, pull, push, callOn, left, begun, List.length_cons, List.length_nil, List.getElem?_cons_zero, List.getElem?_cons_succ, List.set_cons_zero, List.set_cons_succ, if_true, if_false, ite_t, ite_f, Nat.reduceAdd, Nat.reduceLT, Nat.reduceSub, Nat.reduceEqDiff, Nat.reduceLeDiff, List.map_cons, List.map_nil, List.replicate, List.append_nil, List.nil_append, List.cons_append, and_self, true_and, and_true, Bool.not_true, Bool.not_false, Bool.false_eq_true, reduceIte, Nat.zero_add, Nat.lt_add_left_iff_pos, ly])
    | true =>
      rw [hl] at ly
      obtain ⟨a, b, rfl, ha, hb⟩ := lot_of hl
      have i0 : gIxT (.tup [.int a, .int b]) (.int 0) = some (.int a) := by kernel_rfl
      by_cases c : a ≤ m
      · refine ⟨some (.d (.int m)), some (.d (.tup [.int a, .int b])), ?_⟩
        unfold pilF
        rw [lot_yes ha hb]
        simp only [decide_eq_true c, Bool.not_true, Bool.false_and]
        exact loop_rt rfl (by unfold bd_is_pile; simp only [eV_ev, eC_ev, eOp_ev, eUn_ev, eIsN_ev, eNotN_ev, aNil_ev, aCons_ev, aM_ev, eTup_ev, eLst_ev, eLstM_ev, eCall_ev, eCB_ev, tV_ev, tV'_ev, tAnd'_ev, tOr'_ev, tNot'_ev, eAndV_ev, eOrV_ev, eNotV_ev, eIf_ev, sNil_sv, sSeq_sv, sAsg_sv, sIf_sv, sRet_sv, sDrop_sv, sSetL_sv, sApp_sv, eIxM_ev, eLenM_ev, iT_ev, iL_ev, iR1_ev, iR2_ev, gN_put, gs0_put, gs1_put, gT_put, sAsgG_sv, tYes'_ev, eIs_ev, sRaise_sv, sTry_sv, sNever_sv, sPar_sv, o0_ev, o1_ev, eSlT_ev, sSetD_sv, eIxD_ev, eGetD_ev, eSortD_ev, eDict_ev, eNegC_ev, eRevT_ev, eOrD_ev, eRepM_ev, sAugI_sv, iItemsD_ev, iZip_ev, sRaiseF_sv, eIsX_ev, eFldX_ev, eCatM_ev, eSortIt_ev, sAugAdd, sAugSub, eIntOf, eRep01, eStrOf, eTupOf, eLstOf, eCatT, eInt, eStr, eBl, eNon, eAdd, eSub, eMul, eMulW, eMod, eDiv, ePow, eLt, eLe, eGt, eGe, eEq, eNe, eIxL, eIxT, eLen, eMax2, eMin2, eAll, eAny, eSum, eIsTy, R.bindD_ok, gI, R.bindD_ok, R.bindD_exc, R.bind_ok, R.bind_exc, R.bind_bad, R.of, R.flow, evV, evD, dat, pull, push, callOn, left, begun, List.length_cons, List.length_nil, List.getElem?_cons_zero, List.getElem?_cons_succ, List.set_cons_zero, List.set_cons_succ, if_true, if_false, ite_t, ite_f, Nat.reduceAdd, Nat.reduceLT, Nat.reduceSub, Nat.reduceEqDiff, Nat.reduceLeDiff, List.map_cons, List.map_nil, List.replicate, List.append_nil, List.nil_append, List.cons_append, and_self, true_and, and_true, Bool.not_true, Bool.not_false, Bool.false_eq_true, reduceIte, Nat.zero_add, Nat.lt_add_left_iff_pos, ly, i0, decide_eq_true c])
      · obtain ⟨u, v, e⟩ := ih a (some (.d (.tup [.int a, .int b]))) fun y z => h y (by simp [z])
        refine ⟨u, v, ?_⟩
        unfold pilF
        rw [lot_yes ha hb]
        simp only [decide_eq_false c, Bool.not_false, Bool.true_and]
        rw [← e]
        exact loop_nx rfl (by unfold bd_is_pile; simp only [eV_ev, eC_ev, eOp_ev, eUn_ev, eIsN_ev, eNotN_ev, aNil_ev, aCons_ev, aM_ev, eTup_ev, eLst_ev, eLstM_ev, eCall_ev, eCB_ev, tV_ev, tV'_ev, tAnd'_ev, tOr'_ev, tNot'_ev, eAndV_ev, eOrV_ev, eNotV_ev, eIf_ev, sNil_sv, sSeq_sv, sAsg_sv, sIf_sv, sRet_sv, sDrop_sv, sSetL_sv, sApp_sv, eIxM_ev, eLenM_ev, iT_ev, iL_ev, iR1_ev, iR2_ev, gN_put, gs0_put, gs1_put, gT_put, sAsgG_sv, tYes'_ev, eIs_ev, sRaise_sv, sTry_sv, sNever_sv, sPar_sv, o0_ev, o1_ev, eSlT_ev, sSetD_sv, eIxD_ev, eGetD_ev, eSortD_ev, eDict_ev, eNegC_ev, eRevT_ev, eOrD_ev, eRepM_ev, sAugI_sv, iItemsD_ev, iZip_ev, sRaiseF_sv, eIsX_ev, eFldX_ev, eCatM_ev, eSortIt_ev, sAugAdd, sAugSub, eIntOf, eRep01, eStrOf, eTupOf, eLstOf, eCatT, eInt, eStr, eBl, eNon, eAdd, eSub, eMul, eMulW, eMod, eDiv, ePow, eLt, eLe, eGt, eGe, eEq, eNe, eIxL, eIxT, eLen, eMax2, eMin2, eAll, eAny, eSum, eIsTy, R.bindD_ok, gI, R.bindD_ok, R.bindD_exc, R.bind_ok, R.bind_exc, R.bind_bad, R.of, R.flow, evV, evD, dat, pull, push, callOn, left, begun, List.length_cons, List.length_nil, List.getElem?_cons_zero, List.getElem?_cons_succ, List.set_cons_zero, List.set_cons_succ, if_true, if_false, ite_t, ite_f, Nat.reduceAdd, Nat.reduceLT, Nat.reduceSub, Nat.reduceEqDiff, Nat.reduceLeDiff, List.map_cons, List.map_nil, List.replicate, List.append_nil, List.nil_append, List.cons_append, and_self, true_and, and_true, Bool.not_true, Bool.not_false, Bool.false_eq_true, reduceIte, Nat.zero_add, Nat.lt_add_left_iff_pos, ly, i0, decide_eq_false c])
theorem v_is_pile (T : Tx K κ mg) (x : D) (h : nx x) (h' : nxp x) : f_is_pile T [.d x] = .ok (.d (.bl (pilB x))) [.d x] := by
  cases x with
  | tup xs =>
    obtain ⟨u, v, e⟩ := is_pile_loop T (.tup xs) xs 0 none h'
    have t : gTy "tuple" (.tup xs) = some true := by kernel_rfl
    have f : (sFor (iT (eV 0)) (gN (K := K) (κ := κ) 2) (bd_is_pile T)).sv [some (.d (.tup xs)), some (.d (.int 0)), none] = .ok (if pilF 0 xs = true then .nx else .rt (.d (.bl false))) [some (.d (.tup xs)), u, v] := e
    unfold f_is_pile Pv.fnOf
    have b : b_is_pile T = sSeq (sIf (tNot' (tV (eIsTy "tuple" (eV 0)))) (sSeq (sRet (eBl false)) sNil) sNil) (sSeq (sAsg 1 (eInt 0)) (sSeq (sFor (iT (eV 0)) (gN 2) (bd_is_pile T)) (sSeq (sRet (eBl true)) sNil))) := rfl
    rw [b]
    simp only [eV_ev, eC_ev, eOp_ev, eUn_ev, eIsN_ev, eNotN_ev, aNil_ev, aCons_ev, aM_ev, eTup_ev, eLst_ev, eLstM_ev, eCall_ev, eCB_ev, tV_ev, tV'_ev, tAnd'_ev, tOr'_ev, tNot'_ev, eAndV_ev, eOrV_ev, eNotV_ev, eIf_ev, sNil_sv, sSeq_sv, sAsg_sv, sIf_sv, sRet_sv, sDrop_sv, sSetL_sv, sApp_sv, eIxM_ev, eLenM_ev, iT_ev, iL_ev, iR1_ev, iR2_ev, gN_put, gs0_put, gs1_put, gT_put, sAsgG_sv, tYes'_ev, eIs_ev, sRaise_sv, sTry_sv, sNever_sv, sPar_sv, o0_ev, o1_ev, eSlT_ev, sSetD_sv, eIxD_ev, eGetD_ev, eSortD_ev, eDict_ev, eNegC_ev, eRevT_ev, eOrD_ev, eRepM_ev, sAugI_sv, iItemsD_ev, iZip_ev, sRaiseF_sv, eIsX_ev, eFldX_ev, eCatM_ev, eSortIt_ev, sAugAdd, sAugSub, eIntOf, eRep01, eStrOf, eTupOf, eLstOf, eCatT, eInt, eStr, eBl, eNon, eAdd, eSub, eMul, eMulW, eMod, eDiv, ePow, eLt, eLe, eGt, eGe, eEq, eNe, eIxL, eIxT, eLen, eMax2, eMin2, eAll, eAny, eSum, eIsTy, R.bindD_ok, gI, R.bindD_ok, R.bindD_exc, R.bind_ok, R.bind_exc, R.bind_bad, R.of, R.flow, evV, evD, dat, pull, push, callOn, left, begun, List.length_cons, List.length_nil, List.getElem?_cons_zero, List.getElem?_cons_succ, List.set_cons_zero, List.set_cons_succ, if_true, if_false, ite_t, ite_f, Nat.reduceAdd, Nat.reduceLT, Nat.reduceSub, Nat.reduceEqDiff, Nat.reduceLeDiff, List.map_cons, List.map_nil, List.replicate, List.append_nil, List.nil_append, List.cons_append, and_self, true_and, and_true, Bool.not_true, Bool.not_false, Bool.false_eq_true, reduceIte, Nat.zero_add, Nat.lt_add_left_iff_pos, t, f]
    have p : pilB (.tup xs) = pilF 0 xs := rfl
    rw [p]
    cases pilF 0 xs <;> rfl
  | exc _ => exact h.elim
  | excF _ _ => exact h.elim
  | tupW _ => exact h.elim
  | _ => kernel_rfl
theorem v_check_pile (T : Tx K κ mg) (x : D) (h : nx x) (h' : nxp x) (p : pilB x = true) : f_check_pile T [.d x] = .ok (.d .non) [.d x] := by
  have e := v_is_pile T x h h'
  rw [p] at e
  unfold f_check_pile Pv.fnOf b_check_pile
  simp only [eV_ev, eC_ev, eOp_ev, eUn_ev, eIsN_ev, eNotN_ev, aNil_ev, aCons_ev, aM_ev, eTup_ev, eLst_ev, eLstM_ev, eCall_ev, eCB_ev, tV_ev, tV'_ev, tAnd'_ev, tOr'_ev, tNot'_ev, eAndV_ev, eOrV_ev, eNotV_ev, eIf_ev, sNil_sv, sSeq_sv, sAsg_sv, sIf_sv, sRet_sv, sDrop_sv, sSetL_sv, sApp_sv, eIxM_ev, eLenM_ev, iT_ev, iL_ev, iR1_ev, iR2_ev, gN_put, gs0_put, gs1_put, gT_put, sAsgG_sv, tYes'_ev, eIs_ev, sRaise_sv, sTry_sv, sNever_sv, sPar_sv, o0_ev, o1_ev, eSlT_ev, sSetD_sv, eIxD_ev, eGetD_ev, eSortD_ev, eDict_ev, eNegC_ev, eRevT_ev, eOrD_ev, eRepM_ev, sAugI_sv, iItemsD_ev, iZip_ev, sRaiseF_sv, eIsX_ev, eFldX_ev, eCatM_ev, eSortIt_ev, sAugAdd, sAugSub, eIntOf, eRep01, eStrOf, eTupOf, eLstOf, eCatT, eInt, eStr, eBl, eNon, eAdd, eSub, eMul, eMulW, eMod, eDiv, ePow, eLt, eLe, eGt, eGe, eEq, eNe, eIxL, eIxT, eLen, eMax2, eMin2, eAll, eAny, eSum, eIsTy, R.bindD_ok, gI, R.bindD_ok, R.bindD_exc, R.bind_ok, R.bind_exc, R.bind_bad, R.of, R.flow, evV, evD, dat, pull, push, callOn, left, begun, List.length_cons, List.length_nil, List.getElem?_cons_zero, List.getElem?_cons_succ, List.set_cons_zero, List.set_cons_succ, if_true, if_false, ite_t, ite_f, Nat.reduceAdd, Nat.reduceLT, Nat.reduceSub, Nat.reduceEqDiff, Nat.reduceLeDiff, List.map_cons, List.map_nil, List.replicate, List.append_nil, List.nil_append, List.cons_append, and_self, true_and, and_true, Bool.not_true, Bool.not_false, Bool.false_eq_true, reduceIte, Nat.zero_add, Nat.lt_add_left_iff_pos, e]
end
end K49

set_option maxRecDepth 100000
set_option maxHeartbeats 4000000
namespace K49
open PySem PySem.Spec PyProof.Rows L2 Pv
section
variable {K : PySem.W.Frag} {κ : Cls} {mg : Str → Option Value}
theorem v_take (T : Tx K κ mg) (d n : Int) (h : 0 < n) (h' : n < 10 ^ 12) : f_l_take T [.ml [.int d], .d (.int n)] = .ok (.d (.int (d % n))) [.ml [.int (d / n)], .d (.int n)] := by
  have a : L2.atI [D.int d] 0 = some (.int d) := rfl
  refine fn_rt (ρ := [some (.ml [.int (d / n)]), some (.d (.int n)), some (.d (.int (d % n)))]) ?_ rfl
  unfold b_l_take
  simp only [eV_ev, eC_ev, eOp_ev, eUn_ev, eIsN_ev, eNotN_ev, aNil_ev, aCons_ev, aM_ev, eTup_ev, eLst_ev, eLstM_ev, eCall_ev, eCB_ev, tV_ev, tV'_ev, tAnd'_ev, tOr'_ev, tNot'_ev, eAndV_ev, eOrV_ev, eNotV_ev, eIf_ev, sNil_sv, sSeq_sv, sAsg_sv, sIf_sv, sRet_sv, sDrop_sv, sSetL_sv, sApp_sv, eIxM_ev, eLenM_ev, iT_ev, iL_ev, iR1_ev, iR2_ev, gN_put, gs0_put, gs1_put, gT_put, sAsgG_sv, tYes'_ev, eIs_ev, sRaise_sv, sTry_sv, sNever_sv, sPar_sv, o0_ev, o1_ev, eSlT_ev, sSetD_sv, eIxD_ev, eGetD_ev, eSortD_ev, eDict_ev, eNegC_ev, eRevT_ev, eOrD_ev, eRepM_ev, sAugI_sv, iItemsD_ev, iZip_ev, sRaiseF_sv, eIsX_ev, eFldX_ev, eCatM_ev, eSortIt_ev, sAugAdd, sAugSub, eIntOf, eRep01, eStrOf, eTupOf, eLstOf, eCatT, eInt, eStr, eBl, eNon, eAdd, eSub, eMul, eMulW, eMod, eDiv, ePow, eLt, eLe, eGt, eGe, eEq, eNe, eIxL, eIxT, eLen, eMax2, eMin2, eAll, eAny, eSum, eIsTy, R.bindD_ok, gI, R.bindD_ok, R.bindD_exc, R.bind_ok, R.bind_exc, R.bind_bad, R.of, R.flow, evV, evD, dat, pull, push, callOn, left, begun, List.length_cons, List.length_nil, List.getElem?_cons_zero, List.getElem?_cons_succ, List.set_cons_zero, List.set_cons_succ, if_true, if_false, ite_t, ite_f, Nat.reduceAdd, Nat.reduceLT, Nat.reduceSub, Nat.reduceEqDiff, Nat.reduceLeDiff, List.map_cons, List.map_nil, List.replicate, List.append_nil, List.nil_append, List.cons_append, and_self, true_and, and_true, Bool.not_true, Bool.not_false, Bool.false_eq_true, reduceIte, Nat.zero_add, Nat.lt_add_left_iff_pos, a, if_pos h, if_pos (divW12 h h')]
/-- a lot of a small pile -/
theorem v_mixed (T : Tx K κ mg) (c k : Int) : ∃ z, f_l_mixed T [.d (.int c), .d (.int k)] = .ok (.d (.int z)) [.d (.int c), .d (.int k)] := by
  obtain ⟨x, hx⟩ : ∃ x, x = (c % 2147483647 * 48271 + k * 69621 + 1048583) % 2147483629 := ⟨_, rfl⟩
  have x0 : 0 ≤ x := hx ▸ Int.emod_nonneg _ (by decide)
  have x1 : x < 2147483629 := hx ▸ Int.emod_lt_of_pos _ (by decide)
  obtain ⟨y, hy⟩ : ∃ y, y = x * x % 2147483587 := ⟨_, rfl⟩
  have y0 : 0 ≤ y := hy ▸ Int.emod_nonneg _ (by decide)
  have y1 : y < 2147483587 := hy ▸ Int.emod_lt_of_pos _ (by decide)
  have m1 : CMul (c % 2147483647) 48271 := .inr (by decide)
  have m2 : CMul k 69621 := .inr (by decide)
  have m3 : CMul x x := .inl ⟨by omega, by omega⟩
  have m4 : CMul y (y + 2) := .inl ⟨by omega, by omega⟩
  have p1 : (0 : Int) < 2147483647 := by decide
  have p2 : (0 : Int) < 2147483629 := by decide
  have p3 : (0 : Int) < 2147483587 := by decide
  have p4 : (0 : Int) < 2147483579 := by decide
  refine ⟨y * (y + 2) % 2147483579, fn_rt (ρ := [some (.d (.int c)), some (.d (.int k)), some (.d (.int y))]) ?_ rfl⟩
  unfold b_l_mixed
  refine seq_nx (ρ' := [some (.d (.int c)), some (.d (.int k)), some (.d (.int x))]) (by simp only [eV_ev, eC_ev, eOp_ev, eUn_ev, eIsN_ev, eNotN_ev, aNil_ev, aCons_ev, aM_ev, eTup_ev, eLst_ev, eLstM_ev, eCall_ev, eCB_ev, tV_ev, tV'_ev, tAnd'_ev, tOr'_ev, tNot'_ev, eAndV_ev, eOrV_ev, eNotV_ev, eIf_ev, sNil_sv, sSeq_sv, sAsg_sv, sIf_sv, sRet_sv, sDrop_sv, sSetL_sv, sApp_sv, eIxM_ev, eLenM_ev, iT_ev, iL_ev, iR1_ev, iR2_ev, gN_put, gs0_put, gs1_put, gT_put, sAsgG_sv, tYes'_ev, eIs_ev, sRaise_sv, sTry_sv, sNever_sv, sPar_sv, o0_ev, o1_ev, eSlT_ev, sSetD_sv, eIxD_ev, eGetD_ev, eSortD_ev, eDict_ev, eNegC_ev, eRevT_ev, eOrD_ev, eRepM_ev, sAugI_sv, iItemsD_ev, iZip_ev, sRaiseF_sv, eIsX_ev, eFldX_ev, eCatM_ev, eSortIt_ev, sAugAdd, sAugSub, eIntOf, eRep01, eStrOf, eTupOf, eLstOf, eCatT, eInt, eStr, eBl, eNon, eAdd, eSub, eMul, eMulW, eMod, eDiv, ePow, eLt, eLe, eGt, eGe, eEq, eNe, eIxL, eIxT, eLen, eMax2, eMin2, eAll, eAny, eSum, eIsTy, R.bindD_ok, gI, R.bindD_ok, R.bindD_exc, R.bind_ok, R.bind_exc, R.bind_bad, R.of, R.flow, evV, evD, dat, pull, push, callOn, left, begun, List.length_cons, List.length_nil, List.getElem?_cons_zero, List.getElem?_cons_succ, List.set_cons_zero, List.set_cons_succ, if_true, if_false, ite_t, ite_f, Nat.reduceAdd, Nat.reduceLT, Nat.reduceSub, Nat.reduceEqDiff, Nat.reduceLeDiff, List.map_cons, List.map_nil, List.replicate, List.append_nil, List.nil_append, List.cons_append, and_self, true_and, and_true, Bool.not_true, Bool.not_false, Bool.false_eq_true, reduceIte, Nat.zero_add, Nat.lt_add_left_iff_pos, if_pos m1, if_pos m2, if_pos p1, if_pos p2, hx.symm]) ?_
  refine seq_nx (ρ' := [some (.d (.int c)), some (.d (.int k)), some (.d (.int y))]) (by simp only [eV_ev, eC_ev, eOp_ev, eUn_ev, eIsN_ev, eNotN_ev, aNil_ev, aCons_ev, aM_ev, eTup_ev, eLst_ev, eLstM_ev, eCall_ev, eCB_ev, tV_ev, tV'_ev, tAnd'_ev, tOr'_ev, tNot'_ev, eAndV_ev, eOrV_ev, eNotV_ev, eIf_ev, sNil_sv, sSeq_sv, sAsg_sv, sIf_sv, sRet_sv, sDrop_sv, sSetL_sv, sApp_sv, eIxM_ev, eLenM_ev, iT_ev, iL_ev, iR1_ev, iR2_ev, gN_put, gs0_put, gs1_put, gT_put, sAsgG_sv, tYes'_ev, eIs_ev, sRaise_sv, sTry_sv, sNever_sv, sPar_sv, o0_ev, o1_ev, eSlT_ev, sSetD_sv, eIxD_ev, eGetD_ev, eSortD_ev, eDict_ev, eNegC_ev, eRevT_ev, eOrD_ev, eRepM_ev, sAugI_sv, iItemsD_ev, iZip_ev, sRaiseF_sv, eIsX_ev, eFldX_ev, eCatM_ev, eSortIt_ev, sAugAdd, sAugSub, eIntOf, eRep01, eStrOf, eTupOf, eLstOf, eCatT, eInt, eStr, eBl, eNon, eAdd, eSub, eMul, eMulW, eMod, eDiv, ePow, eLt, eLe, eGt, eGe, eEq, eNe, eIxL, eIxT, eLen, eMax2, eMin2, eAll, eAny, eSum, eIsTy, R.bindD_ok, gI, R.bindD_ok, R.bindD_exc, R.bind_ok, R.bind_exc, R.bind_bad, R.of, R.flow, evV, evD, dat, pull, push, callOn, left, begun, List.length_cons, List.length_nil, List.getElem?_cons_zero, List.getElem?_cons_succ, List.set_cons_zero, List.set_cons_succ, if_true, if_false, ite_t, ite_f, Nat.reduceAdd, Nat.reduceLT, Nat.reduceSub, Nat.reduceEqDiff, Nat.reduceLeDiff, List.map_cons, List.map_nil, List.replicate, List.append_nil, List.nil_append, List.cons_append, and_self, true_and, and_true, Bool.not_true, Bool.not_false, Bool.false_eq_true, reduceIte, Nat.zero_add, Nat.lt_add_left_iff_pos, if_pos m3, if_pos p3, hy.symm]) ?_
  exact seq_rt (by simp only [eV_ev, eC_ev, eOp_ev, eUn_ev, eIsN_ev, eNotN_ev, aNil_ev, aCons_ev, aM_ev, eTup_ev, eLst_ev, eLstM_ev, eCall_ev, eCB_ev, tV_ev, tV'_ev, tAnd'_ev, tOr'_ev, tNot'_ev, eAndV_ev, eOrV_ev, eNotV_ev, eIf_ev, sNil_sv, sSeq_sv, sAsg_sv, sIf_sv, sRet_sv, sDrop_sv, sSetL_sv, sApp_sv, eIxM_ev, eLenM_ev, iT_ev, iL_ev, iR1_ev, iR2_ev, gN_put, gs0_put, gs1_put, gT_put, sAsgG_sv, tYes'_ev, eIs_ev, sRaise_sv, sTry_sv, sNever_sv, sPar_sv, o0_ev, o1_ev, eSlT_ev, sSetD_sv, eIxD_ev, eGetD_ev, eSortD_ev, eDict_ev, eNegC_ev, eRevT_ev, eOrD_ev, eRepM_ev, sAugI_sv, iItemsD_ev, iZip_ev, sRaiseF_sv, eIsX_ev, eFldX_ev, eCatM_ev, eSortIt_ev, sAugAdd, sAugSub, eIntOf, eRep01, eStrOf, eTupOf, eLstOf, eCatT, eInt, eStr, eBl, eNon, eAdd, eSub, eMul, eMulW, eMod, eDiv, ePow, eLt, eLe, eGt, eGe, eEq, eNe, eIxL, eIxT, eLen, eMax2, eMin2, eAll, eAny, eSum, eIsTy, R.bindD_ok, gI, R.bindD_ok, R.bindD_exc, R.bind_ok, R.bind_exc, R.bind_bad, R.of, R.flow, evV, evD, dat, pull, push, callOn, left, begun, List.length_cons, List.length_nil, List.getElem?_cons_zero, List.getElem?_cons_succ, List.set_cons_zero, List.set_cons_succ, if_true, if_false, ite_t, ite_f, Nat.reduceAdd, Nat.reduceLT, Nat.reduceSub, Nat.reduceEqDiff, Nat.reduceLeDiff, List.map_cons, List.map_nil, List.replicate, List.append_nil, List.nil_append, List.cons_append, and_self, true_and, and_true, Bool.not_true, Bool.not_false, Bool.false_eq_true, reduceIte, Nat.zero_add, Nat.lt_add_left_iff_pos, if_pos m4, if_pos p4])
def bd_cell (T : Tx K κ mg) : SS K κ := (sSeq (sAsg 3 (eAdd (eMul (eV 3) (eInt 2147483579)) (eCall 2 (f_l_mixed T) (aCons (eV 2) (aCons (eAdd (eAdd (eMul (eInt 7) (eV 1)) (eMul (eInt 100) (eV 4))) (eMul (eV 4) (eV 4))) (aNil))))))
    (sNil))
theorem cell_loop (T : Tx K κ mg) (a : Option W) (k c : Int) : ∀ (r : List D) (z : Int) (j : Option W), (∀ y ∈ r, ∃ i : Int, y = .int i ∧ 0 ≤ i ∧ i < 1000) →
    ∃ z' j', loopS (gN (K := K) (κ := κ) 4).put (bd_cell T).sv r [a, some (.d (.int k)), some (.d (.int c)), some (.d (.int z)), j] = .ok .nx [a, some (.d (.int k)), some (.d (.int c)), some (.d (.int z')), j'] := by
  intro r
  induction r with
  | nil => exact fun z j _ => ⟨z, j, rfl⟩
  | cons y r ih =>
    intro z j h
    obtain ⟨i, rfl, i0, i1⟩ := h y (by simp)
    obtain ⟨x, hx⟩ := v_mixed T c (7 * k + 100 * i + i * i)
    obtain ⟨z', j', e⟩ := ih (z * 2147483579 + x) (some (.d (.int i))) fun y q => h y (by simp [q])
    have m1 : CMul z 2147483579 := .inr (by decide)
    have m2 : CMul 7 k := .inl (by decide)
    have m3 : CMul 100 i := .inl (by decide)
    have m4 : CMul i i := .inl ⟨by omega, by omega⟩
    exact ⟨z', j', (loop_nx rfl (by unfold bd_cell; simp only [eV_ev, eC_ev, eOp_ev, eUn_ev, eIsN_ev, eNotN_ev, aNil_ev, aCons_ev, aM_ev, eTup_ev, eLst_ev, eLstM_ev, eCall_ev, eCB_ev, tV_ev, tV'_ev, tAnd'_ev, tOr'_ev, tNot'_ev, eAndV_ev, eOrV_ev, eNotV_ev, eIf_ev, sNil_sv, sSeq_sv, sAsg_sv, sIf_sv, sRet_sv, sDrop_sv, sSetL_sv, sApp_sv, eIxM_ev, eLenM_ev, iT_ev, iL_ev, iR1_ev, iR2_ev, gN_put, gs0_put, gs1_put, gT_put, sAsgG_sv, tYes'_ev, eIs_ev, sRaise_sv, sTry_sv, sNever_sv, sPar_sv, o0_ev, o1_ev, eSlT_ev, sSetD_sv, eIxD_ev, eGetD_ev, eSortD_ev, eDict_ev, eNegC_ev, eRevT_ev, eOrD_ev, eRepM_ev, sAugI_sv, iItemsD_ev, iZip_ev, sRaiseF_sv, eIsX_ev, eFldX_ev, eCatM_ev, eSortIt_ev, sAugAdd, sAugSub, eIntOf, eRep01, eStrOf, eTupOf, eLstOf, eCatT, eInt, eStr, eBl, eNon, eAdd, eSub, eMul, eMulW, eMod, eDiv, ePow, eLt, eLe, eGt, eGe, eEq, eNe, eIxL, eIxT, eLen, eMax2, eMin2, eAll, eAny, eSum, eIsTy, R.bindD_ok, gI, R.bindD_ok, R.bindD_exc, R.bind_ok, R.bind_exc, R.bind_bad, R.of, R.flow, evV, evD, dat, pull, push, callOn, left, begun, List.length_cons, List.length_nil, List.getElem?_cons_zero, List.getElem?_cons_succ, List.set_cons_zero, List.set_cons_succ, if_true, if_false, ite_t, ite_f, Nat.reduceAdd, Nat.reduceLT, Nat.reduceSub, Nat.reduceEqDiff, Nat.reduceLeDiff, List.map_cons, List.map_nil, List.replicate, List.append_nil, List.nil_append, List.cons_append, and_self, true_and, and_true, Bool.not_true, Bool.not_false, Bool.false_eq_true, reduceIte, Nat.zero_add, Nat.lt_add_left_iff_pos, if_pos m1, if_pos m2, if_pos m3, if_pos m4, hx])).trans e⟩
def forCell (T : Tx K κ mg) : SS K κ := sFor (iR1 (eInt 24)) (gN 4) (bd_cell T)
def cell1 (T : Tx K κ mg) : SS K κ := (sIf (tV' (eLt (eV 1) (eLen (aCons (eV 0) (aNil))))) (sSeq (sAsg 2 (eIxL (eV 0) (eV 1)))
    (sNil)) (sNil))
theorem p60 : CPow 10 60 := ⟨by decide, by decide, by decide⟩
theorem p18 : CPow 10 18 := ⟨by decide, by decide, by decide⟩
theorem v_cell (T : Tx K κ mg) (ns : List Int) (k : Int) (hk : 0 ≤ k) : ∃ c, f_l_cell T [.d (.lst (ns.map .int)), .d (.int k)] = .ok (.d (.int c)) [.d (.lst (ns.map .int)), .d (.int k)] := by
  have c1 : ∃ c : Int, (cell1 T).sv [some (.d (.lst (ns.map .int))), some (.d (.int k)), some (.d (.int 0)), none, none] = .ok .nx [some (.d (.lst (ns.map .int))), some (.d (.int k)), some (.d (.int c)), none, none] := by
    have gl : gLen [.lst (ns.map .int)] = some (.int (ns.map D.int).length) := rfl
    by_cases q : k < (ns.map D.int).length
    · obtain ⟨z, hz, mz⟩ := at_in (xs := ns.map D.int) hk q
      obtain ⟨i, _, rfl⟩ := List.mem_map.mp mz
      have hz' : gIxL (.lst (ns.map D.int)) (.int k) = some (.int i) := hz
      exact ⟨i, by unfold cell1; simp only [eV_ev, eC_ev, eOp_ev, eUn_ev, eIsN_ev, eNotN_ev, aNil_ev, aCons_ev, aM_ev, eTup_ev, eLst_ev, eLstM_ev, eCall_ev, eCB_ev, tV_ev, tV'_ev, tAnd'_ev, tOr'_ev, tNot'_ev, eAndV_ev, eOrV_ev, eNotV_ev, eIf_ev, sNil_sv, sSeq_sv, sAsg_sv, sIf_sv, sRet_sv, sDrop_sv, sSetL_sv, sApp_sv, eIxM_ev, eLenM_ev, iT_ev, iL_ev, iR1_ev, iR2_ev, gN_put, gs0_put, gs1_put, gT_put, sAsgG_sv, tYes'_ev, eIs_ev, sRaise_sv, sTry_sv, sNever_sv, sPar_sv, o0_ev, o1_ev, eSlT_ev, sSetD_sv, eIxD_ev, eGetD_ev, eSortD_ev, eDict_ev, eNegC_ev, eRevT_ev, eOrD_ev, eRepM_ev, sAugI_sv, iItemsD_ev, iZip_ev, sRaiseF_sv, eIsX_ev, eFldX_ev, eCatM_ev, eSortIt_ev, sAugAdd, sAugSub, eIntOf, eRep01, eStrOf, eTupOf, eLstOf, eCatT, eInt, eStr, eBl, eNon, eAdd, eSub, eMul, eMulW, eMod, eDiv, ePow, eLt, eLe, eGt, eGe, eEq, eNe, eIxL, eIxT, eLen, eMax2, eMin2, eAll, eAny, eSum, eIsTy, R.bindD_ok, gI, R.bindD_ok, R.bindD_exc, R.bind_ok, R.bind_exc, R.bind_bad, R.of, R.flow, evV, evD, dat, pull, push, callOn, left, begun, List.length_cons, List.length_nil, List.getElem?_cons_zero, List.getElem?_cons_succ, List.set_cons_zero, List.set_cons_succ, if_true, if_false, ite_t, ite_f, Nat.reduceAdd, Nat.reduceLT, Nat.reduceSub, Nat.reduceEqDiff, Nat.reduceLeDiff, List.map_cons, List.map_nil, List.replicate, List.append_nil, List.nil_append, List.cons_append, and_self, true_and, and_true, Bool.not_true, Bool.not_false, Bool.false_eq_true, reduceIte, Nat.zero_add, Nat.lt_add_left_iff_pos, gl, decide_eq_true q, hz']⟩
    · exact ⟨0, by unfold cell1; simp only [eV_ev, eC_ev, eOp_ev, eUn_ev, eIsN_ev, eNotN_ev, aNil_ev, aCons_ev, aM_ev, eTup_ev, eLst_ev, eLstM_ev, eCall_ev, eCB_ev, tV_ev, tV'_ev, tAnd'_ev, tOr'_ev, tNot'_ev, eAndV_ev, eOrV_ev, eNotV_ev, eIf_ev, sNil_sv, sSeq_sv, sAsg_sv, sIf_sv, sRet_sv, sDrop_sv, sSetL_sv, sApp_sv, eIxM_ev, eLenM_ev, iT_ev, iL_ev, iR1_ev, iR2_ev, gN_put, gs0_put, gs1_put, gT_put, sAsgG_sv, tYes'_ev, eIs_ev, sRaise_sv, sTry_sv, sNever_sv, sPar_sv, o0_ev, o1_ev, eSlT_ev, sSetD_sv, eIxD_ev, eGetD_ev, eSortD_ev, eDict_ev, eNegC_ev, eRevT_ev, eOrD_ev, eRepM_ev, sAugI_sv, iItemsD_ev, iZip_ev, sRaiseF_sv, eIsX_ev, eFldX_ev, eCatM_ev, eSortIt_ev, sAugAdd, sAugSub, eIntOf, eRep01, eStrOf, eTupOf, eLstOf, eCatT, eInt, eStr, eBl, eNon, eAdd, eSub, eMul, eMulW, eMod, eDiv, ePow, eLt, eLe, eGt, eGe, eEq, eNe, eIxL, eIxT, eLen, eMax2, eMin2, eAll, eAny, eSum, eIsTy, R.bindD_ok, gI, R.bindD_ok, R.bindD_exc, R.bind_ok, R.bind_exc, R.bind_bad, R.of, R.flow, evV, evD, dat, pull, push, callOn, left, begun, List.length_cons, List.length_nil, List.getElem?_cons_zero, List.getElem?_cons_succ, List.set_cons_zero, List.set_cons_succ, if_true, if_false, ite_t, ite_f, Nat.reduceAdd, Nat.reduceLT, Nat.reduceSub, Nat.reduceEqDiff, Nat.reduceLeDiff, List.map_cons, List.map_nil, List.replicate, List.append_nil, List.nil_append, List.cons_append, and_self, true_and, and_true, Bool.not_true, Bool.not_false, Bool.false_eq_true, reduceIte, Nat.zero_add, Nat.lt_add_left_iff_pos, gl, decide_eq_false q]⟩
  obtain ⟨c, c1⟩ := c1
  by_cases b : (10 : Int) ^ (18 : Int).toNat ≤ c
  · obtain ⟨X, hX⟩ : ∃ X : Int, X = (10 : Int) ^ (60 : Int).toNat := ⟨_, rfl⟩
    have m1 : CMulW ((10 : Int) ^ (60 : Int).toNat) ((10 : Int) ^ (60 : Int).toNat) := by decide +kernel
    have m2 : CMulW ((10 : Int) ^ (60 : Int).toNat * (10 : Int) ^ (60 : Int).toNat) ((10 : Int) ^ (60 : Int).toNat) := by decide +kernel
    have m3 : CMulW ((10 : Int) ^ (60 : Int).toNat * (10 : Int) ^ (60 : Int).toNat * (10 : Int) ^ (60 : Int).toNat) ((10 : Int) ^ (60 : Int).toNat) := by decide +kernel
    have m4 : (0 : Int) < (10 : Int) ^ (60 : Int).toNat * (10 : Int) ^ (60 : Int).toNat * (10 : Int) ^ (60 : Int).toNat * (10 : Int) ^ (60 : Int).toNat := by decide +kernel
    rw [← hX] at m1 m2 m3 m4
    refine ⟨(c - (10 : Int) ^ (18 : Int).toNat) % (X * X * X * X), fn_rt (ρ := [some (.d (.lst (ns.map .int))), some (.d (.int k)), some (.d (.int c)), none, none]) ?_ rfl⟩
    · refine seq_nx (ρ' := [some (.d (.lst (ns.map .int))), some (.d (.int k)), some (.d (.int 0)), none, none]) (by simp only [eV_ev, eC_ev, eOp_ev, eUn_ev, eIsN_ev, eNotN_ev, aNil_ev, aCons_ev, aM_ev, eTup_ev, eLst_ev, eLstM_ev, eCall_ev, eCB_ev, tV_ev, tV'_ev, tAnd'_ev, tOr'_ev, tNot'_ev, eAndV_ev, eOrV_ev, eNotV_ev, eIf_ev, sNil_sv, sSeq_sv, sAsg_sv, sIf_sv, sRet_sv, sDrop_sv, sSetL_sv, sApp_sv, eIxM_ev, eLenM_ev, iT_ev, iL_ev, iR1_ev, iR2_ev, gN_put, gs0_put, gs1_put, gT_put, sAsgG_sv, tYes'_ev, eIs_ev, sRaise_sv, sTry_sv, sNever_sv, sPar_sv, o0_ev, o1_ev, eSlT_ev, sSetD_sv, eIxD_ev, eGetD_ev, eSortD_ev, eDict_ev, eNegC_ev, eRevT_ev, eOrD_ev, eRepM_ev, sAugI_sv, iItemsD_ev, iZip_ev, sRaiseF_sv, eIsX_ev, eFldX_ev, eCatM_ev, eSortIt_ev, sAugAdd, sAugSub, eIntOf, eRep01, eStrOf, eTupOf, eLstOf, eCatT, eInt, eStr, eBl, eNon, eAdd, eSub, eMul, eMulW, eMod, eDiv, ePow, eLt, eLe, eGt, eGe, eEq, eNe, eIxL, eIxT, eLen, eMax2, eMin2, eAll, eAny, eSum, eIsTy, R.bindD_ok, gI, R.bindD_ok, R.bindD_exc, R.bind_ok, R.bind_exc, R.bind_bad, R.of, R.flow, evV, evD, dat, pull, push, callOn, left, begun, List.length_cons, List.length_nil, List.getElem?_cons_zero, List.getElem?_cons_succ, List.set_cons_zero, List.set_cons_succ, if_true, if_false, ite_t, ite_f, Nat.reduceAdd, Nat.reduceLT, Nat.reduceSub, Nat.reduceEqDiff, Nat.reduceLeDiff, List.map_cons, List.map_nil, List.replicate, List.append_nil, List.nil_append, List.cons_append, and_self, true_and, and_true, Bool.not_true, Bool.not_false, Bool.false_eq_true, reduceIte, Nat.zero_add, Nat.lt_add_left_iff_pos]) ?_
      refine seq_nx c1 ?_
      refine seq_rt ?_
      simp only [eV_ev, eC_ev, eOp_ev, eUn_ev, eIsN_ev, eNotN_ev, aNil_ev, aCons_ev, aM_ev, eTup_ev, eLst_ev, eLstM_ev, eCall_ev, eCB_ev, tV_ev, tV'_ev, tAnd'_ev, tOr'_ev, tNot'_ev, eAndV_ev, eOrV_ev, eNotV_ev, eIf_ev, sNil_sv, sSeq_sv, sAsg_sv, sIf_sv, sRet_sv, sDrop_sv, sSetL_sv, sApp_sv, eIxM_ev, eLenM_ev, iT_ev, iL_ev, iR1_ev, iR2_ev, gN_put, gs0_put, gs1_put, gT_put, sAsgG_sv, tYes'_ev, eIs_ev, sRaise_sv, sTry_sv, sNever_sv, sPar_sv, o0_ev, o1_ev, eSlT_ev, sSetD_sv, eIxD_ev, eGetD_ev, eSortD_ev, eDict_ev, eNegC_ev, eRevT_ev, eOrD_ev, eRepM_ev, sAugI_sv, iItemsD_ev, iZip_ev, sRaiseF_sv, eIsX_ev, eFldX_ev, eCatM_ev, eSortIt_ev, sAugAdd, sAugSub, eIntOf, eRep01, eStrOf, eTupOf, eLstOf, eCatT, eInt, eStr, eBl, eNon, eAdd, eSub, eMul, eMulW, eMod, eDiv, ePow, eLt, eLe, eGt, eGe, eEq, eNe, eIxL, eIxT, eLen, eMax2, eMin2, eAll, eAny, eSum, eIsTy, R.bindD_ok, gI, R.bindD_ok, R.bindD_exc, R.bind_ok, R.bind_exc, R.bind_bad, R.of, R.flow, evV, evD, dat, pull, push, callOn, left, begun, List.length_cons, List.length_nil, List.getElem?_cons_zero, List.getElem?_cons_succ, List.set_cons_zero, List.set_cons_succ, if_true, if_false, ite_t, ite_f, Nat.reduceAdd, Nat.reduceLT, Nat.reduceSub, Nat.reduceEqDiff, Nat.reduceLeDiff, List.map_cons, List.map_nil, List.replicate, List.append_nil, List.nil_append, List.cons_append, and_self, true_and, and_true, Bool.not_true, Bool.not_false, Bool.false_eq_true, reduceIte, Nat.zero_add, Nat.lt_add_left_iff_pos, if_pos p18, if_pos p60, decide_eq_true b, hX.symm, if_pos m1, if_pos m2, if_pos m3, if_pos m4]
  · obtain ⟨z', j', e⟩ := cell_loop T (some (.d (.lst (ns.map .int)))) k c (nums 0 24) 0 none (by
      intro y hy
      simp only [nums, List.mem_map, List.mem_range] at hy
      obtain ⟨i, hi, rfl⟩ := hy
      exact ⟨_, rfl, by omega, by omega⟩)
    have f : (forCell T).sv [some (.d (.lst (ns.map .int))), some (.d (.int k)), some (.d (.int c)), some (.d (.int 0)), none] = .ok .nx [some (.d (.lst (ns.map .int))), some (.d (.int k)), some (.d (.int c)), some (.d (.int z')), j'] := for_of (by rfl) e
    refine ⟨z', fn_rt (ρ := [some (.d (.lst (ns.map .int))), some (.d (.int k)), some (.d (.int c)), some (.d (.int z')), j']) ?_ rfl⟩
    refine seq_nx (ρ' := [some (.d (.lst (ns.map .int))), some (.d (.int k)), some (.d (.int 0)), none, none]) (by simp only [eV_ev, eC_ev, eOp_ev, eUn_ev, eIsN_ev, eNotN_ev, aNil_ev, aCons_ev, aM_ev, eTup_ev, eLst_ev, eLstM_ev, eCall_ev, eCB_ev, tV_ev, tV'_ev, tAnd'_ev, tOr'_ev, tNot'_ev, eAndV_ev, eOrV_ev, eNotV_ev, eIf_ev, sNil_sv, sSeq_sv, sAsg_sv, sIf_sv, sRet_sv, sDrop_sv, sSetL_sv, sApp_sv, eIxM_ev, eLenM_ev, iT_ev, iL_ev, iR1_ev, iR2_ev, gN_put, gs0_put, gs1_put, gT_put, sAsgG_sv, tYes'_ev, eIs_ev, sRaise_sv, sTry_sv, sNever_sv, sPar_sv, o0_ev, o1_ev, eSlT_ev, sSetD_sv, eIxD_ev, eGetD_ev, eSortD_ev, eDict_ev, eNegC_ev, eRevT_ev, eOrD_ev, eRepM_ev, sAugI_sv, iItemsD_ev, iZip_ev, sRaiseF_sv, eIsX_ev, eFldX_ev, eCatM_ev, eSortIt_ev, sAugAdd, sAugSub, eIntOf, eRep01, eStrOf, eTupOf, eLstOf, eCatT, eInt, eStr, eBl, eNon, eAdd, eSub, eMul, eMulW, eMod, eDiv, ePow, eLt, eLe, eGt, eGe, eEq, eNe, eIxL, eIxT, eLen, eMax2, eMin2, eAll, eAny, eSum, eIsTy, R.bindD_ok, gI, R.bindD_ok, R.bindD_exc, R.bind_ok, R.bind_exc, R.bind_bad, R.of, R.flow, evV, evD, dat, pull, push, callOn, left, begun, List.length_cons, List.length_nil, List.getElem?_cons_zero, List.getElem?_cons_succ, List.set_cons_zero, List.set_cons_succ, if_true, if_false, ite_t, ite_f, Nat.reduceAdd, Nat.reduceLT, Nat.reduceSub, Nat.reduceEqDiff, Nat.reduceLeDiff, List.map_cons, List.map_nil, List.replicate, List.append_nil, List.nil_append, List.cons_append, and_self, true_and, and_true, Bool.not_true, Bool.not_false, Bool.false_eq_true, reduceIte, Nat.zero_add, Nat.lt_add_left_iff_pos]) ?_
    refine seq_nx c1 ?_
    refine seq_nx (ρ' := [some (.d (.lst (ns.map .int))), some (.d (.int k)), some (.d (.int c)), none, none]) (by simp only [eV_ev, eC_ev, eOp_ev, eUn_ev, eIsN_ev, eNotN_ev, aNil_ev, aCons_ev, aM_ev, eTup_ev, eLst_ev, eLstM_ev, eCall_ev, eCB_ev, tV_ev, tV'_ev, tAnd'_ev, tOr'_ev, tNot'_ev, eAndV_ev, eOrV_ev, eNotV_ev, eIf_ev, sNil_sv, sSeq_sv, sAsg_sv, sIf_sv, sRet_sv, sDrop_sv, sSetL_sv, sApp_sv, eIxM_ev, eLenM_ev, iT_ev, iL_ev, iR1_ev, iR2_ev, gN_put, gs0_put, gs1_put, gT_put, sAsgG_sv, tYes'_ev, eIs_ev, sRaise_sv, sTry_sv, sNever_sv, sPar_sv, o0_ev, o1_ev, eSlT_ev, sSetD_sv, eIxD_ev, eGetD_ev, eSortD_ev, eDict_ev, eNegC_ev, eRevT_ev, eOrD_ev, eRepM_ev, sAugI_sv, iItemsD_ev, iZip_ev, sRaiseF_sv, eIsX_ev, eFldX_ev, eCatM_ev, eSortIt_ev, sAugAdd, sAugSub, eIntOf, eRep01, eStrOf, eTupOf, eLstOf, eCatT, eInt, eStr, eBl, eNon, eAdd, eSub, eMul, eMulW, eMod, eDiv, ePow, eLt, eLe, eGt, eGe, eEq, eNe, eIxL, eIxT, eLen, eMax2, eMin2, eAll, eAny, eSum, eIsTy, R.bindD_ok, gI, R.bindD_ok, R.bindD_exc, R.bind_ok, R.bind_exc, R.bind_bad, R.of, R.flow, evV, evD, dat, pull, push, callOn, left, begun, List.length_cons, List.length_nil, List.getElem?_cons_zero, List.getElem?_cons_succ, List.set_cons_zero, List.set_cons_succ, if_true, if_false, ite_t, ite_f, Nat.reduceAdd, Nat.reduceLT, Nat.reduceSub, Nat.reduceEqDiff, Nat.reduceLeDiff, List.map_cons, List.map_nil, List.replicate, List.append_nil, List.nil_append, List.cons_append, and_self, true_and, and_true, Bool.not_true, Bool.not_false, Bool.false_eq_true, reduceIte, Nat.zero_add, Nat.lt_add_left_iff_pos, if_pos p18, decide_eq_false b]) ?_
    refine seq_nx (ρ' := [some (.d (.lst (ns.map .int))), some (.d (.int k)), some (.d (.int c)), some (.d (.int 0)), none]) (by simp only [eV_ev, eC_ev, eOp_ev, eUn_ev, eIsN_ev, eNotN_ev, aNil_ev, aCons_ev, aM_ev, eTup_ev, eLst_ev, eLstM_ev, eCall_ev, eCB_ev, tV_ev, tV'_ev, tAnd'_ev, tOr'_ev, tNot'_ev, eAndV_ev, eOrV_ev, eNotV_ev, eIf_ev, sNil_sv, sSeq_sv, sAsg_sv, sIf_sv, sRet_sv, sDrop_sv, sSetL_sv, sApp_sv, eIxM_ev, eLenM_ev, iT_ev, iL_ev, iR1_ev, iR2_ev, gN_put, gs0_put, gs1_put, gT_put, sAsgG_sv, tYes'_ev, eIs_ev, sRaise_sv, sTry_sv, sNever_sv, sPar_sv, o0_ev, o1_ev, eSlT_ev, sSetD_sv, eIxD_ev, eGetD_ev, eSortD_ev, eDict_ev, eNegC_ev, eRevT_ev, eOrD_ev, eRepM_ev, sAugI_sv, iItemsD_ev, iZip_ev, sRaiseF_sv, eIsX_ev, eFldX_ev, eCatM_ev, eSortIt_ev, sAugAdd, sAugSub, eIntOf, eRep01, eStrOf, eTupOf, eLstOf, eCatT, eInt, eStr, eBl, eNon, eAdd, eSub, eMul, eMulW, eMod, eDiv, ePow, eLt, eLe, eGt, eGe, eEq, eNe, eIxL, eIxT, eLen, eMax2, eMin2, eAll, eAny, eSum, eIsTy, R.bindD_ok, gI, R.bindD_ok, R.bindD_exc, R.bind_ok, R.bind_exc, R.bind_bad, R.of, R.flow, evV, evD, dat, pull, push, callOn, left, begun, List.length_cons, List.length_nil, List.getElem?_cons_zero, List.getElem?_cons_succ, List.set_cons_zero, List.set_cons_succ, if_true, if_false, ite_t, ite_f, Nat.reduceAdd, Nat.reduceLT, Nat.reduceSub, Nat.reduceEqDiff, Nat.reduceLeDiff, List.map_cons, List.map_nil, List.replicate, List.append_nil, List.nil_append, List.cons_append, and_self, true_and, and_true, Bool.not_true, Bool.not_false, Bool.false_eq_true, reduceIte, Nat.zero_add, Nat.lt_add_left_iff_pos]) ?_
    refine seq_nx f ?_
    exact seq_rt (by simp only [eV_ev, eC_ev, eOp_ev, eUn_ev, eIsN_ev, eNotN_ev, aNil_ev, aCons_ev, aM_ev, eTup_ev, eLst_ev, eLstM_ev, eCall_ev, eCB_ev, tV_ev, tV'_ev, tAnd'_ev, tOr'_ev, tNot'_ev, eAndV_ev, eOrV_ev, eNotV_ev, eIf_ev, sNil_sv, sSeq_sv, sAsg_sv, sIf_sv, sRet_sv, sDrop_sv, sSetL_sv, sApp_sv, eIxM_ev, eLenM_ev, iT_ev, iL_ev, iR1_ev, iR2_ev, gN_put, gs0_put, gs1_put, gT_put, sAsgG_sv, tYes'_ev, eIs_ev, sRaise_sv, sTry_sv, sNever_sv, sPar_sv, o0_ev, o1_ev, eSlT_ev, sSetD_sv, eIxD_ev, eGetD_ev, eSortD_ev, eDict_ev, eNegC_ev, eRevT_ev, eOrD_ev, eRepM_ev, sAugI_sv, iItemsD_ev, iZip_ev, sRaiseF_sv, eIsX_ev, eFldX_ev, eCatM_ev, eSortIt_ev, sAugAdd, sAugSub, eIntOf, eRep01, eStrOf, eTupOf, eLstOf, eCatT, eInt, eStr, eBl, eNon, eAdd, eSub, eMul, eMulW, eMod, eDiv, ePow, eLt, eLe, eGt, eGe, eEq, eNe, eIxL, eIxT, eLen, eMax2, eMin2, eAll, eAny, eSum, eIsTy, R.bindD_ok, gI, R.bindD_ok, R.bindD_exc, R.bind_ok, R.bind_exc, R.bind_bad, R.of, R.flow, evV, evD, dat, pull, push, callOn, left, begun, List.length_cons, List.length_nil, List.getElem?_cons_zero, List.getElem?_cons_succ, List.set_cons_zero, List.set_cons_succ, if_true, if_false, ite_t, ite_f, Nat.reduceAdd, Nat.reduceLT, Nat.reduceSub, Nat.reduceEqDiff, Nat.reduceLeDiff, List.map_cons, List.map_nil, List.replicate, List.append_nil, List.nil_append, List.cons_append, and_self, true_and, and_true, Bool.not_true, Bool.not_false, Bool.false_eq_true, reduceIte, Nat.zero_add, Nat.lt_add_left_iff_pos])
end
end K49

set_option maxRecDepth 100000
set_option maxHeartbeats 4000000
namespace K49
open PySem PySem.Spec PyProof.Rows L2 Pv P25
section
variable {K : PySem.W.Frag} {κ : Cls} {mg : Str → Option Value}
def pr (p : Int × Int) : D := .tup [.int p.1, .int p.2]
def pl (ps : List (Int × Int)) : D := .tup (ps.map pr)
/-- rising, few lots, no great numbers -/
structure Pil (ps : List (Int × Int)) : Prop where
  up : Up 0 ps
  few : ps.length ≤ 60
  small : ∀ p ∈ ps, p.1 < 10 ^ 12
theorem up_pil : ∀ {ps : List (Int × Int)} {m : Int}, 0 ≤ m → Up m ps → pilF m (ps.map pr) = true
  | [], _, _, _ => rfl
  | (a, b) :: ps, m, h0, h => by
    have h1 : m < a := h.1
    have h2 : 1 ≤ b := h.2.1
    show pilF m (pr (a, b) :: ps.map pr) = true
    unfold pilF
    rw [show pr (a, b) = .tup [.int a, .int b] from rfl, lot_yes (by omega) h2]
    show (!decide (a ≤ m) && pilF a (ps.map pr)) = true
    rw [decide_eq_false (by omega : ¬ a ≤ m), up_pil (by omega) h.2.2]
    rfl
theorem pr_nx (ps : List (Int × Int)) : nxp (pl ps) := by
  intro y hy
  obtain ⟨p, _, rfl⟩ := List.mem_map.mp hy
  refine ⟨trivial, fun z hz => ?_⟩
  simp only [List.mem_cons, List.not_mem_nil, or_false] at hz
  rcases hz with rfl | rfl <;> trivial
theorem chk_up (T : Tx K κ mg) {ps : List (Int × Int)} (h : Up 0 ps) : f_check_pile T [.d (pl ps)] = .ok (.d .non) [.d (pl ps)] := v_check_pile T (pl ps) trivial (pr_nx ps) (up_pil (by omega) h)
theorem up_ge : ∀ {ps : List (Int × Int)} {m : Int}, Up m ps → ∀ p ∈ ps, m < p.1 ∧ 1 ≤ p.2
  | [], _, _, p, hp => nomatch hp
  | q :: ps, m, h, p, hp => by
    rcases List.mem_cons.mp hp with rfl | hp
    · exact ⟨h.1, h.2.1⟩
    · have := up_ge h.2.2 p hp
      have := h.1
      omega
theorem cm {i j : Int} (h : 0 ≤ i) (h' : i < 10 ^ 12) : CMul i j := .inl ⟨by omega, by omega⟩
theorem cmr {i j : Int} (h : 0 ≤ j) (h' : j < 10 ^ 12) : CMul i j := .inr ⟨by omega, by omega⟩
theorem Pil.mul {ps : List (Int × Int)} (h : Pil ps) : ∀ p ∈ ps, CMul p.1 p.2 := fun p hp => by
  have a := up_ge h.up p hp
  have b := h.small p hp
  exact cm (by omega) (by omega)
theorem fm_some {α β : Type} (f : α → β) (qs : List α) : qs.filterMap (fun a => some (f a)) = qs.map f := by
  induction qs with
  | nil => rfl
  | cons q qs ih => simp [ih]
theorem put2 {i j : Nat} {x y : D} {ρ : Pv.Env} (hi : i < ρ.length) (hj : j < ρ.length) : (gT 2 (gs1 (gN (K := K) (κ := κ) i) (gs1 (gN j) gs0))).put (.tup [x, y]) ρ = some ((ρ.set i (some (.d x))).set j (some (.d y))) := by
  show (match (if i < ρ.length then some (ρ.set i (some (.d x))) else none) with | some ρ => (match (if j < ρ.length then some (ρ.set j (some (.d y))) else none) with | some ρ => some ρ | none => none) | none => none) = _
  rw [if_pos hi]
  show (match (if j < (ρ.set i (some (.d x))).length then some ((ρ.set i (some (.d x))).set j (some (.d y))) else none) with | some ρ => some ρ | none => none) = _
  rw [if_pos (by simpa using hj)]
theorem sum_lc (a : D) (ps qs : List (Int × Int)) (h : ∀ p ∈ qs, CMul p.1 p.2) (hl : qs.length ≤ 1000) :
    loopC [1, 2] (gT 2 (gs1 (gN (K := K) (κ := κ) 1) (gs1 (gN 2) (gs0)))).put (tYes' (K := K) (κ := κ)).ev (eMul (K := K) (κ := κ) (eV 1) (eV 2)).ev (qs.map pr) [some (.d a), none, none] [] = .ok ((qs.map fun p => p.1 * p.2).map .int) [some (.d a), none, none] := by
  have := loopC_map (vs := [1, 2]) (put := (gT 2 (gs1 (gN (K := K) (κ := κ) 1) (gs1 (gN 2) (gs0)))).put) (t := (tYes' (K := K) (κ := κ)).ev) (e := (eMul (K := K) (κ := κ) (eV 1) (eV 2)).ev) (ρ0 := [some (.d a), none, none]) pr (fun p => some (.int (p.1 * p.2))) qs [] (fun p hp =>
    ⟨[some (.d a), some (.d (.int p.1)), some (.d (.int p.2))], [some (.d a), some (.d (.int p.1)), some (.d (.int p.2))], rfl, [some (.d a), some (.d (.int p.1)), some (.d (.int p.2))], rfl, by
      have := h p hp
      simp only [eV_ev, eC_ev, eOp_ev, eUn_ev, eIsN_ev, eNotN_ev, aNil_ev, aCons_ev, aM_ev, eTup_ev, eLst_ev, eLstM_ev, eCall_ev, eCB_ev, tV_ev, tV'_ev, tAnd'_ev, tOr'_ev, tNot'_ev, eAndV_ev, eOrV_ev, eNotV_ev, eIf_ev, sNil_sv, sSeq_sv, sAsg_sv, sIf_sv, sRet_sv, sDrop_sv, sSetL_sv, sApp_sv, eIxM_ev, eLenM_ev, iT_ev, iL_ev, iR1_ev, iR2_ev, gN_put, gs0_put, gs1_put, gT_put, sAsgG_sv, tYes'_ev, eIs_ev, sRaise_sv, sTry_sv, sNever_sv, sPar_sv, o0_ev, o1_ev, eSlT_ev, sSetD_sv, eIxD_ev, eGetD_ev, eSortD_ev, eDict_ev, eNegC_ev, eRevT_ev, eOrD_ev, eRepM_ev, sAugI_sv, iItemsD_ev, iZip_ev, sRaiseF_sv, eIsX_ev, eFldX_ev, eCatM_ev, eSortIt_ev, sAugAdd, sAugSub, eIntOf, eRep01, eStrOf, eTupOf, eLstOf, eCatT, eInt, eStr, eBl, eNon, eAdd, eSub, eMul, eMulW, eMod, eDiv, ePow, eLt, eLe, eGt, eGe, eEq, eNe, eIxL, eIxT, eLen, eMax2, eMin2, eAll, eAny, eSum, eIsTy, R.bindD_ok, gI, R.bindD_ok, R.bindD_exc, R.bind_ok, R.bind_exc, R.bind_bad, R.of, R.flow, evV, evD, dat, pull, push, callOn, left, begun, List.length_cons, List.length_nil, List.getElem?_cons_zero, List.getElem?_cons_succ, List.set_cons_zero, List.set_cons_succ, if_true, if_false, ite_t, ite_f, Nat.reduceAdd, Nat.reduceLT, Nat.reduceSub, Nat.reduceEqDiff, Nat.reduceLeDiff, List.map_cons, List.map_nil, List.replicate, List.append_nil, List.nil_append, List.cons_append, and_self, true_and, and_true, Bool.not_true, Bool.not_false, Bool.false_eq_true, reduceIte, Nat.zero_add, Nat.lt_add_left_iff_pos, if_pos this], rfl⟩) (by simpa using hl)
  rw [this, fm_some, List.nil_append, List.map_map]
  rfl
def lcSum : SE K κ := eLc (iT (eV 0)) (gT 2 (gs1 (gN 1) (gs1 (gN 2) (gs0)))) (tYes') (eMul (eV 1) (eV 2)) [1, 2] (fun _ h => h)
theorem v_sum_of (T : Tx K κ mg) {ps : List (Int × Int)} (h : Pil ps) : f_sum_of T [.d (pl ps)] = .ok (.d (.int (sumP ps))) [.d (pl ps)] := by
  refine fn_rt (ρ := [some (.d (pl ps)), none, none]) ?_ rfl
  have l : (lcSum (K := K) (κ := κ)).ev [some (.d (pl ps)), none, none] = .ok (.d (.lst ((ps.map fun p => p.1 * p.2).map .int))) [some (.d (pl ps)), none, none] :=
    lc_of (vs := [1, 2]) (it := iT (eV 0)) (g := gT 2 (gs1 (gN 1) (gs1 (gN 2) (gs0)))) (t := tYes') (e := eMul (eV 1) (eV 2)) (hv := fun _ h => h) (ρi := [some (.d (pl ps)), none, none]) rfl rfl (sum_lc (pl ps) ps ps h.mul (by have := h.few; omega)) rfl
  have g := gSum_map (ps.map fun p => p.1 * p.2)
  have b : b_sum_of T = sSeq (sRet (eSum (aCons lcSum (aNil)))) sNil := rfl
  rw [b]
  exact seq_rt (by simp only [eV_ev, eC_ev, eOp_ev, eUn_ev, eIsN_ev, eNotN_ev, aNil_ev, aCons_ev, aM_ev, eTup_ev, eLst_ev, eLstM_ev, eCall_ev, eCB_ev, tV_ev, tV'_ev, tAnd'_ev, tOr'_ev, tNot'_ev, eAndV_ev, eOrV_ev, eNotV_ev, eIf_ev, sNil_sv, sSeq_sv, sAsg_sv, sIf_sv, sRet_sv, sDrop_sv, sSetL_sv, sApp_sv, eIxM_ev, eLenM_ev, iT_ev, iL_ev, iR1_ev, iR2_ev, gN_put, gs0_put, gs1_put, gT_put, sAsgG_sv, tYes'_ev, eIs_ev, sRaise_sv, sTry_sv, sNever_sv, sPar_sv, o0_ev, o1_ev, eSlT_ev, sSetD_sv, eIxD_ev, eGetD_ev, eSortD_ev, eDict_ev, eNegC_ev, eRevT_ev, eOrD_ev, eRepM_ev, sAugI_sv, iItemsD_ev, iZip_ev, sRaiseF_sv, eIsX_ev, eFldX_ev, eCatM_ev, eSortIt_ev, sAugAdd, sAugSub, eIntOf, eRep01, eStrOf, eTupOf, eLstOf, eCatT, eInt, eStr, eBl, eNon, eAdd, eSub, eMul, eMulW, eMod, eDiv, ePow, eLt, eLe, eGt, eGe, eEq, eNe, eIxL, eIxT, eLen, eMax2, eMin2, eAll, eAny, eSum, eIsTy, R.bindD_ok, gI, R.bindD_ok, R.bindD_exc, R.bind_ok, R.bind_exc, R.bind_bad, R.of, R.flow, evV, evD, dat, pull, push, callOn, left, begun, List.length_cons, List.length_nil, List.getElem?_cons_zero, List.getElem?_cons_succ, List.set_cons_zero, List.set_cons_succ, if_true, if_false, ite_t, ite_f, Nat.reduceAdd, Nat.reduceLT, Nat.reduceSub, Nat.reduceEqDiff, Nat.reduceLeDiff, List.map_cons, List.map_nil, List.replicate, List.append_nil, List.nil_append, List.cons_append, and_self, true_and, and_true, Bool.not_true, Bool.not_false, Bool.false_eq_true, reduceIte, Nat.zero_add, Nat.lt_add_left_iff_pos, l, g]; rfl)
theorem v_l_sum (T : Tx K κ mg) {ps : List (Int × Int)} (h : Pil ps) : f_l_sum T [.d (pl ps)] = .ok (.d (.int (sumP ps))) [.d (pl ps)] := v_sum_of T h
end
end K49

set_option maxRecDepth 100000
set_option maxHeartbeats 4000000
namespace K49
open PySem PySem.Spec PyProof.Rows L2 Pv P25 P66
section
variable {K : PySem.W.Frag} {κ : Cls} {mg : Str → Option Value}
theorem lastL (xs : List D) (y : D) : gIxL (.lst (xs ++ [y])) (.int (-1)) = some y := by
  show L2.atI (xs ++ [y]) (-1) = some y
  unfold L2.atI L2.ixN
  rw [if_neg (by omega), if_pos (by simp only [List.length_append, List.length_singleton]; omega)]
  have : ((-1 : Int) + ((xs ++ [y]).length : Int)).toNat = xs.length := by simp only [List.length_append, List.length_singleton]; omega
  show (xs ++ [y])[((-1 : Int) + ((xs ++ [y]).length : Int)).toNat]? = _
  rw [this]
  simp
theorem ixLast (xs : List D) (y : D) : L2.ixN (xs ++ [y]).length (-1) = some xs.length := by
  unfold L2.ixN
  rw [if_neg (by omega), if_pos (by simp only [List.length_append, List.length_singleton]; omega)]
  simp only [List.length_append, List.length_singleton]
  congr 1
  omega
theorem setLast (xs : List D) (y z : D) : (xs ++ [y]).set xs.length z = xs ++ [z] := by
  rw [List.set_append_right _ _ (Nat.le_refl _)]
  simp
theorem flats_pr : ∀ ps : List (Int × Int), D.flats 59 (ps.map pr) = true
  | [] => rfl
  | p :: ps => by
    rw [List.map_cons]
    unfold D.flats
    rw [flats_pr ps]
    rfl
theorem neL_nil (p : Int × Int) (ps : List (Int × Int)) : gNe (.lst ((p :: ps).map pr)) (.lst []) = some (.bl true) := by
  have a : D.flat 60 (.lst ((p :: ps).map pr)) = true := flats_pr (p :: ps)
  have e : D.eqv (.lst ((p :: ps).map pr)) (.lst []) = false := by
    unfold D.eqv
    rw [List.map_cons, D.py, D.py, D.pys, D.pys]
    rfl
  unfold gNe
  rw [if_pos ⟨a, rfl⟩, e]
  rfl
theorem neL_snoc (ps : List (Int × Int)) (p : Int × Int) : gNe (.lst ((ps ++ [p]).map pr)) (.lst []) = some (.bl true) := by
  cases ps with
  | nil => exact neL_nil p []
  | cons q ps => exact neL_nil q (ps ++ [p])
def bd_heap (T : Tx K κ mg) : SS K κ := (sSeq (sIf (tPk (tAnd' (tV' (eNe (eV 1) (eLst (aNil)))) (tV' (eEq (eIxT (eIxL (eV 1) (eNegC 1)) (eInt 0)) (eV 2))))) (sSeq (sSetX 1 (eNegC 1) (eTup (aCons (eV 2) (aCons (ePk (eAdd (eIxT (eIxL (eV 1) (eNegC 1)) (eInt 1)) (eInt 1))) (aNil)))))
    (sNil)) (sSeq (sApp K rfl 1 (eTup (aCons (eV 2) (aCons (eInt 1) (aNil)))))
    (sNil)))
    (sNil))
def forHeap (T : Tx K κ mg) : SS K κ := sFor (iL (eSortN (eV 0))) (gN 2) (bd_heap T)
def tHeap : ST K κ := tAnd' (tV' (eNe (eV 1) (eLst (aNil)))) (tV' (eEq (eIxT (eIxL (eV 1) (eNegC 1)) (eInt 0)) (eV 2)))
theorem heap_step (T : Tx K κ mg) (a : D) (fs : List (Int × Int)) (x : Int) (hl : fs.length < 1000) : (bd_heap T).sv [some (.d a), some (.ml (fs.map pr)), some (.d (.int x))] = .ok .nx [some (.d a), some (.ml ((addC fs x).map pr)), some (.d (.int x))] := by
  have ll : (fs.map pr).length < 1000000 := by simp; omega
  rcases List.eq_nil_or_concat fs with rfl | ⟨gs, p, rfl⟩
  · have n0 : gNe (.lst []) (.lst []) = some (.bl false) := by kernel_rfl
    have t : (tHeap (K := K) (κ := κ)).ev [some (.d a), some (.d (.lst [])), some (.d (.int x))] = .ok false [some (.d a), some (.d (.lst [])), some (.d (.int x))] := by
      unfold tHeap
      simp only [eV_ev, eC_ev, eOp_ev, eUn_ev, eIsN_ev, eNotN_ev, aNil_ev, aCons_ev, aM_ev, eTup_ev, eLst_ev, eLstM_ev, eCall_ev, eCB_ev, tV_ev, tV'_ev, tAnd'_ev, tOr'_ev, tNot'_ev, eAndV_ev, eOrV_ev, eNotV_ev, eIf_ev, sNil_sv, sSeq_sv, sAsg_sv, sIf_sv, sRet_sv, sDrop_sv, sSetL_sv, sApp_sv, eIxM_ev, eLenM_ev, iT_ev, iL_ev, iR1_ev, iR2_ev, gN_put, gs0_put, gs1_put, gT_put, sAsgG_sv, tYes'_ev, eIs_ev, sRaise_sv, sTry_sv, sNever_sv, sPar_sv, o0_ev, o1_ev, eSlT_ev, sSetD_sv, eIxD_ev, eGetD_ev, eSortD_ev, eDict_ev, eNegC_ev, eRevT_ev, eOrD_ev, eRepM_ev, sAugI_sv, iItemsD_ev, iZip_ev, sRaiseF_sv, eIsX_ev, eFldX_ev, eCatM_ev, eSortIt_ev, sAugAdd, sAugSub, eIntOf, eRep01, eStrOf, eTupOf, eLstOf, eCatT, eInt, eStr, eBl, eNon, eAdd, eSub, eMul, eMulW, eMod, eDiv, ePow, eLt, eLe, eGt, eGe, eEq, eNe, eIxL, eIxT, eLen, eMax2, eMin2, eAll, eAny, eSum, eIsTy, R.bindD_ok, gI, R.bindD_ok, R.bindD_exc, R.bind_ok, R.bind_exc, R.bind_bad, R.of, R.flow, evV, evD, dat, pull, push, callOn, left, begun, List.length_cons, List.length_nil, List.getElem?_cons_zero, List.getElem?_cons_succ, List.set_cons_zero, List.set_cons_succ, if_true, if_false, ite_t, ite_f, Nat.reduceAdd, Nat.reduceLT, Nat.reduceSub, Nat.reduceEqDiff, Nat.reduceLeDiff, List.map_cons, List.map_nil, List.replicate, List.append_nil, List.nil_append, List.cons_append, and_self, true_and, and_true, Bool.not_true, Bool.not_false, Bool.false_eq_true, reduceIte, Nat.zero_add, Nat.lt_add_left_iff_pos, n0]
    exact seq_nx (if_fa (tpk_of (t := tHeap) (ρ := [some (.d a), some (.ml []), some (.d (.int x))]) rfl t) (by rw [addC_nil]; simp only [eV_ev, eC_ev, eOp_ev, eUn_ev, eIsN_ev, eNotN_ev, aNil_ev, aCons_ev, aM_ev, eTup_ev, eLst_ev, eLstM_ev, eCall_ev, eCB_ev, tV_ev, tV'_ev, tAnd'_ev, tOr'_ev, tNot'_ev, eAndV_ev, eOrV_ev, eNotV_ev, eIf_ev, sNil_sv, sSeq_sv, sAsg_sv, sIf_sv, sRet_sv, sDrop_sv, sSetL_sv, sApp_sv, eIxM_ev, eLenM_ev, iT_ev, iL_ev, iR1_ev, iR2_ev, gN_put, gs0_put, gs1_put, gT_put, sAsgG_sv, tYes'_ev, eIs_ev, sRaise_sv, sTry_sv, sNever_sv, sPar_sv, o0_ev, o1_ev, eSlT_ev, sSetD_sv, eIxD_ev, eGetD_ev, eSortD_ev, eDict_ev, eNegC_ev, eRevT_ev, eOrD_ev, eRepM_ev, sAugI_sv, iItemsD_ev, iZip_ev, sRaiseF_sv, eIsX_ev, eFldX_ev, eCatM_ev, eSortIt_ev, sAugAdd, sAugSub, eIntOf, eRep01, eStrOf, eTupOf, eLstOf, eCatT, eInt, eStr, eBl, eNon, eAdd, eSub, eMul, eMulW, eMod, eDiv, ePow, eLt, eLe, eGt, eGe, eEq, eNe, eIxL, eIxT, eLen, eMax2, eMin2, eAll, eAny, eSum, eIsTy, R.bindD_ok, gI, R.bindD_ok, R.bindD_exc, R.bind_ok, R.bind_exc, R.bind_bad, R.of, R.flow, evV, evD, dat, pull, push, callOn, left, begun, List.length_cons, List.length_nil, List.getElem?_cons_zero, List.getElem?_cons_succ, List.set_cons_zero, List.set_cons_succ, if_true, if_false, ite_t, ite_f, Nat.reduceAdd, Nat.reduceLT, Nat.reduceSub, Nat.reduceEqDiff, Nat.reduceLeDiff, List.map_cons, List.map_nil, List.replicate, List.append_nil, List.nil_append, List.cons_append, and_self, true_and, and_true, Bool.not_true, Bool.not_false, Bool.false_eq_true, reduceIte, Nat.zero_add, Nat.lt_add_left_iff_pos, Nat.lt_irrefl]; rfl)) rfl
  · obtain ⟨w, m⟩ := p
    rw [List.concat_eq_append] at *
    have n1 := neL_snoc gs (w, m)
    have em : (gs ++ [(w, m)]).map pr = gs.map pr ++ [pr (w, m)] := by simp
    have i1 : gIxL (.lst ((gs ++ [(w, m)]).map pr)) (.int (-1)) = some (pr (w, m)) := by rw [em]; exact lastL (gs.map pr) (pr (w, m))
    have j0 : gIxT (pr (w, m)) (.int 0) = some (.int w) := rfl
    have j1 : gIxT (pr (w, m)) (.int 1) = some (.int m) := rfl
    have ge := gEq_int w x
    have ix : L2.ixN ((gs ++ [(w, m)]).map pr).length (-1) = some (gs.map pr).length := by rw [em]; exact ixLast (gs.map pr) (pr (w, m))
    obtain ⟨F, hF⟩ : ∃ F, (gs ++ [(w, m)]).map pr = F := ⟨_, rfl⟩
    by_cases e : w = x
    · subst e
      rw [addC_eq]
      rw [beq_self_eq_true] at ge
      have st : ((gs ++ [(w, m)]).map pr).set (gs.map pr).length (pr (w, m + 1)) = (gs ++ [(w, m + 1)]).map pr := by
        rw [em, show (gs ++ [(w, m + 1)]).map pr = gs.map pr ++ [pr (w, m + 1)] by simp]
        exact setLast _ _ _
      rw [hF] at n1 i1 ix st ⊢
      have t : (tHeap (K := K) (κ := κ)).ev [some (.d a), some (.d (.lst F)), some (.d (.int w))] = .ok true [some (.d a), some (.d (.lst F)), some (.d (.int w))] := by
        unfold tHeap
        simp only [eV_ev, eC_ev, eOp_ev, eUn_ev, eIsN_ev, eNotN_ev, aNil_ev, aCons_ev, aM_ev, eTup_ev, eLst_ev, eLstM_ev, eCall_ev, eCB_ev, tV_ev, tV'_ev, tAnd'_ev, tOr'_ev, tNot'_ev, eAndV_ev, eOrV_ev, eNotV_ev, eIf_ev, sNil_sv, sSeq_sv, sAsg_sv, sIf_sv, sRet_sv, sDrop_sv, sSetL_sv, sApp_sv, eIxM_ev, eLenM_ev, iT_ev, iL_ev, iR1_ev, iR2_ev, gN_put, gs0_put, gs1_put, gT_put, sAsgG_sv, tYes'_ev, eIs_ev, sRaise_sv, sTry_sv, sNever_sv, sPar_sv, o0_ev, o1_ev, eSlT_ev, sSetD_sv, eIxD_ev, eGetD_ev, eSortD_ev, eDict_ev, eNegC_ev, eRevT_ev, eOrD_ev, eRepM_ev, sAugI_sv, iItemsD_ev, iZip_ev, sRaiseF_sv, eIsX_ev, eFldX_ev, eCatM_ev, eSortIt_ev, sAugAdd, sAugSub, eIntOf, eRep01, eStrOf, eTupOf, eLstOf, eCatT, eInt, eStr, eBl, eNon, eAdd, eSub, eMul, eMulW, eMod, eDiv, ePow, eLt, eLe, eGt, eGe, eEq, eNe, eIxL, eIxT, eLen, eMax2, eMin2, eAll, eAny, eSum, eIsTy, R.bindD_ok, gI, R.bindD_ok, R.bindD_exc, R.bind_ok, R.bind_exc, R.bind_bad, R.of, R.flow, evV, evD, dat, pull, push, callOn, left, begun, List.length_cons, List.length_nil, List.getElem?_cons_zero, List.getElem?_cons_succ, List.set_cons_zero, List.set_cons_succ, if_true, if_false, ite_t, ite_f, Nat.reduceAdd, Nat.reduceLT, Nat.reduceSub, Nat.reduceEqDiff, Nat.reduceLeDiff, List.map_cons, List.map_nil, List.replicate, List.append_nil, List.nil_append, List.cons_append, and_self, true_and, and_true, Bool.not_true, Bool.not_false, Bool.false_eq_true, reduceIte, Nat.zero_add, Nat.lt_add_left_iff_pos, n1, i1, j0, ge]
      have v1 : (eAdd (K := K) (κ := κ) (eIxT (eIxL (eV 1) (eNegC 1)) (eInt 1)) (eInt 1)).ev [some (.d a), some (.d (.lst F)), some (.d (.int w))] = .ok (.d (.int (m + 1))) [some (.d a), some (.d (.lst F)), some (.d (.int w))] := by simp only [eV_ev, eC_ev, eOp_ev, eUn_ev, eIsN_ev, eNotN_ev, aNil_ev, aCons_ev, aM_ev, eTup_ev, eLst_ev, eLstM_ev, eCall_ev, eCB_ev, tV_ev, tV'_ev, tAnd'_ev, tOr'_ev, tNot'_ev, eAndV_ev, eOrV_ev, eNotV_ev, eIf_ev, sNil_sv, sSeq_sv, sAsg_sv, sIf_sv, sRet_sv, sDrop_sv, sSetL_sv, sApp_sv, eIxM_ev, eLenM_ev, iT_ev, iL_ev, iR1_ev, iR2_ev, gN_put, gs0_put, gs1_put, gT_put, sAsgG_sv, tYes'_ev, eIs_ev, sRaise_sv, sTry_sv, sNever_sv, sPar_sv, o0_ev, o1_ev, eSlT_ev, sSetD_sv, eIxD_ev, eGetD_ev, eSortD_ev, eDict_ev, eNegC_ev, eRevT_ev, eOrD_ev, eRepM_ev, sAugI_sv, iItemsD_ev, iZip_ev, sRaiseF_sv, eIsX_ev, eFldX_ev, eCatM_ev, eSortIt_ev, sAugAdd, sAugSub, eIntOf, eRep01, eStrOf, eTupOf, eLstOf, eCatT, eInt, eStr, eBl, eNon, eAdd, eSub, eMul, eMulW, eMod, eDiv, ePow, eLt, eLe, eGt, eGe, eEq, eNe, eIxL, eIxT, eLen, eMax2, eMin2, eAll, eAny, eSum, eIsTy, R.bindD_ok, gI, R.bindD_ok, R.bindD_exc, R.bind_ok, R.bind_exc, R.bind_bad, R.of, R.flow, evV, evD, dat, pull, push, callOn, left, begun, List.length_cons, List.length_nil, List.getElem?_cons_zero, List.getElem?_cons_succ, List.set_cons_zero, List.set_cons_succ, if_true, if_false, ite_t, ite_f, Nat.reduceAdd, Nat.reduceLT, Nat.reduceSub, Nat.reduceEqDiff, Nat.reduceLeDiff, List.map_cons, List.map_nil, List.replicate, List.append_nil, List.nil_append, List.cons_append, and_self, true_and, and_true, Bool.not_true, Bool.not_false, Bool.false_eq_true, reduceIte, Nat.zero_add, Nat.lt_add_left_iff_pos, i1, j1]
      have v2 : (ePk (K := K) (κ := κ) (eAdd (eIxT (eIxL (eV 1) (eNegC 1)) (eInt 1)) (eInt 1))).ev [some (.d a), some (.ml F), some (.d (.int w))] = .ok (.d (.int (m + 1))) [some (.d a), some (.ml F), some (.d (.int w))] := pk_of rfl v1 rfl
      have v3 : (eTup (aCons (eV 2) (aCons (ePk (K := K) (κ := κ) (eAdd (eIxT (eIxL (eV 1) (eNegC 1)) (eInt 1)) (eInt 1))) (aNil)))).ev [some (.d a), some (.ml F), some (.d (.int w))] = .ok (.d (pr (w, m + 1))) [some (.d a), some (.ml F), some (.d (.int w))] := tup2_of (by simp only [eV_ev, eC_ev, eOp_ev, eUn_ev, eIsN_ev, eNotN_ev, aNil_ev, aCons_ev, aM_ev, eTup_ev, eLst_ev, eLstM_ev, eCall_ev, eCB_ev, tV_ev, tV'_ev, tAnd'_ev, tOr'_ev, tNot'_ev, eAndV_ev, eOrV_ev, eNotV_ev, eIf_ev, sNil_sv, sSeq_sv, sAsg_sv, sIf_sv, sRet_sv, sDrop_sv, sSetL_sv, sApp_sv, eIxM_ev, eLenM_ev, iT_ev, iL_ev, iR1_ev, iR2_ev, gN_put, gs0_put, gs1_put, gT_put, sAsgG_sv, tYes'_ev, eIs_ev, sRaise_sv, sTry_sv, sNever_sv, sPar_sv, o0_ev, o1_ev, eSlT_ev, sSetD_sv, eIxD_ev, eGetD_ev, eSortD_ev, eDict_ev, eNegC_ev, eRevT_ev, eOrD_ev, eRepM_ev, sAugI_sv, iItemsD_ev, iZip_ev, sRaiseF_sv, eIsX_ev, eFldX_ev, eCatM_ev, eSortIt_ev, sAugAdd, sAugSub, eIntOf, eRep01, eStrOf, eTupOf, eLstOf, eCatT, eInt, eStr, eBl, eNon, eAdd, eSub, eMul, eMulW, eMod, eDiv, ePow, eLt, eLe, eGt, eGe, eEq, eNe, eIxL, eIxT, eLen, eMax2, eMin2, eAll, eAny, eSum, eIsTy, R.bindD_ok, gI, R.bindD_ok, R.bindD_exc, R.bind_ok, R.bind_exc, R.bind_bad, R.of, R.flow, evV, evD, dat, pull, push, callOn, left, begun, List.length_cons, List.length_nil, List.getElem?_cons_zero, List.getElem?_cons_succ, List.set_cons_zero, List.set_cons_succ, if_true, if_false, ite_t, ite_f, Nat.reduceAdd, Nat.reduceLT, Nat.reduceSub, Nat.reduceEqDiff, Nat.reduceLeDiff, List.map_cons, List.map_nil, List.replicate, List.append_nil, List.nil_append, List.cons_append, and_self, true_and, and_true, Bool.not_true, Bool.not_false, Bool.false_eq_true, reduceIte, Nat.zero_add, Nat.lt_add_left_iff_pos]) v2
      have s1 := setX_of (k := eNegC (K := K) (κ := κ) 1) (i := 1) v3 rfl rfl ix
      rw [st] at s1
      exact seq_nx (if_tr (tpk_of (t := tHeap) (ρ := [some (.d a), some (.ml F), some (.d (.int w))]) rfl t) (seq_nx s1 rfl)) rfl
    · have e' : (w == x) = false := by simpa using e
      rw [addC_ne gs e]
      rw [e'] at ge
      have ap : ((gs ++ [(w, m)] ++ [(x, 1)]).map pr) = F ++ [pr (x, 1)] := by rw [← hF]; simp
      rw [hF] at n1 i1 ll ⊢
      rw [ap]
      have t : (tHeap (K := K) (κ := κ)).ev [some (.d a), some (.d (.lst F)), some (.d (.int x))] = .ok false [some (.d a), some (.d (.lst F)), some (.d (.int x))] := by
        unfold tHeap
        simp only [eV_ev, eC_ev, eOp_ev, eUn_ev, eIsN_ev, eNotN_ev, aNil_ev, aCons_ev, aM_ev, eTup_ev, eLst_ev, eLstM_ev, eCall_ev, eCB_ev, tV_ev, tV'_ev, tAnd'_ev, tOr'_ev, tNot'_ev, eAndV_ev, eOrV_ev, eNotV_ev, eIf_ev, sNil_sv, sSeq_sv, sAsg_sv, sIf_sv, sRet_sv, sDrop_sv, sSetL_sv, sApp_sv, eIxM_ev, eLenM_ev, iT_ev, iL_ev, iR1_ev, iR2_ev, gN_put, gs0_put, gs1_put, gT_put, sAsgG_sv, tYes'_ev, eIs_ev, sRaise_sv, sTry_sv, sNever_sv, sPar_sv, o0_ev, o1_ev, eSlT_ev, sSetD_sv, eIxD_ev, eGetD_ev, eSortD_ev, eDict_ev, eNegC_ev, eRevT_ev, eOrD_ev, eRepM_ev, sAugI_sv, iItemsD_ev, iZip_ev, sRaiseF_sv, eIsX_ev, eFldX_ev, eCatM_ev, eSortIt_ev, sAugAdd, sAugSub, eIntOf, eRep01, eStrOf, eTupOf, eLstOf, eCatT, eInt, eStr, eBl, eNon, eAdd, eSub, eMul, eMulW, eMod, eDiv, ePow, eLt, eLe, eGt, eGe, eEq, eNe, eIxL, eIxT, eLen, eMax2, eMin2, eAll, eAny, eSum, eIsTy, R.bindD_ok, gI, R.bindD_ok, R.bindD_exc, R.bind_ok, R.bind_exc, R.bind_bad, R.of, R.flow, evV, evD, dat, pull, push, callOn, left, begun, List.length_cons, List.length_nil, List.getElem?_cons_zero, List.getElem?_cons_succ, List.set_cons_zero, List.set_cons_succ, if_true, if_false, ite_t, ite_f, Nat.reduceAdd, Nat.reduceLT, Nat.reduceSub, Nat.reduceEqDiff, Nat.reduceLeDiff, List.map_cons, List.map_nil, List.replicate, List.append_nil, List.nil_append, List.cons_append, and_self, true_and, and_true, Bool.not_true, Bool.not_false, Bool.false_eq_true, reduceIte, Nat.zero_add, Nat.lt_add_left_iff_pos, n1, i1, j0, ge]
      exact seq_nx (if_fa (tpk_of (t := tHeap) (ρ := [some (.d a), some (.ml F), some (.d (.int x))]) rfl t) (by simp only [eV_ev, eC_ev, eOp_ev, eUn_ev, eIsN_ev, eNotN_ev, aNil_ev, aCons_ev, aM_ev, eTup_ev, eLst_ev, eLstM_ev, eCall_ev, eCB_ev, tV_ev, tV'_ev, tAnd'_ev, tOr'_ev, tNot'_ev, eAndV_ev, eOrV_ev, eNotV_ev, eIf_ev, sNil_sv, sSeq_sv, sAsg_sv, sIf_sv, sRet_sv, sDrop_sv, sSetL_sv, sApp_sv, eIxM_ev, eLenM_ev, iT_ev, iL_ev, iR1_ev, iR2_ev, gN_put, gs0_put, gs1_put, gT_put, sAsgG_sv, tYes'_ev, eIs_ev, sRaise_sv, sTry_sv, sNever_sv, sPar_sv, o0_ev, o1_ev, eSlT_ev, sSetD_sv, eIxD_ev, eGetD_ev, eSortD_ev, eDict_ev, eNegC_ev, eRevT_ev, eOrD_ev, eRepM_ev, sAugI_sv, iItemsD_ev, iZip_ev, sRaiseF_sv, eIsX_ev, eFldX_ev, eCatM_ev, eSortIt_ev, sAugAdd, sAugSub, eIntOf, eRep01, eStrOf, eTupOf, eLstOf, eCatT, eInt, eStr, eBl, eNon, eAdd, eSub, eMul, eMulW, eMod, eDiv, ePow, eLt, eLe, eGt, eGe, eEq, eNe, eIxL, eIxT, eLen, eMax2, eMin2, eAll, eAny, eSum, eIsTy, R.bindD_ok, gI, R.bindD_ok, R.bindD_exc, R.bind_ok, R.bind_exc, R.bind_bad, R.of, R.flow, evV, evD, dat, pull, push, callOn, left, begun, List.length_cons, List.length_nil, List.getElem?_cons_zero, List.getElem?_cons_succ, List.set_cons_zero, List.set_cons_succ, if_true, if_false, ite_t, ite_f, Nat.reduceAdd, Nat.reduceLT, Nat.reduceSub, Nat.reduceEqDiff, Nat.reduceLeDiff, List.map_cons, List.map_nil, List.replicate, List.append_nil, List.nil_append, List.cons_append, and_self, true_and, and_true, Bool.not_true, Bool.not_false, Bool.false_eq_true, reduceIte, Nat.zero_add, Nat.lt_add_left_iff_pos, if_pos ll]; rfl)) rfl
theorem addC_len (fs : List (Int × Int)) (x : Int) : (addC fs x).length ≤ fs.length + 1 := by
  rcases List.eq_nil_or_concat fs with rfl | ⟨gs, p, rfl⟩
  · rw [addC_nil]; simp
  · obtain ⟨w, m⟩ := p
    rw [List.concat_eq_append] at *
    by_cases e : w = x
    · subst e; rw [addC_eq]; simp
    · rw [addC_ne gs e]; simp
theorem heap_loop (T : Tx K κ mg) (a : D) : ∀ (xs : List Int) (fs : List (Int × Int)) (u : Option W), fs.length + xs.length < 1000 → ∃ u', loopS (gN (K := K) (κ := κ) 2).put (bd_heap T).sv (xs.map .int) [some (.d a), some (.ml (fs.map pr)), u] = .ok .nx [some (.d a), some (.ml ((xs.foldl addC fs).map pr)), u'] := by
  intro xs
  induction xs with
  | nil => exact fun fs u _ => ⟨u, rfl⟩
  | cons x xs ih =>
    intro fs u h
    simp only [List.length_cons] at h
    have l := addC_len fs x
    obtain ⟨u', e⟩ := ih (addC fs x) (some (.d (.int x))) (by omega)
    exact ⟨u', (loop_nx (ρ1 := [some (.d a), some (.ml (fs.map pr)), some (.d (.int x))]) rfl (heap_step T a fs x (by omega))).trans e⟩
def heapP (xs : List Int) : List (Int × Int) := (sortI xs).foldl addC []
theorem heap_facts {xs : List Int} (h : ∀ x ∈ xs, 1 ≤ x) : Up 0 (heapP xs) ∧ expand (heapP xs) = sortI xs := by
  have := fold_add (sortI xs) [] trivial (sortI_sorted xs) (fun x hx => h x ((sortI_perm xs).mem_iff.mp hx)) (fun x _ y hy => nomatch hy)
  exact ⟨this.1, by rw [show heapP xs = (sortI xs).foldl addC [] from rfl, this.2]; rfl⟩
theorem v_heap (T : Tx K κ mg) (xs : List Int) (hl : xs.length < 900) : f_l_heap T [.d (.lst (xs.map .int))] = .ok (.d (pl (heapP xs))) [.d (.lst (xs.map .int))] := by
  obtain ⟨u', e⟩ := heap_loop T (.lst (xs.map .int)) (sortI xs) [] none (by rw [(sortI_perm xs).length_eq]; simp; omega)
  have f : (forHeap T).sv [some (.d (.lst (xs.map .int))), some (.ml []), none] = _ := for_of (xs := (sortI xs).map .int) (ρ1 := [some (.d (.lst (xs.map .int))), some (.ml []), none]) (by
    have so := sortN_of (K := K) (κ := κ) (a := eV 0) (is := xs) (ρ := [some (.d (.lst (xs.map .int))), some (.ml []), none]) (ρ1 := [some (.d (.lst (xs.map .int))), some (.ml []), none]) (by simp only [eV_ev, eC_ev, eOp_ev, eUn_ev, eIsN_ev, eNotN_ev, aNil_ev, aCons_ev, aM_ev, eTup_ev, eLst_ev, eLstM_ev, eCall_ev, eCB_ev, tV_ev, tV'_ev, tAnd'_ev, tOr'_ev, tNot'_ev, eAndV_ev, eOrV_ev, eNotV_ev, eIf_ev, sNil_sv, sSeq_sv, sAsg_sv, sIf_sv, sRet_sv, sDrop_sv, sSetL_sv, sApp_sv, eIxM_ev, eLenM_ev, iT_ev, iL_ev, iR1_ev, iR2_ev, gN_put, gs0_put, gs1_put, gT_put, sAsgG_sv, tYes'_ev, eIs_ev, sRaise_sv, sTry_sv, sNever_sv, sPar_sv, o0_ev, o1_ev, eSlT_ev, sSetD_sv, eIxD_ev, eGetD_ev, eSortD_ev, eDict_ev, eNegC_ev, eRevT_ev, eOrD_ev, eRepM_ev, sAugI_sv, iItemsD_ev, iZip_ev, sRaiseF_sv, eIsX_ev, eFldX_ev, eCatM_ev, eSortIt_ev, sAugAdd, sAugSub, eIntOf, eRep01, eStrOf, eTupOf, eLstOf, eCatT, eInt, eStr, eBl, eNon, eAdd, eSub, eMul, eMulW, eMod, eDiv, ePow, eLt, eLe, eGt, eGe, eEq, eNe, eIxL, eIxT, eLen, eMax2, eMin2, eAll, eAny, eSum, eIsTy, R.bindD_ok, gI, R.bindD_ok, R.bindD_exc, R.bind_ok, R.bind_exc, R.bind_bad, R.of, R.flow, evV, evD, dat, pull, push, callOn, left, begun, List.length_cons, List.length_nil, List.getElem?_cons_zero, List.getElem?_cons_succ, List.set_cons_zero, List.set_cons_succ, if_true, if_false, ite_t, ite_f, Nat.reduceAdd, Nat.reduceLT, Nat.reduceSub, Nat.reduceEqDiff, Nat.reduceLeDiff, List.map_cons, List.map_nil, List.replicate, List.append_nil, List.nil_append, List.cons_append, and_self, true_and, and_true, Bool.not_true, Bool.not_false, Bool.false_eq_true, reduceIte, Nat.zero_add, Nat.lt_add_left_iff_pos])
    obtain ⟨sn, hsn⟩ : ∃ sn, sn = eSortN (K := K) (κ := κ) (eV 0) := ⟨_, rfl⟩
    rw [← hsn] at so ⊢
    simp only [eV_ev, eC_ev, eOp_ev, eUn_ev, eIsN_ev, eNotN_ev, aNil_ev, aCons_ev, aM_ev, eTup_ev, eLst_ev, eLstM_ev, eCall_ev, eCB_ev, tV_ev, tV'_ev, tAnd'_ev, tOr'_ev, tNot'_ev, eAndV_ev, eOrV_ev, eNotV_ev, eIf_ev, sNil_sv, sSeq_sv, sAsg_sv, sIf_sv, sRet_sv, sDrop_sv, sSetL_sv, sApp_sv, eIxM_ev, eLenM_ev, iT_ev, iL_ev, iR1_ev, iR2_ev, gN_put, gs0_put, gs1_put, gT_put, sAsgG_sv, tYes'_ev, eIs_ev, sRaise_sv, sTry_sv, sNever_sv, sPar_sv, o0_ev, o1_ev, eSlT_ev, sSetD_sv, eIxD_ev, eGetD_ev, eSortD_ev, eDict_ev, eNegC_ev, eRevT_ev, eOrD_ev, eRepM_ev, sAugI_sv, iItemsD_ev, iZip_ev, sRaiseF_sv, eIsX_ev, eFldX_ev, eCatM_ev, eSortIt_ev, sAugAdd, sAugSub, eIntOf, eRep01, eStrOf, eTupOf, eLstOf, eCatT, eInt, eStr, eBl, eNon, eAdd, eSub, eMul, eMulW, eMod, eDiv, ePow, eLt, eLe, eGt, eGe, eEq, eNe, eIxL, eIxT, eLen, eMax2, eMin2, eAll, eAny, eSum, eIsTy, R.bindD_ok, gI, R.bindD_ok, R.bindD_exc, R.bind_ok, R.bind_exc, R.bind_bad, R.of, R.flow, evV, evD, dat, pull, push, callOn, left, begun, List.length_cons, List.length_nil, List.getElem?_cons_zero, List.getElem?_cons_succ, List.set_cons_zero, List.set_cons_succ, if_true, if_false, ite_t, ite_f, Nat.reduceAdd, Nat.reduceLT, Nat.reduceSub, Nat.reduceEqDiff, Nat.reduceLeDiff, List.map_cons, List.map_nil, List.replicate, List.append_nil, List.nil_append, List.cons_append, and_self, true_and, and_true, Bool.not_true, Bool.not_false, Bool.false_eq_true, reduceIte, Nat.zero_add, Nat.lt_add_left_iff_pos, so]) e
  have b : b_l_heap T = sSeq (sAsg 1 (eLstM (aNil))) (sSeq (forHeap T) (sSeq (sRet (eTupOf (aCons (eV 1) (aNil)))) (sNil))) := rfl
  have tp : gTupOf [.lst ((heapP xs).map pr)] = some (pl (heapP xs)) := rfl
  have f : (forHeap T).sv [some (.d (.lst (xs.map .int))), some (.ml []), none] = .ok .nx [some (.d (.lst (xs.map .int))), some (.ml ((heapP xs).map pr)), u'] := f
  refine fn_rt (ρ := [some (.d (.lst (xs.map .int))), some (.d (.lst ((heapP xs).map pr))), u']) ?_ rfl
  rw [b]
  refine seq_nx (ρ' := [some (.d (.lst (xs.map .int))), some (.ml []), none]) (by simp only [eV_ev, eC_ev, eOp_ev, eUn_ev, eIsN_ev, eNotN_ev, aNil_ev, aCons_ev, aM_ev, eTup_ev, eLst_ev, eLstM_ev, eCall_ev, eCB_ev, tV_ev, tV'_ev, tAnd'_ev, tOr'_ev, tNot'_ev, eAndV_ev, eOrV_ev, eNotV_ev, eIf_ev, sNil_sv, sSeq_sv, sAsg_sv, sIf_sv, sRet_sv, sDrop_sv, sSetL_sv, sApp_sv, eIxM_ev, eLenM_ev, iT_ev, iL_ev, iR1_ev, iR2_ev, gN_put, gs0_put, gs1_put, gT_put, sAsgG_sv, tYes'_ev, eIs_ev, sRaise_sv, sTry_sv, sNever_sv, sPar_sv, o0_ev, o1_ev, eSlT_ev, sSetD_sv, eIxD_ev, eGetD_ev, eSortD_ev, eDict_ev, eNegC_ev, eRevT_ev, eOrD_ev, eRepM_ev, sAugI_sv, iItemsD_ev, iZip_ev, sRaiseF_sv, eIsX_ev, eFldX_ev, eCatM_ev, eSortIt_ev, sAugAdd, sAugSub, eIntOf, eRep01, eStrOf, eTupOf, eLstOf, eCatT, eInt, eStr, eBl, eNon, eAdd, eSub, eMul, eMulW, eMod, eDiv, ePow, eLt, eLe, eGt, eGe, eEq, eNe, eIxL, eIxT, eLen, eMax2, eMin2, eAll, eAny, eSum, eIsTy, R.bindD_ok, gI, R.bindD_ok, R.bindD_exc, R.bind_ok, R.bind_exc, R.bind_bad, R.of, R.flow, evV, evD, dat, pull, push, callOn, left, begun, List.length_cons, List.length_nil, List.getElem?_cons_zero, List.getElem?_cons_succ, List.set_cons_zero, List.set_cons_succ, if_true, if_false, ite_t, ite_f, Nat.reduceAdd, Nat.reduceLT, Nat.reduceSub, Nat.reduceEqDiff, Nat.reduceLeDiff, List.map_cons, List.map_nil, List.replicate, List.append_nil, List.nil_append, List.cons_append, and_self, true_and, and_true, Bool.not_true, Bool.not_false, Bool.false_eq_true, reduceIte, Nat.zero_add, Nat.lt_add_left_iff_pos]) ?_
  refine seq_nx f ?_
  exact seq_rt (by simp only [eV_ev, eC_ev, eOp_ev, eUn_ev, eIsN_ev, eNotN_ev, aNil_ev, aCons_ev, aM_ev, eTup_ev, eLst_ev, eLstM_ev, eCall_ev, eCB_ev, tV_ev, tV'_ev, tAnd'_ev, tOr'_ev, tNot'_ev, eAndV_ev, eOrV_ev, eNotV_ev, eIf_ev, sNil_sv, sSeq_sv, sAsg_sv, sIf_sv, sRet_sv, sDrop_sv, sSetL_sv, sApp_sv, eIxM_ev, eLenM_ev, iT_ev, iL_ev, iR1_ev, iR2_ev, gN_put, gs0_put, gs1_put, gT_put, sAsgG_sv, tYes'_ev, eIs_ev, sRaise_sv, sTry_sv, sNever_sv, sPar_sv, o0_ev, o1_ev, eSlT_ev, sSetD_sv, eIxD_ev, eGetD_ev, eSortD_ev, eDict_ev, eNegC_ev, eRevT_ev, eOrD_ev, eRepM_ev, sAugI_sv, iItemsD_ev, iZip_ev, sRaiseF_sv, eIsX_ev, eFldX_ev, eCatM_ev, eSortIt_ev, sAugAdd, sAugSub, eIntOf, eRep01, eStrOf, eTupOf, eLstOf, eCatT, eInt, eStr, eBl, eNon, eAdd, eSub, eMul, eMulW, eMod, eDiv, ePow, eLt, eLe, eGt, eGe, eEq, eNe, eIxL, eIxT, eLen, eMax2, eMin2, eAll, eAny, eSum, eIsTy, R.bindD_ok, gI, R.bindD_ok, R.bindD_exc, R.bind_ok, R.bind_exc, R.bind_bad, R.of, R.flow, evV, evD, dat, pull, push, callOn, left, begun, List.length_cons, List.length_nil, List.getElem?_cons_zero, List.getElem?_cons_succ, List.set_cons_zero, List.set_cons_succ, if_true, if_false, ite_t, ite_f, Nat.reduceAdd, Nat.reduceLT, Nat.reduceSub, Nat.reduceEqDiff, Nat.reduceLeDiff, List.map_cons, List.map_nil, List.replicate, List.append_nil, List.nil_append, List.cons_append, and_self, true_and, and_true, Bool.not_true, Bool.not_false, Bool.false_eq_true, reduceIte, Nat.zero_add, Nat.lt_add_left_iff_pos, tp])
end
end K49

set_option maxRecDepth 100000
set_option maxHeartbeats 4000000
namespace K49
open PySem PySem.Spec PyProof.Rows L2 Pv P25 P66
section
variable {K : PySem.W.Frag} {κ : Cls} {mg : Str → Option Value}
theorem rep_flat (x : D) : ∀ n : Nat, (List.replicate n [x]).flatten = List.replicate n x
  | 0 => rfl
  | n + 1 => by rw [List.replicate_succ, List.flatten_cons, rep_flat x n, List.replicate_succ]; rfl
theorem rep_map (w : Int) (n : Nat) : (List.replicate n w).map D.int = List.replicate n (.int w) := by simp
def bd_coins : SS K κ := (sSeq (sAsg 1 (eCatLM (eV 1) (eRepL (eLstM (aCons (eV 2) (aNil))) (eV 3))))
    (sNil))
def forCoins : SS K κ := sFor (iT (eV 0)) (gT 2 (gs1 (gN 2) (gs1 (gN 3) (gs0)))) bd_coins
theorem coins_step (a : D) (acc : List Int) (w n : Int) (h0 : 0 ≤ n) (h1 : n ≤ 1000) (hl : acc.length ≤ 500000) : (bd_coins (K := K) (κ := κ)).sv [some (.d a), some (.ml (acc.map .int)), some (.d (.int w)), some (.d (.int n))] = .ok .nx [some (.d a), some (.ml ((acc ++ List.replicate n.toNat w).map .int)), some (.d (.int w)), some (.d (.int n))] := by
  have c : 0 ≤ n ∧ n ≤ 1000 := ⟨h0, h1⟩
  have r : (eRepL (K := K) (κ := κ) (eLstM (aCons (eV 2) (aNil))) (eV 3)).ev [some (.d a), some (.d (.lst (acc.map .int))), some (.d (.int w)), some (.d (.int n))] = .ok (.d (.lst (List.replicate n.toNat (.int w)))) [some (.d a), some (.d (.lst (acc.map .int))), some (.d (.int w)), some (.d (.int n))] := by
    rw [eRepL_ev]
    simp only [eV_ev, eC_ev, eOp_ev, eUn_ev, eIsN_ev, eNotN_ev, aNil_ev, aCons_ev, aM_ev, eTup_ev, eLst_ev, eLstM_ev, eCall_ev, eCB_ev, tV_ev, tV'_ev, tAnd'_ev, tOr'_ev, tNot'_ev, eAndV_ev, eOrV_ev, eNotV_ev, eIf_ev, sNil_sv, sSeq_sv, sAsg_sv, sIf_sv, sRet_sv, sDrop_sv, sSetL_sv, sApp_sv, eIxM_ev, eLenM_ev, iT_ev, iL_ev, iR1_ev, iR2_ev, gN_put, gs0_put, gs1_put, gT_put, sAsgG_sv, tYes'_ev, eIs_ev, sRaise_sv, sTry_sv, sNever_sv, sPar_sv, o0_ev, o1_ev, eSlT_ev, sSetD_sv, eIxD_ev, eGetD_ev, eSortD_ev, eDict_ev, eNegC_ev, eRevT_ev, eOrD_ev, eRepM_ev, sAugI_sv, iItemsD_ev, iZip_ev, sRaiseF_sv, eIsX_ev, eFldX_ev, eCatM_ev, eSortIt_ev, sAugAdd, sAugSub, eIntOf, eRep01, eStrOf, eTupOf, eLstOf, eCatT, eInt, eStr, eBl, eNon, eAdd, eSub, eMul, eMulW, eMod, eDiv, ePow, eLt, eLe, eGt, eGe, eEq, eNe, eIxL, eIxT, eLen, eMax2, eMin2, eAll, eAny, eSum, eIsTy, R.bindD_ok, gI, R.bindD_ok, R.bindD_exc, R.bind_ok, R.bind_exc, R.bind_bad, R.of, R.flow, evV, evD, dat, pull, push, callOn, left, begun, List.length_cons, List.length_nil, List.getElem?_cons_zero, List.getElem?_cons_succ, List.set_cons_zero, List.set_cons_succ, if_true, if_false, ite_t, ite_f, Nat.reduceAdd, Nat.reduceLT, Nat.reduceSub, Nat.reduceEqDiff, Nat.reduceLeDiff, List.map_cons, List.map_nil, List.replicate, List.append_nil, List.nil_append, List.cons_append, and_self, true_and, and_true, Bool.not_true, Bool.not_false, Bool.false_eq_true, reduceIte, Nat.zero_add, Nat.lt_add_left_iff_pos, if_pos c]
    rw [rep_flat]
  have hz : (acc.map D.int).length + (List.replicate n.toNat (D.int w)).length ≤ 1000000 := by simp; omega
  have e : (eCatLM (K := K) (κ := κ) (eV 1) (eRepL (eLstM (aCons (eV 2) (aNil))) (eV 3))).ev [some (.d a), some (.ml (acc.map .int)), some (.d (.int w)), some (.d (.int n))] = .ok (.ml ((acc ++ List.replicate n.toNat w).map .int)) [some (.d a), some (.d (.lst (acc.map .int))), some (.d (.int w)), some (.d (.int n))] := by
    obtain ⟨b, hb⟩ : ∃ b, b = eRepL (K := K) (κ := κ) (eLstM (aCons (eV 2) (aNil))) (eV 3) := ⟨_, rfl⟩
    rw [← hb] at r ⊢
    rw [eCatLM_ev]
    simp only [eV_ev, evV, List.getElem?_cons_succ, List.getElem?_cons_zero, R.bindD_ok, List.set_cons_succ, List.set_cons_zero, r, if_pos hz]
    rw [List.map_append, rep_map]
  exact seq_nx (asg_of e (by simp)) rfl
theorem coins_loop (a : D) : ∀ (ps : List (Int × Int)) (acc : List Int) (u v : Option W), (∀ p ∈ ps, 0 ≤ p.2 ∧ p.2 ≤ 1000) → acc.length + (expand ps).length ≤ 500000 → ∃ u' v', loopS (gT 2 (gs1 (gN (K := K) (κ := κ) 2) (gs1 (gN 3) (gs0)))).put (bd_coins (K := K) (κ := κ)).sv (ps.map pr) [some (.d a), some (.ml (acc.map .int)), u, v] = .ok .nx [some (.d a), some (.ml ((acc ++ expand ps).map .int)), u', v'] := by
  intro ps
  induction ps with
  | nil => intro acc u v _ _; exact ⟨u, v, by rw [expand_nil, List.append_nil]; rfl⟩
  | cons p ps ih =>
    intro acc u v h hl
    have hp := h p (by simp)
    rw [expand_cons, List.length_append, List.length_replicate] at hl
    obtain ⟨u', v', e⟩ := ih (acc ++ List.replicate p.2.toNat p.1) (some (.d (.int p.1))) (some (.d (.int p.2))) (fun q hq => h q (by simp [hq])) (by simp only [List.length_append, List.length_replicate]; omega)
    refine ⟨u', v', (loop_nx (ρ1 := [some (.d a), some (.ml (acc.map .int)), some (.d (.int p.1)), some (.d (.int p.2))]) rfl (coins_step a acc p.1 p.2 hp.1 hp.2 (by omega))).trans ?_⟩
    rw [expand_cons, ← List.append_assoc]
    exact e
theorem v_coins (T : Tx K κ mg) {ps : List (Int × Int)} (h : ∀ p ∈ ps, 0 ≤ p.2 ∧ p.2 ≤ 1000) (hl : (expand ps).length ≤ 500000) : f_l_coins T [.d (pl ps)] = .ok (.ml ((expand ps).map .int)) [.d (pl ps)] := by
  obtain ⟨u', v', e⟩ := coins_loop (K := K) (κ := κ) (pl ps) ps [] none none h (by simpa using hl)
  rw [List.nil_append] at e
  have f : (forCoins (K := K) (κ := κ)).sv [some (.d (pl ps)), some (.ml []), none, none] = _ := for_of (xs := ps.map pr) rfl e
  have b : b_l_coins T = sSeq (sAsg 1 (eLstM (aNil))) (sSeq forCoins (sSeq (sRet (eGive 1)) (sNil))) := rfl
  refine fn_rt (ρ := [some (.d (pl ps)), none, u', v']) ?_ rfl
  rw [b]
  refine seq_nx (ρ' := [some (.d (pl ps)), some (.ml []), none, none]) (by simp only [eV_ev, eC_ev, eOp_ev, eUn_ev, eIsN_ev, eNotN_ev, aNil_ev, aCons_ev, aM_ev, eTup_ev, eLst_ev, eLstM_ev, eCall_ev, eCB_ev, tV_ev, tV'_ev, tAnd'_ev, tOr'_ev, tNot'_ev, eAndV_ev, eOrV_ev, eNotV_ev, eIf_ev, sNil_sv, sSeq_sv, sAsg_sv, sIf_sv, sRet_sv, sDrop_sv, sSetL_sv, sApp_sv, eIxM_ev, eLenM_ev, iT_ev, iL_ev, iR1_ev, iR2_ev, gN_put, gs0_put, gs1_put, gT_put, sAsgG_sv, tYes'_ev, eIs_ev, sRaise_sv, sTry_sv, sNever_sv, sPar_sv, o0_ev, o1_ev, eSlT_ev, sSetD_sv, eIxD_ev, eGetD_ev, eSortD_ev, eDict_ev, eNegC_ev, eRevT_ev, eOrD_ev, eRepM_ev, sAugI_sv, iItemsD_ev, iZip_ev, sRaiseF_sv, eIsX_ev, eFldX_ev, eCatM_ev, eSortIt_ev, sAugAdd, sAugSub, eIntOf, eRep01, eStrOf, eTupOf, eLstOf, eCatT, eInt, eStr, eBl, eNon, eAdd, eSub, eMul, eMulW, eMod, eDiv, ePow, eLt, eLe, eGt, eGe, eEq, eNe, eIxL, eIxT, eLen, eMax2, eMin2, eAll, eAny, eSum, eIsTy, R.bindD_ok, gI, R.bindD_ok, R.bindD_exc, R.bind_ok, R.bind_exc, R.bind_bad, R.of, R.flow, evV, evD, dat, pull, push, callOn, left, begun, List.length_cons, List.length_nil, List.getElem?_cons_zero, List.getElem?_cons_succ, List.set_cons_zero, List.set_cons_succ, if_true, if_false, ite_t, ite_f, Nat.reduceAdd, Nat.reduceLT, Nat.reduceSub, Nat.reduceEqDiff, Nat.reduceLeDiff, List.map_cons, List.map_nil, List.replicate, List.append_nil, List.nil_append, List.cons_append, and_self, true_and, and_true, Bool.not_true, Bool.not_false, Bool.false_eq_true, reduceIte, Nat.zero_add, Nat.lt_add_left_iff_pos]) ?_
  refine seq_nx f ?_
  exact seq_rt rfl
/-! the draw -/
def bd_pile (T : Tx K κ mg) : SS K κ := (sSeq (sApp K rfl 2 (eAdd (eInt 1) (eCall 2 (f_l_take T) (aM 0 (aCons (eIxL (eLst (aCons (eInt 3) (aCons (eV 1) (aNil)))) (eCall 2 (f_l_take T) (aM 0 (aCons (eInt 2) (aNil))))) (aNil))))))
    (sNil))
def forPile (T : Tx K κ mg) : SS K κ := sFor (iR1 (eCall 2 (f_l_take T) (aM 0 (aCons (eInt 5) (aNil))))) (gN 3) (bd_pile T)
theorem pile_step (T : Tx K κ mg) (d top : Int) (xs : List Int) (k : D) (ht : 1 ≤ top) (ht' : top ≤ 12) (hl : xs.length ≤ 100) : ∃ d' x, (bd_pile T).sv [some (.ml [.int d]), some (.d (.int top)), some (.ml (xs.map .int)), some (.d k)] =
    .ok .nx [some (.ml [.int d']), some (.d (.int top)), some (.ml ((xs ++ [x]).map .int)), some (.d k)] ∧ 1 ≤ x ∧ x ≤ 12 := by
  have t2 := v_take T d 2 (by decide) (by decide)
  obtain ⟨z, hz, mz⟩ := pickL (xs := [.int 3, .int top]) d 2 rfl (by decide)
  obtain ⟨q, hq, q2, q3⟩ : ∃ q : Int, z = .int q ∧ 1 ≤ q ∧ q ≤ 12 := by
    simp only [List.mem_cons, List.not_mem_nil, or_false] at mz
    rcases mz with rfl | rfl
    · exact ⟨3, rfl, by omega, by omega⟩
    · exact ⟨top, rfl, ht, ht'⟩
  subst hq
  have t3 := v_take T (d / 2) q (by omega) (by omega)
  have b0 := Int.emod_nonneg (d / 2) (show q ≠ 0 by omega)
  have b1 := Int.emod_lt_of_pos (d / 2) (show 0 < q by omega)
  have ll : (xs.map D.int).length < 1000000 := by simp; omega
  refine ⟨d / 2 / q, 1 + d / 2 % q, ?_, by omega, by omega⟩
  unfold bd_pile
  simp only [eV_ev, eC_ev, eOp_ev, eUn_ev, eIsN_ev, eNotN_ev, aNil_ev, aCons_ev, aM_ev, eTup_ev, eLst_ev, eLstM_ev, eCall_ev, eCB_ev, tV_ev, tV'_ev, tAnd'_ev, tOr'_ev, tNot'_ev, eAndV_ev, eOrV_ev, eNotV_ev, eIf_ev, sNil_sv, sSeq_sv, sAsg_sv, sIf_sv, sRet_sv, sDrop_sv, sSetL_sv, sApp_sv, eIxM_ev, eLenM_ev, iT_ev, iL_ev, iR1_ev, iR2_ev, gN_put, gs0_put, gs1_put, gT_put, sAsgG_sv, tYes'_ev, eIs_ev, sRaise_sv, sTry_sv, sNever_sv, sPar_sv, o0_ev, o1_ev, eSlT_ev, sSetD_sv, eIxD_ev, eGetD_ev, eSortD_ev, eDict_ev, eNegC_ev, eRevT_ev, eOrD_ev, eRepM_ev, sAugI_sv, iItemsD_ev, iZip_ev, sRaiseF_sv, eIsX_ev, eFldX_ev, eCatM_ev, eSortIt_ev, sAugAdd, sAugSub, eIntOf, eRep01, eStrOf, eTupOf, eLstOf, eCatT, eInt, eStr, eBl, eNon, eAdd, eSub, eMul, eMulW, eMod, eDiv, ePow, eLt, eLe, eGt, eGe, eEq, eNe, eIxL, eIxT, eLen, eMax2, eMin2, eAll, eAny, eSum, eIsTy, R.bindD_ok, gI, R.bindD_ok, R.bindD_exc, R.bind_ok, R.bind_exc, R.bind_bad, R.of, R.flow, evV, evD, dat, pull, push, callOn, left, begun, List.length_cons, List.length_nil, List.getElem?_cons_zero, List.getElem?_cons_succ, List.set_cons_zero, List.set_cons_succ, if_true, if_false, ite_t, ite_f, Nat.reduceAdd, Nat.reduceLT, Nat.reduceSub, Nat.reduceEqDiff, Nat.reduceLeDiff, List.map_cons, List.map_nil, List.replicate, List.append_nil, List.nil_append, List.cons_append, and_self, true_and, and_true, Bool.not_true, Bool.not_false, Bool.false_eq_true, reduceIte, Nat.zero_add, Nat.lt_add_left_iff_pos, t2, hz, t3, if_pos ll, List.map_append]
theorem pile_loop (T : Tx K κ mg) (top : Int) (ht : 1 ≤ top) (ht' : top ≤ 12) : ∀ (r : List D) (d : Int) (xs : List Int) (k : Option W), xs.length + r.length ≤ 20 → (∀ x ∈ xs, 1 ≤ x ∧ x ≤ 12) →
    ∃ d' k', ∃ xs' : List Int, loopS (gN (K := K) (κ := κ) 3).put (bd_pile T).sv r [some (.ml [.int d]), some (.d (.int top)), some (.ml (xs.map .int)), k] =
      .ok .nx [some (.ml [.int d']), some (.d (.int top)), some (.ml (xs'.map .int)), k'] ∧ xs'.length = xs.length + r.length ∧ ∀ x ∈ xs', 1 ≤ x ∧ x ≤ 12 := by
  intro r
  induction r with
  | nil => exact fun d xs k _ h => ⟨d, k, xs, rfl, rfl, h⟩
  | cons y r ih =>
    intro d xs k hl h
    simp only [List.length_cons] at hl
    obtain ⟨d1, x, e, x1, x2⟩ := pile_step T d top xs y ht ht' (by omega)
    obtain ⟨d', k', xs', e', l', h'⟩ := ih d1 (xs ++ [x]) (some (.d y)) (by simp; omega) (fun z hz => by
      rcases List.mem_append.mp hz with hz | hz
      · exact h z hz
      · rw [List.mem_singleton] at hz
        subst hz
        exact ⟨x1, x2⟩)
    refine ⟨d', k', xs', (loop_nx (ρ1 := [some (.ml [.int d]), some (.d (.int top)), some (.ml (xs.map .int)), some (.d y)]) rfl e).trans e', ?_, h'⟩
    rw [l', List.length_append]
    simp
    omega
theorem v_pile (T : Tx K κ mg) (d top : Int) (ht : 1 ≤ top) (ht' : top ≤ 12) : ∃ d' xs, f_l_pile T [.ml [.int d], .d (.int top)] = .ok (.d (pl (heapP xs))) [.ml [.int d'], .d (.int top)] ∧ xs.length ≤ 9 ∧ ∀ x ∈ xs, 1 ≤ x ∧ x ≤ 12 := by
  have t1 := v_take T d 6 (by decide) (by decide)
  have a0 := Int.emod_nonneg d (show (6 : Int) ≠ 0 by decide)
  have a1 := Int.emod_lt_of_pos d (show (0 : Int) < 6 by decide)
  obtain ⟨d1, hd1⟩ : ∃ d1, d1 = d / 6 := ⟨_, rfl⟩
  rw [← hd1] at t1
  have t2 := v_take T d1 5 (by decide) (by decide)
  have b0 := Int.emod_nonneg d1 (show (5 : Int) ≠ 0 by decide)
  have b1 := Int.emod_lt_of_pos d1 (show (0 : Int) < 5 by decide)
  obtain ⟨d2, hd2⟩ : ∃ d2, d2 = d1 / 5 := ⟨_, rfl⟩
  rw [← hd2] at t2
  obtain ⟨n, hn⟩ : ∃ n, n = d % 6 := ⟨_, rfl⟩
  rw [← hn] at t1 a0 a1
  obtain ⟨m, hm⟩ : ∃ m, m = d1 % 5 := ⟨_, rfl⟩
  rw [← hm] at t2 b0 b1
  have o : (0 : Int) ≤ n ∧ n ≤ 1000 := ⟨a0, by omega⟩
  have e1 : (sAsg (K := K) (κ := κ) 2 (eRepM (eLstM (aCons (eInt 1) (aNil))) (eCall 2 (f_l_take T) (aM 0 (aCons (eInt 6) (aNil)))))).sv [some (.ml [.int d]), some (.d (.int top)), none, none] = .ok .nx [some (.ml [.int d1]), some (.d (.int top)), some (.ml ((List.replicate n.toNat 1).map .int)), none] := by
    simp only [eV_ev, eC_ev, eOp_ev, eUn_ev, eIsN_ev, eNotN_ev, aNil_ev, aCons_ev, aM_ev, eTup_ev, eLst_ev, eLstM_ev, eCall_ev, eCB_ev, tV_ev, tV'_ev, tAnd'_ev, tOr'_ev, tNot'_ev, eAndV_ev, eOrV_ev, eNotV_ev, eIf_ev, sNil_sv, sSeq_sv, sAsg_sv, sIf_sv, sRet_sv, sDrop_sv, sSetL_sv, sApp_sv, eIxM_ev, eLenM_ev, iT_ev, iL_ev, iR1_ev, iR2_ev, gN_put, gs0_put, gs1_put, gT_put, sAsgG_sv, tYes'_ev, eIs_ev, sRaise_sv, sTry_sv, sNever_sv, sPar_sv, o0_ev, o1_ev, eSlT_ev, sSetD_sv, eIxD_ev, eGetD_ev, eSortD_ev, eDict_ev, eNegC_ev, eRevT_ev, eOrD_ev, eRepM_ev, sAugI_sv, iItemsD_ev, iZip_ev, sRaiseF_sv, eIsX_ev, eFldX_ev, eCatM_ev, eSortIt_ev, sAugAdd, sAugSub, eIntOf, eRep01, eStrOf, eTupOf, eLstOf, eCatT, eInt, eStr, eBl, eNon, eAdd, eSub, eMul, eMulW, eMod, eDiv, ePow, eLt, eLe, eGt, eGe, eEq, eNe, eIxL, eIxT, eLen, eMax2, eMin2, eAll, eAny, eSum, eIsTy, R.bindD_ok, gI, R.bindD_ok, R.bindD_exc, R.bind_ok, R.bind_exc, R.bind_bad, R.of, R.flow, evV, evD, dat, pull, push, callOn, left, begun, List.length_cons, List.length_nil, List.getElem?_cons_zero, List.getElem?_cons_succ, List.set_cons_zero, List.set_cons_succ, if_true, if_false, ite_t, ite_f, Nat.reduceAdd, Nat.reduceLT, Nat.reduceSub, Nat.reduceEqDiff, Nat.reduceLeDiff, List.map_cons, List.map_nil, List.replicate, List.append_nil, List.nil_append, List.cons_append, and_self, true_and, and_true, Bool.not_true, Bool.not_false, Bool.false_eq_true, reduceIte, Nat.zero_add, Nat.lt_add_left_iff_pos, t1, if_pos o]
    rw [rep_flat, rep_map]
  have rl : (nums 0 m.toNat).length = m.toNat := by simp [nums]
  obtain ⟨d', k', xs, e, l, h⟩ := pile_loop T top ht ht' (nums 0 m.toNat) d2 (List.replicate n.toNat 1) none (by rw [rl, List.length_replicate]; omega) (fun x hx => by rw [(List.mem_replicate.mp hx).2]; decide)
  have f : (forPile T).sv [some (.ml [.int d1]), some (.d (.int top)), some (.ml ((List.replicate n.toNat 1).map .int)), none] = _ := for_of (ρ1 := [some (.ml [.int d2]), some (.d (.int top)), some (.ml ((List.replicate n.toNat 1).map .int)), none]) (xs := nums 0 m.toNat) (by
    simp only [eV_ev, eC_ev, eOp_ev, eUn_ev, eIsN_ev, eNotN_ev, aNil_ev, aCons_ev, aM_ev, eTup_ev, eLst_ev, eLstM_ev, eCall_ev, eCB_ev, tV_ev, tV'_ev, tAnd'_ev, tOr'_ev, tNot'_ev, eAndV_ev, eOrV_ev, eNotV_ev, eIf_ev, sNil_sv, sSeq_sv, sAsg_sv, sIf_sv, sRet_sv, sDrop_sv, sSetL_sv, sApp_sv, eIxM_ev, eLenM_ev, iT_ev, iL_ev, iR1_ev, iR2_ev, gN_put, gs0_put, gs1_put, gT_put, sAsgG_sv, tYes'_ev, eIs_ev, sRaise_sv, sTry_sv, sNever_sv, sPar_sv, o0_ev, o1_ev, eSlT_ev, sSetD_sv, eIxD_ev, eGetD_ev, eSortD_ev, eDict_ev, eNegC_ev, eRevT_ev, eOrD_ev, eRepM_ev, sAugI_sv, iItemsD_ev, iZip_ev, sRaiseF_sv, eIsX_ev, eFldX_ev, eCatM_ev, eSortIt_ev, sAugAdd, sAugSub, eIntOf, eRep01, eStrOf, eTupOf, eLstOf, eCatT, eInt, eStr, eBl, eNon, eAdd, eSub, eMul, eMulW, eMod, eDiv, ePow, eLt, eLe, eGt, eGe, eEq, eNe, eIxL, eIxT, eLen, eMax2, eMin2, eAll, eAny, eSum, eIsTy, R.bindD_ok, gI, R.bindD_ok, R.bindD_exc, R.bind_ok, R.bind_exc, R.bind_bad, R.of, R.flow, evV, evD, dat, pull, push, callOn, left, begun, List.length_cons, List.length_nil, List.getElem?_cons_zero, List.getElem?_cons_succ, List.set_cons_zero, List.set_cons_succ, if_true, if_false, ite_t, ite_f, Nat.reduceAdd, Nat.reduceLT, Nat.reduceSub, Nat.reduceEqDiff, Nat.reduceLeDiff, List.map_cons, List.map_nil, List.replicate, List.append_nil, List.nil_append, List.cons_append, and_self, true_and, and_true, Bool.not_true, Bool.not_false, Bool.false_eq_true, reduceIte, Nat.zero_add, Nat.lt_add_left_iff_pos, t2]
    exact if_pos ⟨by omega, by omega⟩) e
  rw [rl, List.length_replicate] at l
  have hp := v_heap T xs (by omega)
  refine ⟨d', xs, ?_, by omega, h⟩
  have b : b_l_pile T = sSeq (sAsg 2 (eRepM (eLstM (aCons (eInt 1) (aNil))) (eCall 2 (f_l_take T) (aM 0 (aCons (eInt 6) (aNil)))))) (sSeq (forPile T) (sSeq (sRet (eCall 1 (f_l_heap T) (aCons (eV 2) (aNil)))) (sNil))) := rfl
  refine fn_rt (ρ := [some (.ml [.int d']), some (.d (.int top)), some (.d (.lst (xs.map .int))), k']) ?_ rfl
  rw [b]
  refine seq_nx e1 ?_
  refine seq_nx f ?_
  exact seq_rt (by simp only [eV_ev, eC_ev, eOp_ev, eUn_ev, eIsN_ev, eNotN_ev, aNil_ev, aCons_ev, aM_ev, eTup_ev, eLst_ev, eLstM_ev, eCall_ev, eCB_ev, tV_ev, tV'_ev, tAnd'_ev, tOr'_ev, tNot'_ev, eAndV_ev, eOrV_ev, eNotV_ev, eIf_ev, sNil_sv, sSeq_sv, sAsg_sv, sIf_sv, sRet_sv, sDrop_sv, sSetL_sv, sApp_sv, eIxM_ev, eLenM_ev, iT_ev, iL_ev, iR1_ev, iR2_ev, gN_put, gs0_put, gs1_put, gT_put, sAsgG_sv, tYes'_ev, eIs_ev, sRaise_sv, sTry_sv, sNever_sv, sPar_sv, o0_ev, o1_ev, eSlT_ev, sSetD_sv, eIxD_ev, eGetD_ev, eSortD_ev, eDict_ev, eNegC_ev, eRevT_ev, eOrD_ev, eRepM_ev, sAugI_sv, iItemsD_ev, iZip_ev, sRaiseF_sv, eIsX_ev, eFldX_ev, eCatM_ev, eSortIt_ev, sAugAdd, sAugSub, eIntOf, eRep01, eStrOf, eTupOf, eLstOf, eCatT, eInt, eStr, eBl, eNon, eAdd, eSub, eMul, eMulW, eMod, eDiv, ePow, eLt, eLe, eGt, eGe, eEq, eNe, eIxL, eIxT, eLen, eMax2, eMin2, eAll, eAny, eSum, eIsTy, R.bindD_ok, gI, R.bindD_ok, R.bindD_exc, R.bind_ok, R.bind_exc, R.bind_bad, R.of, R.flow, evV, evD, dat, pull, push, callOn, left, begun, List.length_cons, List.length_nil, List.getElem?_cons_zero, List.getElem?_cons_succ, List.set_cons_zero, List.set_cons_succ, if_true, if_false, ite_t, ite_f, Nat.reduceAdd, Nat.reduceLT, Nat.reduceSub, Nat.reduceEqDiff, Nat.reduceLeDiff, List.map_cons, List.map_nil, List.replicate, List.append_nil, List.nil_append, List.cons_append, and_self, true_and, and_true, Bool.not_true, Bool.not_false, Bool.false_eq_true, reduceIte, Nat.zero_add, Nat.lt_add_left_iff_pos, hp])
end
end K49

set_option maxRecDepth 100000
set_option maxHeartbeats 4000000
namespace K49
open PySem PySem.Spec PyProof.Rows L2 Pv P25 P66 P49
section
variable {K : PySem.W.Frag} {κ : Cls} {mg : Str → Option Value}
theorem fm_und (c : Int) : ∀ ps : List (Int × Int), ps.filterMap (fun p => if p.1 < c then some (D.int (p.1 * p.2)) else none) = ((ps.filter fun p => decide (p.1 < c)).map fun p => p.1 * p.2).map .int
  | [] => rfl
  | p :: ps => by
    rw [List.filterMap_cons]
    by_cases h : p.1 < c
    · rw [if_pos h, List.filter_cons_of_pos (by simpa using h), fm_und c ps]
      rfl
    · rw [if_neg h, List.filter_cons_of_neg (by simpa using h), fm_und c ps]
def lcUnder : SE K κ := eLc (iT (eV 0)) (gT 2 (gs1 (gN 2) (gs1 (gN 3) (gs0)))) (tOr' (tV (eIsN (eV 1))) (tV' (eLt (eV 2) (eV 1)))) (eMul (eV 2) (eV 3)) [2, 3] (fun _ h => h)
theorem v_under (T : Tx K κ mg) {ps : List (Int × Int)} (h : Pil ps) (c : Int) : f_l_under T [.d (pl ps), .d (.int c)] = .ok (.d (.int (undP ps c))) [.d (pl ps), .d (.int c)] := by
  have nn : D.isN (.int c) = false := rfl
  have l := loopC_map (vs := [2, 3]) (put := (gT 2 (gs1 (gN (K := K) (κ := κ) 2) (gs1 (gN 3) (gs0)))).put) (t := (tOr' (K := K) (κ := κ) (tV (eIsN (eV 1))) (tV' (eLt (eV 2) (eV 1)))).ev) (e := (eMul (K := K) (κ := κ) (eV 2) (eV 3)).ev) (ρ0 := [some (.d (pl ps)), some (.d (.int c)), none, none])
    pr (fun p => if p.1 < c then some (D.int (p.1 * p.2)) else none) ps [] (fun p hp => by
      refine ⟨[some (.d (pl ps)), some (.d (.int c)), some (.d (.int p.1)), some (.d (.int p.2))], [some (.d (pl ps)), some (.d (.int c)), some (.d (.int p.1)), some (.d (.int p.2))], rfl, ?_⟩
      have m := h.mul p hp
      by_cases q : p.1 < c
      · rw [if_pos q]
        exact ⟨[some (.d (pl ps)), some (.d (.int c)), some (.d (.int p.1)), some (.d (.int p.2))], by simp only [eV_ev, eC_ev, eOp_ev, eUn_ev, eIsN_ev, eNotN_ev, aNil_ev, aCons_ev, aM_ev, eTup_ev, eLst_ev, eLstM_ev, eCall_ev, eCB_ev, tV_ev, tV'_ev, tAnd'_ev, tOr'_ev, tNot'_ev, eAndV_ev, eOrV_ev, eNotV_ev, eIf_ev, sNil_sv, sSeq_sv, sAsg_sv, sIf_sv, sRet_sv, sDrop_sv, sSetL_sv, sApp_sv, eIxM_ev, eLenM_ev, iT_ev, iL_ev, iR1_ev, iR2_ev, gN_put, gs0_put, gs1_put, gT_put, sAsgG_sv, tYes'_ev, eIs_ev, sRaise_sv, sTry_sv, sNever_sv, sPar_sv, o0_ev, o1_ev, eSlT_ev, sSetD_sv, eIxD_ev, eGetD_ev, eSortD_ev, eDict_ev, eNegC_ev, eRevT_ev, eOrD_ev, eRepM_ev, sAugI_sv, iItemsD_ev, iZip_ev, sRaiseF_sv, eIsX_ev, eFldX_ev, eCatM_ev, eSortIt_ev, sAugAdd, sAugSub, eIntOf, eRep01, eStrOf, eTupOf, eLstOf, eCatT, eInt, eStr, eBl, eNon, eAdd, eSub, eMul, eMulW, eMod, eDiv, ePow, eLt, eLe, eGt, eGe, eEq, eNe, eIxL, eIxT, eLen, eMax2, eMin2, eAll, eAny, eSum, eIsTy, R.bindD_ok, gI, R.bindD_ok, R.bindD_exc, R.bind_ok, R.bind_exc, R.bind_bad, R.of, R.flow, evV, evD, dat, pull, push, callOn, left, begun, List.length_cons, List.length_nil, List.getElem?_cons_zero, List.getElem?_cons_succ, List.set_cons_zero, List.set_cons_succ, if_true, if_false, ite_t, ite_f, Nat.reduceAdd, Nat.reduceLT, Nat.reduceSub, Nat.reduceEqDiff, Nat.reduceLeDiff, List.map_cons, List.map_nil, List.replicate, List.append_nil, List.nil_append, List.cons_append, and_self, true_and, and_true, Bool.not_true, Bool.not_false, Bool.false_eq_true, reduceIte, Nat.zero_add, Nat.lt_add_left_iff_pos, nn, decide_eq_true q], by simp only [eV_ev, eC_ev, eOp_ev, eUn_ev, eIsN_ev, eNotN_ev, aNil_ev, aCons_ev, aM_ev, eTup_ev, eLst_ev, eLstM_ev, eCall_ev, eCB_ev, tV_ev, tV'_ev, tAnd'_ev, tOr'_ev, tNot'_ev, eAndV_ev, eOrV_ev, eNotV_ev, eIf_ev, sNil_sv, sSeq_sv, sAsg_sv, sIf_sv, sRet_sv, sDrop_sv, sSetL_sv, sApp_sv, eIxM_ev, eLenM_ev, iT_ev, iL_ev, iR1_ev, iR2_ev, gN_put, gs0_put, gs1_put, gT_put, sAsgG_sv, tYes'_ev, eIs_ev, sRaise_sv, sTry_sv, sNever_sv, sPar_sv, o0_ev, o1_ev, eSlT_ev, sSetD_sv, eIxD_ev, eGetD_ev, eSortD_ev, eDict_ev, eNegC_ev, eRevT_ev, eOrD_ev, eRepM_ev, sAugI_sv, iItemsD_ev, iZip_ev, sRaiseF_sv, eIsX_ev, eFldX_ev, eCatM_ev, eSortIt_ev, sAugAdd, sAugSub, eIntOf, eRep01, eStrOf, eTupOf, eLstOf, eCatT, eInt, eStr, eBl, eNon, eAdd, eSub, eMul, eMulW, eMod, eDiv, ePow, eLt, eLe, eGt, eGe, eEq, eNe, eIxL, eIxT, eLen, eMax2, eMin2, eAll, eAny, eSum, eIsTy, R.bindD_ok, gI, R.bindD_ok, R.bindD_exc, R.bind_ok, R.bind_exc, R.bind_bad, R.of, R.flow, evV, evD, dat, pull, push, callOn, left, begun, List.length_cons, List.length_nil, List.getElem?_cons_zero, List.getElem?_cons_succ, List.set_cons_zero, List.set_cons_succ, if_true, if_false, ite_t, ite_f, Nat.reduceAdd, Nat.reduceLT, Nat.reduceSub, Nat.reduceEqDiff, Nat.reduceLeDiff, List.map_cons, List.map_nil, List.replicate, List.append_nil, List.nil_append, List.cons_append, and_self, true_and, and_true, Bool.not_true, Bool.not_false, Bool.false_eq_true, reduceIte, Nat.zero_add, Nat.lt_add_left_iff_pos, if_pos m], rfl⟩
      · rw [if_neg q]
        exact ⟨by simp only [eV_ev, eC_ev, eOp_ev, eUn_ev, eIsN_ev, eNotN_ev, aNil_ev, aCons_ev, aM_ev, eTup_ev, eLst_ev, eLstM_ev, eCall_ev, eCB_ev, tV_ev, tV'_ev, tAnd'_ev, tOr'_ev, tNot'_ev, eAndV_ev, eOrV_ev, eNotV_ev, eIf_ev, sNil_sv, sSeq_sv, sAsg_sv, sIf_sv, sRet_sv, sDrop_sv, sSetL_sv, sApp_sv, eIxM_ev, eLenM_ev, iT_ev, iL_ev, iR1_ev, iR2_ev, gN_put, gs0_put, gs1_put, gT_put, sAsgG_sv, tYes'_ev, eIs_ev, sRaise_sv, sTry_sv, sNever_sv, sPar_sv, o0_ev, o1_ev, eSlT_ev, sSetD_sv, eIxD_ev, eGetD_ev, eSortD_ev, eDict_ev, eNegC_ev, eRevT_ev, eOrD_ev, eRepM_ev, sAugI_sv, iItemsD_ev, iZip_ev, sRaiseF_sv, eIsX_ev, eFldX_ev, eCatM_ev, eSortIt_ev, sAugAdd, sAugSub, eIntOf, eRep01, eStrOf, eTupOf, eLstOf, eCatT, eInt, eStr, eBl, eNon, eAdd, eSub, eMul, eMulW, eMod, eDiv, ePow, eLt, eLe, eGt, eGe, eEq, eNe, eIxL, eIxT, eLen, eMax2, eMin2, eAll, eAny, eSum, eIsTy, R.bindD_ok, gI, R.bindD_ok, R.bindD_exc, R.bind_ok, R.bind_exc, R.bind_bad, R.of, R.flow, evV, evD, dat, pull, push, callOn, left, begun, List.length_cons, List.length_nil, List.getElem?_cons_zero, List.getElem?_cons_succ, List.set_cons_zero, List.set_cons_succ, if_true, if_false, ite_t, ite_f, Nat.reduceAdd, Nat.reduceLT, Nat.reduceSub, Nat.reduceEqDiff, Nat.reduceLeDiff, List.map_cons, List.map_nil, List.replicate, List.append_nil, List.nil_append, List.cons_append, and_self, true_and, and_true, Bool.not_true, Bool.not_false, Bool.false_eq_true, reduceIte, Nat.zero_add, Nat.lt_add_left_iff_pos, nn, decide_eq_false q], rfl⟩) (by have := h.few; simp; omega)
  rw [List.nil_append, fm_und] at l
  have lc : (lcUnder (K := K) (κ := κ)).ev [some (.d (pl ps)), some (.d (.int c)), none, none] = .ok (.d (.lst (((ps.filter fun p => decide (p.1 < c)).map fun p => p.1 * p.2).map .int))) [some (.d (pl ps)), some (.d (.int c)), none, none] :=
    lc_of (vs := [2, 3]) (it := iT (eV 0)) (g := gT 2 (gs1 (gN 2) (gs1 (gN 3) (gs0)))) (t := tOr' (tV (eIsN (eV 1))) (tV' (eLt (eV 2) (eV 1)))) (e := eMul (eV 2) (eV 3)) (hv := fun _ h => h) (ρi := [some (.d (pl ps)), some (.d (.int c)), none, none]) rfl rfl l rfl
  have g := gSum_map ((ps.filter fun p => decide (p.1 < c)).map fun p => p.1 * p.2)
  refine fn_rt (ρ := [some (.d (pl ps)), some (.d (.int c)), none, none]) ?_ rfl
  have b : b_l_under T = sSeq (sRet (eSum (aCons lcUnder (aNil)))) sNil := rfl
  rw [b]
  exact seq_rt (by simp only [eV_ev, eC_ev, eOp_ev, eUn_ev, eIsN_ev, eNotN_ev, aNil_ev, aCons_ev, aM_ev, eTup_ev, eLst_ev, eLstM_ev, eCall_ev, eCB_ev, tV_ev, tV'_ev, tAnd'_ev, tOr'_ev, tNot'_ev, eAndV_ev, eOrV_ev, eNotV_ev, eIf_ev, sNil_sv, sSeq_sv, sAsg_sv, sIf_sv, sRet_sv, sDrop_sv, sSetL_sv, sApp_sv, eIxM_ev, eLenM_ev, iT_ev, iL_ev, iR1_ev, iR2_ev, gN_put, gs0_put, gs1_put, gT_put, sAsgG_sv, tYes'_ev, eIs_ev, sRaise_sv, sTry_sv, sNever_sv, sPar_sv, o0_ev, o1_ev, eSlT_ev, sSetD_sv, eIxD_ev, eGetD_ev, eSortD_ev, eDict_ev, eNegC_ev, eRevT_ev, eOrD_ev, eRepM_ev, sAugI_sv, iItemsD_ev, iZip_ev, sRaiseF_sv, eIsX_ev, eFldX_ev, eCatM_ev, eSortIt_ev, sAugAdd, sAugSub, eIntOf, eRep01, eStrOf, eTupOf, eLstOf, eCatT, eInt, eStr, eBl, eNon, eAdd, eSub, eMul, eMulW, eMod, eDiv, ePow, eLt, eLe, eGt, eGe, eEq, eNe, eIxL, eIxT, eLen, eMax2, eMin2, eAll, eAny, eSum, eIsTy, R.bindD_ok, gI, R.bindD_ok, R.bindD_exc, R.bind_ok, R.bind_exc, R.bind_bad, R.of, R.flow, evV, evD, dat, pull, push, callOn, left, begun, List.length_cons, List.length_nil, List.getElem?_cons_zero, List.getElem?_cons_succ, List.set_cons_zero, List.set_cons_succ, if_true, if_false, ite_t, ite_f, Nat.reduceAdd, Nat.reduceLT, Nat.reduceSub, Nat.reduceEqDiff, Nat.reduceLeDiff, List.map_cons, List.map_nil, List.replicate, List.append_nil, List.nil_append, List.cons_append, and_self, true_and, and_true, Bool.not_true, Bool.not_false, Bool.false_eq_true, reduceIte, Nat.zero_add, Nat.lt_add_left_iff_pos, lc, g]; rfl)

theorem v_small (T : Tx K κ mg) {ps : List (Int × Int)} (h : Pil ps) (hs : sumP ps ≤ 200) : f_check_small_pile T [.d (pl ps)] = .ok (.d .non) [.d (pl ps)] := by
  have s := v_sum_of T h
  have c : ¬ 200 < sumP ps := by omega
  show Pv.fnOf 1 (b_check_small_pile T).asg (b_check_small_pile T).sv [.d (pl ps)] = _
  unfold Pv.fnOf b_check_small_pile
  simp only [eV_ev, eC_ev, eOp_ev, eUn_ev, eIsN_ev, eNotN_ev, aNil_ev, aCons_ev, aM_ev, eTup_ev, eLst_ev, eLstM_ev, eCall_ev, eCB_ev, tV_ev, tV'_ev, tAnd'_ev, tOr'_ev, tNot'_ev, eAndV_ev, eOrV_ev, eNotV_ev, eIf_ev, sNil_sv, sSeq_sv, sAsg_sv, sIf_sv, sRet_sv, sDrop_sv, sSetL_sv, sApp_sv, eIxM_ev, eLenM_ev, iT_ev, iL_ev, iR1_ev, iR2_ev, gN_put, gs0_put, gs1_put, gT_put, sAsgG_sv, tYes'_ev, eIs_ev, sRaise_sv, sTry_sv, sNever_sv, sPar_sv, o0_ev, o1_ev, eSlT_ev, sSetD_sv, eIxD_ev, eGetD_ev, eSortD_ev, eDict_ev, eNegC_ev, eRevT_ev, eOrD_ev, eRepM_ev, sAugI_sv, iItemsD_ev, iZip_ev, sRaiseF_sv, eIsX_ev, eFldX_ev, eCatM_ev, eSortIt_ev, sAugAdd, sAugSub, eIntOf, eRep01, eStrOf, eTupOf, eLstOf, eCatT, eInt, eStr, eBl, eNon, eAdd, eSub, eMul, eMulW, eMod, eDiv, ePow, eLt, eLe, eGt, eGe, eEq, eNe, eIxL, eIxT, eLen, eMax2, eMin2, eAll, eAny, eSum, eIsTy, R.bindD_ok, gI, R.bindD_ok, R.bindD_exc, R.bind_ok, R.bind_exc, R.bind_bad, R.of, R.flow, evV, evD, dat, pull, push, callOn, left, begun, List.length_cons, List.length_nil, List.getElem?_cons_zero, List.getElem?_cons_succ, List.set_cons_zero, List.set_cons_succ, if_true, if_false, ite_t, ite_f, Nat.reduceAdd, Nat.reduceLT, Nat.reduceSub, Nat.reduceEqDiff, Nat.reduceLeDiff, List.map_cons, List.map_nil, List.replicate, List.append_nil, List.nil_append, List.cons_append, and_self, true_and, and_true, Bool.not_true, Bool.not_false, Bool.false_eq_true, reduceIte, Nat.zero_add, Nat.lt_add_left_iff_pos, s, decide_eq_false c]
/-! the first worth at which the one has less -/
def outD : Option (Int × Int) → D
  | none => .non
  | some q => .tup [.int q.1, .int q.2]
def lcOut : SE K κ := eLc (iT (eV 0)) (gT 2 (gs1 (gN 5) (gs1 (gN 6) (gs0)))) (tV' (eLe (eV 5) (eV 3))) (eMul (eV 5) (eV 6)) [5, 6] (fun _ h => h)
theorem out_lc {ps : List (Int × Int)} (h : Pil ps) (b l n : D) (w : Int) (u v : Option W) : (lcOut (K := K) (κ := κ)).ev [some (.d (pl ps)), some (.d b), some (.d l), some (.d (.int w)), some (.d n), u, v] = .ok (.d (.lst (((ps.filter fun p => decide (p.1 < w + 1)).map fun p => p.1 * p.2).map .int))) [some (.d (pl ps)), some (.d b), some (.d l), some (.d (.int w)), some (.d n), none, none] := by
  have lo := loopC_map (vs := [5, 6]) (put := (gT 2 (gs1 (gN (K := K) (κ := κ) 5) (gs1 (gN 6) (gs0)))).put) (t := (tV' (K := K) (κ := κ) (eLe (eV 5) (eV 3))).ev) (e := (eMul (K := K) (κ := κ) (eV 5) (eV 6)).ev) (ρ0 := [some (.d (pl ps)), some (.d b), some (.d l), some (.d (.int w)), some (.d n), none, none])
    pr (fun p => if p.1 < w + 1 then some (D.int (p.1 * p.2)) else none) ps [] (fun p hp => by
      refine ⟨[some (.d (pl ps)), some (.d b), some (.d l), some (.d (.int w)), some (.d n), some (.d (.int p.1)), some (.d (.int p.2))], [some (.d (pl ps)), some (.d b), some (.d l), some (.d (.int w)), some (.d n), some (.d (.int p.1)), some (.d (.int p.2))], rfl, ?_⟩
      have m := h.mul p hp
      by_cases q : p.1 < w + 1
      · rw [if_pos q]
        exact ⟨[some (.d (pl ps)), some (.d b), some (.d l), some (.d (.int w)), some (.d n), some (.d (.int p.1)), some (.d (.int p.2))], by simp only [eV_ev, eC_ev, eOp_ev, eUn_ev, eIsN_ev, eNotN_ev, aNil_ev, aCons_ev, aM_ev, eTup_ev, eLst_ev, eLstM_ev, eCall_ev, eCB_ev, tV_ev, tV'_ev, tAnd'_ev, tOr'_ev, tNot'_ev, eAndV_ev, eOrV_ev, eNotV_ev, eIf_ev, sNil_sv, sSeq_sv, sAsg_sv, sIf_sv, sRet_sv, sDrop_sv, sSetL_sv, sApp_sv, eIxM_ev, eLenM_ev, iT_ev, iL_ev, iR1_ev, iR2_ev, gN_put, gs0_put, gs1_put, gT_put, sAsgG_sv, tYes'_ev, eIs_ev, sRaise_sv, sTry_sv, sNever_sv, sPar_sv, o0_ev, o1_ev, eSlT_ev, sSetD_sv, eIxD_ev, eGetD_ev, eSortD_ev, eDict_ev, eNegC_ev, eRevT_ev, eOrD_ev, eRepM_ev, sAugI_sv, iItemsD_ev, iZip_ev, sRaiseF_sv, eIsX_ev, eFldX_ev, eCatM_ev, eSortIt_ev, sAugAdd, sAugSub, eIntOf, eRep01, eStrOf, eTupOf, eLstOf, eCatT, eInt, eStr, eBl, eNon, eAdd, eSub, eMul, eMulW, eMod, eDiv, ePow, eLt, eLe, eGt, eGe, eEq, eNe, eIxL, eIxT, eLen, eMax2, eMin2, eAll, eAny, eSum, eIsTy, R.bindD_ok, gI, R.bindD_ok, R.bindD_exc, R.bind_ok, R.bind_exc, R.bind_bad, R.of, R.flow, evV, evD, dat, pull, push, callOn, left, begun, List.length_cons, List.length_nil, List.getElem?_cons_zero, List.getElem?_cons_succ, List.set_cons_zero, List.set_cons_succ, if_true, if_false, ite_t, ite_f, Nat.reduceAdd, Nat.reduceLT, Nat.reduceSub, Nat.reduceEqDiff, Nat.reduceLeDiff, List.map_cons, List.map_nil, List.replicate, List.append_nil, List.nil_append, List.cons_append, and_self, true_and, and_true, Bool.not_true, Bool.not_false, Bool.false_eq_true, reduceIte, Nat.zero_add, Nat.lt_add_left_iff_pos, decide_eq_true (show p.1 ≤ w by omega)], by simp only [eV_ev, eC_ev, eOp_ev, eUn_ev, eIsN_ev, eNotN_ev, aNil_ev, aCons_ev, aM_ev, eTup_ev, eLst_ev, eLstM_ev, eCall_ev, eCB_ev, tV_ev, tV'_ev, tAnd'_ev, tOr'_ev, tNot'_ev, eAndV_ev, eOrV_ev, eNotV_ev, eIf_ev, sNil_sv, sSeq_sv, sAsg_sv, sIf_sv, sRet_sv, sDrop_sv, sSetL_sv, sApp_sv, eIxM_ev, eLenM_ev, iT_ev, iL_ev, iR1_ev, iR2_ev, gN_put, gs0_put, gs1_put, gT_put, sAsgG_sv, tYes'_ev, eIs_ev, sRaise_sv, sTry_sv, sNever_sv, sPar_sv, o0_ev, o1_ev, eSlT_ev, sSetD_sv, eIxD_ev, eGetD_ev, eSortD_ev, eDict_ev, eNegC_ev, eRevT_ev, eOrD_ev, eRepM_ev, sAugI_sv, iItemsD_ev, iZip_ev, sRaiseF_sv, eIsX_ev, eFldX_ev, eCatM_ev, eSortIt_ev, sAugAdd, sAugSub, eIntOf, eRep01, eStrOf, eTupOf, eLstOf, eCatT, eInt, eStr, eBl, eNon, eAdd, eSub, eMul, eMulW, eMod, eDiv, ePow, eLt, eLe, eGt, eGe, eEq, eNe, eIxL, eIxT, eLen, eMax2, eMin2, eAll, eAny, eSum, eIsTy, R.bindD_ok, gI, R.bindD_ok, R.bindD_exc, R.bind_ok, R.bind_exc, R.bind_bad, R.of, R.flow, evV, evD, dat, pull, push, callOn, left, begun, List.length_cons, List.length_nil, List.getElem?_cons_zero, List.getElem?_cons_succ, List.set_cons_zero, List.set_cons_succ, if_true, if_false, ite_t, ite_f, Nat.reduceAdd, Nat.reduceLT, Nat.reduceSub, Nat.reduceEqDiff, Nat.reduceLeDiff, List.map_cons, List.map_nil, List.replicate, List.append_nil, List.nil_append, List.cons_append, and_self, true_and, and_true, Bool.not_true, Bool.not_false, Bool.false_eq_true, reduceIte, Nat.zero_add, Nat.lt_add_left_iff_pos, if_pos m], rfl⟩
      · rw [if_neg q]
        exact ⟨by simp only [eV_ev, eC_ev, eOp_ev, eUn_ev, eIsN_ev, eNotN_ev, aNil_ev, aCons_ev, aM_ev, eTup_ev, eLst_ev, eLstM_ev, eCall_ev, eCB_ev, tV_ev, tV'_ev, tAnd'_ev, tOr'_ev, tNot'_ev, eAndV_ev, eOrV_ev, eNotV_ev, eIf_ev, sNil_sv, sSeq_sv, sAsg_sv, sIf_sv, sRet_sv, sDrop_sv, sSetL_sv, sApp_sv, eIxM_ev, eLenM_ev, iT_ev, iL_ev, iR1_ev, iR2_ev, gN_put, gs0_put, gs1_put, gT_put, sAsgG_sv, tYes'_ev, eIs_ev, sRaise_sv, sTry_sv, sNever_sv, sPar_sv, o0_ev, o1_ev, eSlT_ev, sSetD_sv, eIxD_ev, eGetD_ev, eSortD_ev, eDict_ev, eNegC_ev, eRevT_ev, eOrD_ev, eRepM_ev, sAugI_sv, iItemsD_ev, iZip_ev, sRaiseF_sv, eIsX_ev, eFldX_ev, eCatM_ev, eSortIt_ev, sAugAdd, sAugSub, eIntOf, eRep01, eStrOf, eTupOf, eLstOf, eCatT, eInt, eStr, eBl, eNon, eAdd, eSub, eMul, eMulW, eMod, eDiv, ePow, eLt, eLe, eGt, eGe, eEq, eNe, eIxL, eIxT, eLen, eMax2, eMin2, eAll, eAny, eSum, eIsTy, R.bindD_ok, gI, R.bindD_ok, R.bindD_exc, R.bind_ok, R.bind_exc, R.bind_bad, R.of, R.flow, evV, evD, dat, pull, push, callOn, left, begun, List.length_cons, List.length_nil, List.getElem?_cons_zero, List.getElem?_cons_succ, List.set_cons_zero, List.set_cons_succ, if_true, if_false, ite_t, ite_f, Nat.reduceAdd, Nat.reduceLT, Nat.reduceSub, Nat.reduceEqDiff, Nat.reduceLeDiff, List.map_cons, List.map_nil, List.replicate, List.append_nil, List.nil_append, List.cons_append, and_self, true_and, and_true, Bool.not_true, Bool.not_false, Bool.false_eq_true, reduceIte, Nat.zero_add, Nat.lt_add_left_iff_pos, decide_eq_false (show ¬ p.1 ≤ w by omega)], rfl⟩) (by have := h.few; simp; omega)
  rw [List.nil_append, fm_und] at lo
  exact lc_of (vs := [5, 6]) (it := iT (eV 0)) (g := gT 2 (gs1 (gN 5) (gs1 (gN 6) (gs0)))) (t := tV' (eLe (eV 5) (eV 3))) (e := eMul (eV 5) (eV 6)) (hv := fun _ h => h) (ρi := [some (.d (pl ps)), some (.d b), some (.d l), some (.d (.int w)), some (.d n), u, v]) rfl rfl lo rfl
def bd_out : SS K κ := (sSeq (sAugAdd 2 (eMul (eV 3) (eV 4)))
    (sSeq (sIf (tV' (eLt (eSum (aCons lcOut (aNil))) (eV 2))) (sSeq (sRet (eTup (aCons (eAdd (eV 3) (eInt 1)) (aCons (eV 2) (aNil)))))
    (sNil)) (sNil))
    (sNil)))
def forOut : SS K κ := sFor (iT (eV 1)) (gT 2 (gs1 (gN 3) (gs1 (gN 4) (gs0)))) bd_out
theorem out_loop {one : List (Int × Int)} (h1 : Pil one) (b : D) : ∀ (suf : List (Int × Int)) (l : Int) (u3 u4 u5 u6 : Option W), (∀ p ∈ suf, CMul p.1 p.2) → ∃ a2 a3 a4 a5 a6, loopS (gT 2 (gs1 (gN (K := K) (κ := κ) 3) (gs1 (gN 4) (gs0)))).put (bd_out (K := K) (κ := κ)).sv (suf.map pr) [some (.d (pl one)), some (.d b), some (.d (.int l)), u3, u4, u5, u6] =
    .ok (match outA one suf l with | some q => .rt (.d (outD (some q))) | none => .nx) [some (.d (pl one)), some (.d b), a2, a3, a4, a5, a6] := by
  intro suf
  induction suf with
  | nil => intro l u3 u4 u5 u6 _; exact ⟨_, _, _, _, _, rfl⟩
  | cons p suf ih =>
    intro l u3 u4 u5 u6 h
    have hp := h p (by simp)
    have lc := out_lc (K := K) (κ := κ) h1 b (.int (l + p.1 * p.2)) (.int p.2) p.1 u5 u6
    have g := gSum_map ((one.filter fun q => decide (q.1 < p.1 + 1)).map fun q => q.1 * q.2)
    have ud : ((one.filter fun q => decide (q.1 < p.1 + 1)).map fun q => q.1 * q.2).sum = undP one (p.1 + 1) := rfl
    rw [ud] at g
    obtain ⟨L, hL⟩ : ∃ L, lcOut (K := K) (κ := κ) = L := ⟨_, rfl⟩
    rw [hL] at lc
    have bb : bd_out (K := K) (κ := κ) = (sSeq (sAugAdd 2 (eMul (eV 3) (eV 4)))
      (sSeq (sIf (tV' (eLt (eSum (aCons L (aNil))) (eV 2))) (sSeq (sRet (eTup (aCons (eAdd (eV 3) (eInt 1)) (aCons (eV 2) (aNil))))) (sNil)) (sNil)) (sNil))) := by rw [← hL]; rfl
    rw [List.map_cons]
    by_cases c : undP one (p.1 + 1) < l + p.1 * p.2
    · have eq : outA one (p :: suf) l = some (p.1 + 1, l + p.1 * p.2) := by rw [outA.eq_2, if_pos c]
      rw [eq]
      refine ⟨some (.d (.int (l + p.1 * p.2))), some (.d (.int p.1)), some (.d (.int p.2)), none, none, loop_rt (ρ1 := [some (.d (pl one)), some (.d b), some (.d (.int l)), some (.d (.int p.1)), some (.d (.int p.2)), u5, u6]) rfl ?_⟩
      rw [bb]
      simp only [eV_ev, eC_ev, eOp_ev, eUn_ev, eIsN_ev, eNotN_ev, aNil_ev, aCons_ev, aM_ev, eTup_ev, eLst_ev, eLstM_ev, eCall_ev, eCB_ev, tV_ev, tV'_ev, tAnd'_ev, tOr'_ev, tNot'_ev, eAndV_ev, eOrV_ev, eNotV_ev, eIf_ev, sNil_sv, sSeq_sv, sAsg_sv, sIf_sv, sRet_sv, sDrop_sv, sSetL_sv, sApp_sv, eIxM_ev, eLenM_ev, iT_ev, iL_ev, iR1_ev, iR2_ev, gN_put, gs0_put, gs1_put, gT_put, sAsgG_sv, tYes'_ev, eIs_ev, sRaise_sv, sTry_sv, sNever_sv, sPar_sv, o0_ev, o1_ev, eSlT_ev, sSetD_sv, eIxD_ev, eGetD_ev, eSortD_ev, eDict_ev, eNegC_ev, eRevT_ev, eOrD_ev, eRepM_ev, sAugI_sv, iItemsD_ev, iZip_ev, sRaiseF_sv, eIsX_ev, eFldX_ev, eCatM_ev, eSortIt_ev, sAugAdd, sAugSub, eIntOf, eRep01, eStrOf, eTupOf, eLstOf, eCatT, eInt, eStr, eBl, eNon, eAdd, eSub, eMul, eMulW, eMod, eDiv, ePow, eLt, eLe, eGt, eGe, eEq, eNe, eIxL, eIxT, eLen, eMax2, eMin2, eAll, eAny, eSum, eIsTy, R.bindD_ok, gI, R.bindD_ok, R.bindD_exc, R.bind_ok, R.bind_exc, R.bind_bad, R.of, R.flow, evV, evD, dat, pull, push, callOn, left, begun, List.length_cons, List.length_nil, List.getElem?_cons_zero, List.getElem?_cons_succ, List.set_cons_zero, List.set_cons_succ, if_true, if_false, ite_t, ite_f, Nat.reduceAdd, Nat.reduceLT, Nat.reduceSub, Nat.reduceEqDiff, Nat.reduceLeDiff, List.map_cons, List.map_nil, List.replicate, List.append_nil, List.nil_append, List.cons_append, and_self, true_and, and_true, Bool.not_true, Bool.not_false, Bool.false_eq_true, reduceIte, Nat.zero_add, Nat.lt_add_left_iff_pos, if_pos hp, lc, g, decide_eq_true c]
      rfl
    · have eq : outA one (p :: suf) l = outA one suf (l + p.1 * p.2) := by rw [outA.eq_2, if_neg c]
      obtain ⟨a2, a3, a4, a5, a6, e⟩ := ih (l + p.1 * p.2) (some (.d (.int p.1))) (some (.d (.int p.2))) none none fun q hq => h q (by simp [hq])
      rw [eq]
      refine ⟨a2, a3, a4, a5, a6, (loop_nx (ρ1 := [some (.d (pl one)), some (.d b), some (.d (.int l)), some (.d (.int p.1)), some (.d (.int p.2)), u5, u6]) rfl ?_).trans e⟩
      rw [bb]
      simp only [eV_ev, eC_ev, eOp_ev, eUn_ev, eIsN_ev, eNotN_ev, aNil_ev, aCons_ev, aM_ev, eTup_ev, eLst_ev, eLstM_ev, eCall_ev, eCB_ev, tV_ev, tV'_ev, tAnd'_ev, tOr'_ev, tNot'_ev, eAndV_ev, eOrV_ev, eNotV_ev, eIf_ev, sNil_sv, sSeq_sv, sAsg_sv, sIf_sv, sRet_sv, sDrop_sv, sSetL_sv, sApp_sv, eIxM_ev, eLenM_ev, iT_ev, iL_ev, iR1_ev, iR2_ev, gN_put, gs0_put, gs1_put, gT_put, sAsgG_sv, tYes'_ev, eIs_ev, sRaise_sv, sTry_sv, sNever_sv, sPar_sv, o0_ev, o1_ev, eSlT_ev, sSetD_sv, eIxD_ev, eGetD_ev, eSortD_ev, eDict_ev, eNegC_ev, eRevT_ev, eOrD_ev, eRepM_ev, sAugI_sv, iItemsD_ev, iZip_ev, sRaiseF_sv, eIsX_ev, eFldX_ev, eCatM_ev, eSortIt_ev, sAugAdd, sAugSub, eIntOf, eRep01, eStrOf, eTupOf, eLstOf, eCatT, eInt, eStr, eBl, eNon, eAdd, eSub, eMul, eMulW, eMod, eDiv, ePow, eLt, eLe, eGt, eGe, eEq, eNe, eIxL, eIxT, eLen, eMax2, eMin2, eAll, eAny, eSum, eIsTy, R.bindD_ok, gI, R.bindD_ok, R.bindD_exc, R.bind_ok, R.bind_exc, R.bind_bad, R.of, R.flow, evV, evD, dat, pull, push, callOn, left, begun, List.length_cons, List.length_nil, List.getElem?_cons_zero, List.getElem?_cons_succ, List.set_cons_zero, List.set_cons_succ, if_true, if_false, ite_t, ite_f, Nat.reduceAdd, Nat.reduceLT, Nat.reduceSub, Nat.reduceEqDiff, Nat.reduceLeDiff, List.map_cons, List.map_nil, List.replicate, List.append_nil, List.nil_append, List.cons_append, and_self, true_and, and_true, Bool.not_true, Bool.not_false, Bool.false_eq_true, reduceIte, Nat.zero_add, Nat.lt_add_left_iff_pos, if_pos hp, lc, g, decide_eq_false c]
theorem v_out (T : Tx K κ mg) {one other : List (Int × Int)} (h1 : Pil one) (h2 : Pil other) : f__outdone_at T [.d (pl one), .d (pl other)] = .ok (.d (outD (outA one other 0))) [.d (pl one), .d (pl other)] := by
  obtain ⟨a2, a3, a4, a5, a6, e⟩ := out_loop (K := K) (κ := κ) h1 (pl other) other 0 none none none none h2.mul
  have f : (forOut (K := K) (κ := κ)).sv [some (.d (pl one)), some (.d (pl other)), some (.d (.int 0)), none, none, none, none] = _ := for_of (ρ1 := [some (.d (pl one)), some (.d (pl other)), some (.d (.int 0)), none, none, none, none]) (xs := other.map pr) rfl e
  have b : b__outdone_at T = sSeq (sAsg 2 (eInt 0)) (sSeq forOut (sSeq (sRet (eNon)) (sNil))) := rfl
  cases ho : outA one other 0 with
  | none =>
    rw [ho] at f
    refine fn_rt (ρ := [some (.d (pl one)), some (.d (pl other)), a2, a3, a4, a5, a6]) ?_ rfl
    rw [b]
    refine seq_nx (ρ' := [some (.d (pl one)), some (.d (pl other)), some (.d (.int 0)), none, none, none, none]) (by simp only [eV_ev, eC_ev, eOp_ev, eUn_ev, eIsN_ev, eNotN_ev, aNil_ev, aCons_ev, aM_ev, eTup_ev, eLst_ev, eLstM_ev, eCall_ev, eCB_ev, tV_ev, tV'_ev, tAnd'_ev, tOr'_ev, tNot'_ev, eAndV_ev, eOrV_ev, eNotV_ev, eIf_ev, sNil_sv, sSeq_sv, sAsg_sv, sIf_sv, sRet_sv, sDrop_sv, sSetL_sv, sApp_sv, eIxM_ev, eLenM_ev, iT_ev, iL_ev, iR1_ev, iR2_ev, gN_put, gs0_put, gs1_put, gT_put, sAsgG_sv, tYes'_ev, eIs_ev, sRaise_sv, sTry_sv, sNever_sv, sPar_sv, o0_ev, o1_ev, eSlT_ev, sSetD_sv, eIxD_ev, eGetD_ev, eSortD_ev, eDict_ev, eNegC_ev, eRevT_ev, eOrD_ev, eRepM_ev, sAugI_sv, iItemsD_ev, iZip_ev, sRaiseF_sv, eIsX_ev, eFldX_ev, eCatM_ev, eSortIt_ev, sAugAdd, sAugSub, eIntOf, eRep01, eStrOf, eTupOf, eLstOf, eCatT, eInt, eStr, eBl, eNon, eAdd, eSub, eMul, eMulW, eMod, eDiv, ePow, eLt, eLe, eGt, eGe, eEq, eNe, eIxL, eIxT, eLen, eMax2, eMin2, eAll, eAny, eSum, eIsTy, R.bindD_ok, gI, R.bindD_ok, R.bindD_exc, R.bind_ok, R.bind_exc, R.bind_bad, R.of, R.flow, evV, evD, dat, pull, push, callOn, left, begun, List.length_cons, List.length_nil, List.getElem?_cons_zero, List.getElem?_cons_succ, List.set_cons_zero, List.set_cons_succ, if_true, if_false, ite_t, ite_f, Nat.reduceAdd, Nat.reduceLT, Nat.reduceSub, Nat.reduceEqDiff, Nat.reduceLeDiff, List.map_cons, List.map_nil, List.replicate, List.append_nil, List.nil_append, List.cons_append, and_self, true_and, and_true, Bool.not_true, Bool.not_false, Bool.false_eq_true, reduceIte, Nat.zero_add, Nat.lt_add_left_iff_pos]) ?_
    refine seq_nx f ?_
    exact seq_rt (by simp only [eV_ev, eC_ev, eOp_ev, eUn_ev, eIsN_ev, eNotN_ev, aNil_ev, aCons_ev, aM_ev, eTup_ev, eLst_ev, eLstM_ev, eCall_ev, eCB_ev, tV_ev, tV'_ev, tAnd'_ev, tOr'_ev, tNot'_ev, eAndV_ev, eOrV_ev, eNotV_ev, eIf_ev, sNil_sv, sSeq_sv, sAsg_sv, sIf_sv, sRet_sv, sDrop_sv, sSetL_sv, sApp_sv, eIxM_ev, eLenM_ev, iT_ev, iL_ev, iR1_ev, iR2_ev, gN_put, gs0_put, gs1_put, gT_put, sAsgG_sv, tYes'_ev, eIs_ev, sRaise_sv, sTry_sv, sNever_sv, sPar_sv, o0_ev, o1_ev, eSlT_ev, sSetD_sv, eIxD_ev, eGetD_ev, eSortD_ev, eDict_ev, eNegC_ev, eRevT_ev, eOrD_ev, eRepM_ev, sAugI_sv, iItemsD_ev, iZip_ev, sRaiseF_sv, eIsX_ev, eFldX_ev, eCatM_ev, eSortIt_ev, sAugAdd, sAugSub, eIntOf, eRep01, eStrOf, eTupOf, eLstOf, eCatT, eInt, eStr, eBl, eNon, eAdd, eSub, eMul, eMulW, eMod, eDiv, ePow, eLt, eLe, eGt, eGe, eEq, eNe, eIxL, eIxT, eLen, eMax2, eMin2, eAll, eAny, eSum, eIsTy, R.bindD_ok, gI, R.bindD_ok, R.bindD_exc, R.bind_ok, R.bind_exc, R.bind_bad, R.of, R.flow, evV, evD, dat, pull, push, callOn, left, begun, List.length_cons, List.length_nil, List.getElem?_cons_zero, List.getElem?_cons_succ, List.set_cons_zero, List.set_cons_succ, if_true, if_false, ite_t, ite_f, Nat.reduceAdd, Nat.reduceLT, Nat.reduceSub, Nat.reduceEqDiff, Nat.reduceLeDiff, List.map_cons, List.map_nil, List.replicate, List.append_nil, List.nil_append, List.cons_append, and_self, true_and, and_true, Bool.not_true, Bool.not_false, Bool.false_eq_true, reduceIte, Nat.zero_add, Nat.lt_add_left_iff_pos]; rfl)
  | some q =>
    rw [ho] at f
    refine fn_rt (ρ := [some (.d (pl one)), some (.d (pl other)), a2, a3, a4, a5, a6]) ?_ rfl
    rw [b]
    refine seq_nx (ρ' := [some (.d (pl one)), some (.d (pl other)), some (.d (.int 0)), none, none, none, none]) (by simp only [eV_ev, eC_ev, eOp_ev, eUn_ev, eIsN_ev, eNotN_ev, aNil_ev, aCons_ev, aM_ev, eTup_ev, eLst_ev, eLstM_ev, eCall_ev, eCB_ev, tV_ev, tV'_ev, tAnd'_ev, tOr'_ev, tNot'_ev, eAndV_ev, eOrV_ev, eNotV_ev, eIf_ev, sNil_sv, sSeq_sv, sAsg_sv, sIf_sv, sRet_sv, sDrop_sv, sSetL_sv, sApp_sv, eIxM_ev, eLenM_ev, iT_ev, iL_ev, iR1_ev, iR2_ev, gN_put, gs0_put, gs1_put, gT_put, sAsgG_sv, tYes'_ev, eIs_ev, sRaise_sv, sTry_sv, sNever_sv, sPar_sv, o0_ev, o1_ev, eSlT_ev, sSetD_sv, eIxD_ev, eGetD_ev, eSortD_ev, eDict_ev, eNegC_ev, eRevT_ev, eOrD_ev, eRepM_ev, sAugI_sv, iItemsD_ev, iZip_ev, sRaiseF_sv, eIsX_ev, eFldX_ev, eCatM_ev, eSortIt_ev, sAugAdd, sAugSub, eIntOf, eRep01, eStrOf, eTupOf, eLstOf, eCatT, eInt, eStr, eBl, eNon, eAdd, eSub, eMul, eMulW, eMod, eDiv, ePow, eLt, eLe, eGt, eGe, eEq, eNe, eIxL, eIxT, eLen, eMax2, eMin2, eAll, eAny, eSum, eIsTy, R.bindD_ok, gI, R.bindD_ok, R.bindD_exc, R.bind_ok, R.bind_exc, R.bind_bad, R.of, R.flow, evV, evD, dat, pull, push, callOn, left, begun, List.length_cons, List.length_nil, List.getElem?_cons_zero, List.getElem?_cons_succ, List.set_cons_zero, List.set_cons_succ, if_true, if_false, ite_t, ite_f, Nat.reduceAdd, Nat.reduceLT, Nat.reduceSub, Nat.reduceEqDiff, Nat.reduceLeDiff, List.map_cons, List.map_nil, List.replicate, List.append_nil, List.nil_append, List.cons_append, and_self, true_and, and_true, Bool.not_true, Bool.not_false, Bool.false_eq_true, reduceIte, Nat.zero_add, Nat.lt_add_left_iff_pos]) ?_
    exact seq_rt f
def isnO : Option (Int × Int) → Bool
  | none => true
  | some _ => false
theorem isn_out (o : Option (Int × Int)) : D.isN (outD o) = isnO o := by cases o <;> rfl
theorem v_outdoes (T : Tx K κ mg) {one other : List (Int × Int)} (h1 : Pil one) (h2 : Pil other) : f_outdoes T [.d (pl one), .d (pl other)] = .ok (.d (.bl (dueB one other))) [.d (pl one), .d (pl other)] := by
  have k1 := chk_up T h1.up
  have k2 := chk_up T h2.up
  have o := v_out T h1 h2
  have du : isnO (outA one other 0) = dueB one other := by
    have := due_iff h1.up h2.up
    cases h : outA one other 0 with
    | none => rw [h] at this; rw [this.mpr rfl]; rfl
    | some q =>
      rw [h] at this
      cases hb : dueB one other with
      | false => rfl
      | true => rw [hb] at this; cases this.mp rfl
  have iso := isn_out (outA one other 0)
  rw [du] at iso
  refine fn_rt (ρ := [some (.d (pl one)), some (.d (pl other))]) ?_ rfl
  unfold b_outdoes
  refine seq_nx (ρ' := [some (.d (pl one)), some (.d (pl other))]) (by simp only [eV_ev, eC_ev, eOp_ev, eUn_ev, eIsN_ev, eNotN_ev, aNil_ev, aCons_ev, aM_ev, eTup_ev, eLst_ev, eLstM_ev, eCall_ev, eCB_ev, tV_ev, tV'_ev, tAnd'_ev, tOr'_ev, tNot'_ev, eAndV_ev, eOrV_ev, eNotV_ev, eIf_ev, sNil_sv, sSeq_sv, sAsg_sv, sIf_sv, sRet_sv, sDrop_sv, sSetL_sv, sApp_sv, eIxM_ev, eLenM_ev, iT_ev, iL_ev, iR1_ev, iR2_ev, gN_put, gs0_put, gs1_put, gT_put, sAsgG_sv, tYes'_ev, eIs_ev, sRaise_sv, sTry_sv, sNever_sv, sPar_sv, o0_ev, o1_ev, eSlT_ev, sSetD_sv, eIxD_ev, eGetD_ev, eSortD_ev, eDict_ev, eNegC_ev, eRevT_ev, eOrD_ev, eRepM_ev, sAugI_sv, iItemsD_ev, iZip_ev, sRaiseF_sv, eIsX_ev, eFldX_ev, eCatM_ev, eSortIt_ev, sAugAdd, sAugSub, eIntOf, eRep01, eStrOf, eTupOf, eLstOf, eCatT, eInt, eStr, eBl, eNon, eAdd, eSub, eMul, eMulW, eMod, eDiv, ePow, eLt, eLe, eGt, eGe, eEq, eNe, eIxL, eIxT, eLen, eMax2, eMin2, eAll, eAny, eSum, eIsTy, R.bindD_ok, gI, R.bindD_ok, R.bindD_exc, R.bind_ok, R.bind_exc, R.bind_bad, R.of, R.flow, evV, evD, dat, pull, push, callOn, left, begun, List.length_cons, List.length_nil, List.getElem?_cons_zero, List.getElem?_cons_succ, List.set_cons_zero, List.set_cons_succ, if_true, if_false, ite_t, ite_f, Nat.reduceAdd, Nat.reduceLT, Nat.reduceSub, Nat.reduceEqDiff, Nat.reduceLeDiff, List.map_cons, List.map_nil, List.replicate, List.append_nil, List.nil_append, List.cons_append, and_self, true_and, and_true, Bool.not_true, Bool.not_false, Bool.false_eq_true, reduceIte, Nat.zero_add, Nat.lt_add_left_iff_pos, k1]) ?_
  refine seq_nx (ρ' := [some (.d (pl one)), some (.d (pl other))]) (by simp only [eV_ev, eC_ev, eOp_ev, eUn_ev, eIsN_ev, eNotN_ev, aNil_ev, aCons_ev, aM_ev, eTup_ev, eLst_ev, eLstM_ev, eCall_ev, eCB_ev, tV_ev, tV'_ev, tAnd'_ev, tOr'_ev, tNot'_ev, eAndV_ev, eOrV_ev, eNotV_ev, eIf_ev, sNil_sv, sSeq_sv, sAsg_sv, sIf_sv, sRet_sv, sDrop_sv, sSetL_sv, sApp_sv, eIxM_ev, eLenM_ev, iT_ev, iL_ev, iR1_ev, iR2_ev, gN_put, gs0_put, gs1_put, gT_put, sAsgG_sv, tYes'_ev, eIs_ev, sRaise_sv, sTry_sv, sNever_sv, sPar_sv, o0_ev, o1_ev, eSlT_ev, sSetD_sv, eIxD_ev, eGetD_ev, eSortD_ev, eDict_ev, eNegC_ev, eRevT_ev, eOrD_ev, eRepM_ev, sAugI_sv, iItemsD_ev, iZip_ev, sRaiseF_sv, eIsX_ev, eFldX_ev, eCatM_ev, eSortIt_ev, sAugAdd, sAugSub, eIntOf, eRep01, eStrOf, eTupOf, eLstOf, eCatT, eInt, eStr, eBl, eNon, eAdd, eSub, eMul, eMulW, eMod, eDiv, ePow, eLt, eLe, eGt, eGe, eEq, eNe, eIxL, eIxT, eLen, eMax2, eMin2, eAll, eAny, eSum, eIsTy, R.bindD_ok, gI, R.bindD_ok, R.bindD_exc, R.bind_ok, R.bind_exc, R.bind_bad, R.of, R.flow, evV, evD, dat, pull, push, callOn, left, begun, List.length_cons, List.length_nil, List.getElem?_cons_zero, List.getElem?_cons_succ, List.set_cons_zero, List.set_cons_succ, if_true, if_false, ite_t, ite_f, Nat.reduceAdd, Nat.reduceLT, Nat.reduceSub, Nat.reduceEqDiff, Nat.reduceLeDiff, List.map_cons, List.map_nil, List.replicate, List.append_nil, List.nil_append, List.cons_append, and_self, true_and, and_true, Bool.not_true, Bool.not_false, Bool.false_eq_true, reduceIte, Nat.zero_add, Nat.lt_add_left_iff_pos, k2]) ?_
  exact seq_rt (by simp only [eV_ev, eC_ev, eOp_ev, eUn_ev, eIsN_ev, eNotN_ev, aNil_ev, aCons_ev, aM_ev, eTup_ev, eLst_ev, eLstM_ev, eCall_ev, eCB_ev, tV_ev, tV'_ev, tAnd'_ev, tOr'_ev, tNot'_ev, eAndV_ev, eOrV_ev, eNotV_ev, eIf_ev, sNil_sv, sSeq_sv, sAsg_sv, sIf_sv, sRet_sv, sDrop_sv, sSetL_sv, sApp_sv, eIxM_ev, eLenM_ev, iT_ev, iL_ev, iR1_ev, iR2_ev, gN_put, gs0_put, gs1_put, gT_put, sAsgG_sv, tYes'_ev, eIs_ev, sRaise_sv, sTry_sv, sNever_sv, sPar_sv, o0_ev, o1_ev, eSlT_ev, sSetD_sv, eIxD_ev, eGetD_ev, eSortD_ev, eDict_ev, eNegC_ev, eRevT_ev, eOrD_ev, eRepM_ev, sAugI_sv, iItemsD_ev, iZip_ev, sRaiseF_sv, eIsX_ev, eFldX_ev, eCatM_ev, eSortIt_ev, sAugAdd, sAugSub, eIntOf, eRep01, eStrOf, eTupOf, eLstOf, eCatT, eInt, eStr, eBl, eNon, eAdd, eSub, eMul, eMulW, eMod, eDiv, ePow, eLt, eLe, eGt, eGe, eEq, eNe, eIxL, eIxT, eLen, eMax2, eMin2, eAll, eAny, eSum, eIsTy, R.bindD_ok, gI, R.bindD_ok, R.bindD_exc, R.bind_ok, R.bind_exc, R.bind_bad, R.of, R.flow, evV, evD, dat, pull, push, callOn, left, begun, List.length_cons, List.length_nil, List.getElem?_cons_zero, List.getElem?_cons_succ, List.set_cons_zero, List.set_cons_succ, if_true, if_false, ite_t, ite_f, Nat.reduceAdd, Nat.reduceLT, Nat.reduceSub, Nat.reduceEqDiff, Nat.reduceLeDiff, List.map_cons, List.map_nil, List.replicate, List.append_nil, List.nil_append, List.cons_append, and_self, true_and, and_true, Bool.not_true, Bool.not_false, Bool.false_eq_true, reduceIte, Nat.zero_add, Nat.lt_add_left_iff_pos, o, iso])
/-! the company -/
def rightD (w l : Int) : D := .tup [.str "call", .str "a", .int (w - 1), .int l]
def tellD : Option (Int × Int) → D
  | none => .non
  | some q => .tup [pl (comp q.1 q.2), rightD q.1 q.2]
theorem v_telling (T : Tx K κ mg) {one other : List (Int × Int)} (h1 : Pil one) (h2 : Pil other) (s1 : sumP one ≤ 200) (s2 : sumP other ≤ 200) : f_telling_company T [.d (pl one), .d (pl other)] = .ok (.d (tellD (outA one other 0))) [.d (pl one), .d (pl other)] := by
  have k1 := chk_up T h1.up
  have k2 := chk_up T h2.up
  have m1 := v_small T h1 s1
  have m2 := v_small T h2 s2
  have o := v_out T h1 h2
  have iso := isn_out (outA one other 0)
  cases ho : outA one other 0 with
  | none =>
    rw [ho] at o iso
    refine fn_rt (ρ := [some (.d (pl one)), some (.d (pl other)), some (.d (outD none)), none, none, none, none]) ?_ rfl
    unfold b_telling_company
    refine seq_nx (ρ' := [some (.d (pl one)), some (.d (pl other)), none, none, none, none, none]) (by simp only [eV_ev, eC_ev, eOp_ev, eUn_ev, eIsN_ev, eNotN_ev, aNil_ev, aCons_ev, aM_ev, eTup_ev, eLst_ev, eLstM_ev, eCall_ev, eCB_ev, tV_ev, tV'_ev, tAnd'_ev, tOr'_ev, tNot'_ev, eAndV_ev, eOrV_ev, eNotV_ev, eIf_ev, sNil_sv, sSeq_sv, sAsg_sv, sIf_sv, sRet_sv, sDrop_sv, sSetL_sv, sApp_sv, eIxM_ev, eLenM_ev, iT_ev, iL_ev, iR1_ev, iR2_ev, gN_put, gs0_put, gs1_put, gT_put, sAsgG_sv, tYes'_ev, eIs_ev, sRaise_sv, sTry_sv, sNever_sv, sPar_sv, o0_ev, o1_ev, eSlT_ev, sSetD_sv, eIxD_ev, eGetD_ev, eSortD_ev, eDict_ev, eNegC_ev, eRevT_ev, eOrD_ev, eRepM_ev, sAugI_sv, iItemsD_ev, iZip_ev, sRaiseF_sv, eIsX_ev, eFldX_ev, eCatM_ev, eSortIt_ev, sAugAdd, sAugSub, eIntOf, eRep01, eStrOf, eTupOf, eLstOf, eCatT, eInt, eStr, eBl, eNon, eAdd, eSub, eMul, eMulW, eMod, eDiv, ePow, eLt, eLe, eGt, eGe, eEq, eNe, eIxL, eIxT, eLen, eMax2, eMin2, eAll, eAny, eSum, eIsTy, R.bindD_ok, gI, R.bindD_ok, R.bindD_exc, R.bind_ok, R.bind_exc, R.bind_bad, R.of, R.flow, evV, evD, dat, pull, push, callOn, left, begun, List.length_cons, List.length_nil, List.getElem?_cons_zero, List.getElem?_cons_succ, List.set_cons_zero, List.set_cons_succ, if_true, if_false, ite_t, ite_f, Nat.reduceAdd, Nat.reduceLT, Nat.reduceSub, Nat.reduceEqDiff, Nat.reduceLeDiff, List.map_cons, List.map_nil, List.replicate, List.append_nil, List.nil_append, List.cons_append, and_self, true_and, and_true, Bool.not_true, Bool.not_false, Bool.false_eq_true, reduceIte, Nat.zero_add, Nat.lt_add_left_iff_pos, k1]) ?_
    refine seq_nx (ρ' := [some (.d (pl one)), some (.d (pl other)), none, none, none, none, none]) (by simp only [eV_ev, eC_ev, eOp_ev, eUn_ev, eIsN_ev, eNotN_ev, aNil_ev, aCons_ev, aM_ev, eTup_ev, eLst_ev, eLstM_ev, eCall_ev, eCB_ev, tV_ev, tV'_ev, tAnd'_ev, tOr'_ev, tNot'_ev, eAndV_ev, eOrV_ev, eNotV_ev, eIf_ev, sNil_sv, sSeq_sv, sAsg_sv, sIf_sv, sRet_sv, sDrop_sv, sSetL_sv, sApp_sv, eIxM_ev, eLenM_ev, iT_ev, iL_ev, iR1_ev, iR2_ev, gN_put, gs0_put, gs1_put, gT_put, sAsgG_sv, tYes'_ev, eIs_ev, sRaise_sv, sTry_sv, sNever_sv, sPar_sv, o0_ev, o1_ev, eSlT_ev, sSetD_sv, eIxD_ev, eGetD_ev, eSortD_ev, eDict_ev, eNegC_ev, eRevT_ev, eOrD_ev, eRepM_ev, sAugI_sv, iItemsD_ev, iZip_ev, sRaiseF_sv, eIsX_ev, eFldX_ev, eCatM_ev, eSortIt_ev, sAugAdd, sAugSub, eIntOf, eRep01, eStrOf, eTupOf, eLstOf, eCatT, eInt, eStr, eBl, eNon, eAdd, eSub, eMul, eMulW, eMod, eDiv, ePow, eLt, eLe, eGt, eGe, eEq, eNe, eIxL, eIxT, eLen, eMax2, eMin2, eAll, eAny, eSum, eIsTy, R.bindD_ok, gI, R.bindD_ok, R.bindD_exc, R.bind_ok, R.bind_exc, R.bind_bad, R.of, R.flow, evV, evD, dat, pull, push, callOn, left, begun, List.length_cons, List.length_nil, List.getElem?_cons_zero, List.getElem?_cons_succ, List.set_cons_zero, List.set_cons_succ, if_true, if_false, ite_t, ite_f, Nat.reduceAdd, Nat.reduceLT, Nat.reduceSub, Nat.reduceEqDiff, Nat.reduceLeDiff, List.map_cons, List.map_nil, List.replicate, List.append_nil, List.nil_append, List.cons_append, and_self, true_and, and_true, Bool.not_true, Bool.not_false, Bool.false_eq_true, reduceIte, Nat.zero_add, Nat.lt_add_left_iff_pos, k2]) ?_
    refine seq_nx (ρ' := [some (.d (pl one)), some (.d (pl other)), none, none, none, none, none]) (by simp only [eV_ev, eC_ev, eOp_ev, eUn_ev, eIsN_ev, eNotN_ev, aNil_ev, aCons_ev, aM_ev, eTup_ev, eLst_ev, eLstM_ev, eCall_ev, eCB_ev, tV_ev, tV'_ev, tAnd'_ev, tOr'_ev, tNot'_ev, eAndV_ev, eOrV_ev, eNotV_ev, eIf_ev, sNil_sv, sSeq_sv, sAsg_sv, sIf_sv, sRet_sv, sDrop_sv, sSetL_sv, sApp_sv, eIxM_ev, eLenM_ev, iT_ev, iL_ev, iR1_ev, iR2_ev, gN_put, gs0_put, gs1_put, gT_put, sAsgG_sv, tYes'_ev, eIs_ev, sRaise_sv, sTry_sv, sNever_sv, sPar_sv, o0_ev, o1_ev, eSlT_ev, sSetD_sv, eIxD_ev, eGetD_ev, eSortD_ev, eDict_ev, eNegC_ev, eRevT_ev, eOrD_ev, eRepM_ev, sAugI_sv, iItemsD_ev, iZip_ev, sRaiseF_sv, eIsX_ev, eFldX_ev, eCatM_ev, eSortIt_ev, sAugAdd, sAugSub, eIntOf, eRep01, eStrOf, eTupOf, eLstOf, eCatT, eInt, eStr, eBl, eNon, eAdd, eSub, eMul, eMulW, eMod, eDiv, ePow, eLt, eLe, eGt, eGe, eEq, eNe, eIxL, eIxT, eLen, eMax2, eMin2, eAll, eAny, eSum, eIsTy, R.bindD_ok, gI, R.bindD_ok, R.bindD_exc, R.bind_ok, R.bind_exc, R.bind_bad, R.of, R.flow, evV, evD, dat, pull, push, callOn, left, begun, List.length_cons, List.length_nil, List.getElem?_cons_zero, List.getElem?_cons_succ, List.set_cons_zero, List.set_cons_succ, if_true, if_false, ite_t, ite_f, Nat.reduceAdd, Nat.reduceLT, Nat.reduceSub, Nat.reduceEqDiff, Nat.reduceLeDiff, List.map_cons, List.map_nil, List.replicate, List.append_nil, List.nil_append, List.cons_append, and_self, true_and, and_true, Bool.not_true, Bool.not_false, Bool.false_eq_true, reduceIte, Nat.zero_add, Nat.lt_add_left_iff_pos, m1]) ?_
    refine seq_nx (ρ' := [some (.d (pl one)), some (.d (pl other)), none, none, none, none, none]) (by simp only [eV_ev, eC_ev, eOp_ev, eUn_ev, eIsN_ev, eNotN_ev, aNil_ev, aCons_ev, aM_ev, eTup_ev, eLst_ev, eLstM_ev, eCall_ev, eCB_ev, tV_ev, tV'_ev, tAnd'_ev, tOr'_ev, tNot'_ev, eAndV_ev, eOrV_ev, eNotV_ev, eIf_ev, sNil_sv, sSeq_sv, sAsg_sv, sIf_sv, sRet_sv, sDrop_sv, sSetL_sv, sApp_sv, eIxM_ev, eLenM_ev, iT_ev, iL_ev, iR1_ev, iR2_ev, gN_put, gs0_put, gs1_put, gT_put, sAsgG_sv, tYes'_ev, eIs_ev, sRaise_sv, sTry_sv, sNever_sv, sPar_sv, o0_ev, o1_ev, eSlT_ev, sSetD_sv, eIxD_ev, eGetD_ev, eSortD_ev, eDict_ev, eNegC_ev, eRevT_ev, eOrD_ev, eRepM_ev, sAugI_sv, iItemsD_ev, iZip_ev, sRaiseF_sv, eIsX_ev, eFldX_ev, eCatM_ev, eSortIt_ev, sAugAdd, sAugSub, eIntOf, eRep01, eStrOf, eTupOf, eLstOf, eCatT, eInt, eStr, eBl, eNon, eAdd, eSub, eMul, eMulW, eMod, eDiv, ePow, eLt, eLe, eGt, eGe, eEq, eNe, eIxL, eIxT, eLen, eMax2, eMin2, eAll, eAny, eSum, eIsTy, R.bindD_ok, gI, R.bindD_ok, R.bindD_exc, R.bind_ok, R.bind_exc, R.bind_bad, R.of, R.flow, evV, evD, dat, pull, push, callOn, left, begun, List.length_cons, List.length_nil, List.getElem?_cons_zero, List.getElem?_cons_succ, List.set_cons_zero, List.set_cons_succ, if_true, if_false, ite_t, ite_f, Nat.reduceAdd, Nat.reduceLT, Nat.reduceSub, Nat.reduceEqDiff, Nat.reduceLeDiff, List.map_cons, List.map_nil, List.replicate, List.append_nil, List.nil_append, List.cons_append, and_self, true_and, and_true, Bool.not_true, Bool.not_false, Bool.false_eq_true, reduceIte, Nat.zero_add, Nat.lt_add_left_iff_pos, m2]) ?_
    refine seq_nx (ρ' := [some (.d (pl one)), some (.d (pl other)), some (.d (outD none)), none, none, none, none]) (by simp only [eV_ev, eC_ev, eOp_ev, eUn_ev, eIsN_ev, eNotN_ev, aNil_ev, aCons_ev, aM_ev, eTup_ev, eLst_ev, eLstM_ev, eCall_ev, eCB_ev, tV_ev, tV'_ev, tAnd'_ev, tOr'_ev, tNot'_ev, eAndV_ev, eOrV_ev, eNotV_ev, eIf_ev, sNil_sv, sSeq_sv, sAsg_sv, sIf_sv, sRet_sv, sDrop_sv, sSetL_sv, sApp_sv, eIxM_ev, eLenM_ev, iT_ev, iL_ev, iR1_ev, iR2_ev, gN_put, gs0_put, gs1_put, gT_put, sAsgG_sv, tYes'_ev, eIs_ev, sRaise_sv, sTry_sv, sNever_sv, sPar_sv, o0_ev, o1_ev, eSlT_ev, sSetD_sv, eIxD_ev, eGetD_ev, eSortD_ev, eDict_ev, eNegC_ev, eRevT_ev, eOrD_ev, eRepM_ev, sAugI_sv, iItemsD_ev, iZip_ev, sRaiseF_sv, eIsX_ev, eFldX_ev, eCatM_ev, eSortIt_ev, sAugAdd, sAugSub, eIntOf, eRep01, eStrOf, eTupOf, eLstOf, eCatT, eInt, eStr, eBl, eNon, eAdd, eSub, eMul, eMulW, eMod, eDiv, ePow, eLt, eLe, eGt, eGe, eEq, eNe, eIxL, eIxT, eLen, eMax2, eMin2, eAll, eAny, eSum, eIsTy, R.bindD_ok, gI, R.bindD_ok, R.bindD_exc, R.bind_ok, R.bind_exc, R.bind_bad, R.of, R.flow, evV, evD, dat, pull, push, callOn, left, begun, List.length_cons, List.length_nil, List.getElem?_cons_zero, List.getElem?_cons_succ, List.set_cons_zero, List.set_cons_succ, if_true, if_false, ite_t, ite_f, Nat.reduceAdd, Nat.reduceLT, Nat.reduceSub, Nat.reduceEqDiff, Nat.reduceLeDiff, List.map_cons, List.map_nil, List.replicate, List.append_nil, List.nil_append, List.cons_append, and_self, true_and, and_true, Bool.not_true, Bool.not_false, Bool.false_eq_true, reduceIte, Nat.zero_add, Nat.lt_add_left_iff_pos, o]) ?_
    exact seq_rt (by simp only [eV_ev, eC_ev, eOp_ev, eUn_ev, eIsN_ev, eNotN_ev, aNil_ev, aCons_ev, aM_ev, eTup_ev, eLst_ev, eLstM_ev, eCall_ev, eCB_ev, tV_ev, tV'_ev, tAnd'_ev, tOr'_ev, tNot'_ev, eAndV_ev, eOrV_ev, eNotV_ev, eIf_ev, sNil_sv, sSeq_sv, sAsg_sv, sIf_sv, sRet_sv, sDrop_sv, sSetL_sv, sApp_sv, eIxM_ev, eLenM_ev, iT_ev, iL_ev, iR1_ev, iR2_ev, gN_put, gs0_put, gs1_put, gT_put, sAsgG_sv, tYes'_ev, eIs_ev, sRaise_sv, sTry_sv, sNever_sv, sPar_sv, o0_ev, o1_ev, eSlT_ev, sSetD_sv, eIxD_ev, eGetD_ev, eSortD_ev, eDict_ev, eNegC_ev, eRevT_ev, eOrD_ev, eRepM_ev, sAugI_sv, iItemsD_ev, iZip_ev, sRaiseF_sv, eIsX_ev, eFldX_ev, eCatM_ev, eSortIt_ev, sAugAdd, sAugSub, eIntOf, eRep01, eStrOf, eTupOf, eLstOf, eCatT, eInt, eStr, eBl, eNon, eAdd, eSub, eMul, eMulW, eMod, eDiv, ePow, eLt, eLe, eGt, eGe, eEq, eNe, eIxL, eIxT, eLen, eMax2, eMin2, eAll, eAny, eSum, eIsTy, R.bindD_ok, gI, R.bindD_ok, R.bindD_exc, R.bind_ok, R.bind_exc, R.bind_bad, R.of, R.flow, evV, evD, dat, pull, push, callOn, left, begun, List.length_cons, List.length_nil, List.getElem?_cons_zero, List.getElem?_cons_succ, List.set_cons_zero, List.set_cons_succ, if_true, if_false, ite_t, ite_f, Nat.reduceAdd, Nat.reduceLT, Nat.reduceSub, Nat.reduceEqDiff, Nat.reduceLeDiff, List.map_cons, List.map_nil, List.replicate, List.append_nil, List.nil_append, List.cons_append, and_self, true_and, and_true, Bool.not_true, Bool.not_false, Bool.false_eq_true, reduceIte, Nat.zero_add, Nat.lt_add_left_iff_pos, iso, isnO]; rfl)
  | some q =>
    rw [ho] at o iso
    obtain ⟨e1, e2, p, hp, e3⟩ := out_some h2.up (w := q.1) (l := q.2) other [] rfl ho
    have u0 := und_nonneg (Int.le_refl 0) h1.up q.1
    have ul := und_le_sum (Int.le_refl 0) h2.up q.1
    have c : CMul q.2 (q.1 - 2) := cm (by omega) (by omega)
    refine fn_rt (ρ := [some (.d (pl one)), some (.d (pl other)), some (.d (outD (some q))), some (.d (.int q.1)), some (.d (.int q.2)), some (.d (.int (q.2 * (q.1 - 2)))), some (.d (pl (comp q.1 q.2)))]) ?_ rfl
    unfold b_telling_company
    refine seq_nx (ρ' := [some (.d (pl one)), some (.d (pl other)), none, none, none, none, none]) (by simp only [eV_ev, eC_ev, eOp_ev, eUn_ev, eIsN_ev, eNotN_ev, aNil_ev, aCons_ev, aM_ev, eTup_ev, eLst_ev, eLstM_ev, eCall_ev, eCB_ev, tV_ev, tV'_ev, tAnd'_ev, tOr'_ev, tNot'_ev, eAndV_ev, eOrV_ev, eNotV_ev, eIf_ev, sNil_sv, sSeq_sv, sAsg_sv, sIf_sv, sRet_sv, sDrop_sv, sSetL_sv, sApp_sv, eIxM_ev, eLenM_ev, iT_ev, iL_ev, iR1_ev, iR2_ev, gN_put, gs0_put, gs1_put, gT_put, sAsgG_sv, tYes'_ev, eIs_ev, sRaise_sv, sTry_sv, sNever_sv, sPar_sv, o0_ev, o1_ev, eSlT_ev, sSetD_sv, eIxD_ev, eGetD_ev, eSortD_ev, eDict_ev, eNegC_ev, eRevT_ev, eOrD_ev, eRepM_ev, sAugI_sv, iItemsD_ev, iZip_ev, sRaiseF_sv, eIsX_ev, eFldX_ev, eCatM_ev, eSortIt_ev, sAugAdd, sAugSub, eIntOf, eRep01, eStrOf, eTupOf, eLstOf, eCatT, eInt, eStr, eBl, eNon, eAdd, eSub, eMul, eMulW, eMod, eDiv, ePow, eLt, eLe, eGt, eGe, eEq, eNe, eIxL, eIxT, eLen, eMax2, eMin2, eAll, eAny, eSum, eIsTy, R.bindD_ok, gI, R.bindD_ok, R.bindD_exc, R.bind_ok, R.bind_exc, R.bind_bad, R.of, R.flow, evV, evD, dat, pull, push, callOn, left, begun, List.length_cons, List.length_nil, List.getElem?_cons_zero, List.getElem?_cons_succ, List.set_cons_zero, List.set_cons_succ, if_true, if_false, ite_t, ite_f, Nat.reduceAdd, Nat.reduceLT, Nat.reduceSub, Nat.reduceEqDiff, Nat.reduceLeDiff, List.map_cons, List.map_nil, List.replicate, List.append_nil, List.nil_append, List.cons_append, and_self, true_and, and_true, Bool.not_true, Bool.not_false, Bool.false_eq_true, reduceIte, Nat.zero_add, Nat.lt_add_left_iff_pos, k1]) ?_
    refine seq_nx (ρ' := [some (.d (pl one)), some (.d (pl other)), none, none, none, none, none]) (by simp only [eV_ev, eC_ev, eOp_ev, eUn_ev, eIsN_ev, eNotN_ev, aNil_ev, aCons_ev, aM_ev, eTup_ev, eLst_ev, eLstM_ev, eCall_ev, eCB_ev, tV_ev, tV'_ev, tAnd'_ev, tOr'_ev, tNot'_ev, eAndV_ev, eOrV_ev, eNotV_ev, eIf_ev, sNil_sv, sSeq_sv, sAsg_sv, sIf_sv, sRet_sv, sDrop_sv, sSetL_sv, sApp_sv, eIxM_ev, eLenM_ev, iT_ev, iL_ev, iR1_ev, iR2_ev, gN_put, gs0_put, gs1_put, gT_put, sAsgG_sv, tYes'_ev, eIs_ev, sRaise_sv, sTry_sv, sNever_sv, sPar_sv, o0_ev, o1_ev, eSlT_ev, sSetD_sv, eIxD_ev, eGetD_ev, eSortD_ev, eDict_ev, eNegC_ev, eRevT_ev, eOrD_ev, eRepM_ev, sAugI_sv, iItemsD_ev, iZip_ev, sRaiseF_sv, eIsX_ev, eFldX_ev, eCatM_ev, eSortIt_ev, sAugAdd, sAugSub, eIntOf, eRep01, eStrOf, eTupOf, eLstOf, eCatT, eInt, eStr, eBl, eNon, eAdd, eSub, eMul, eMulW, eMod, eDiv, ePow, eLt, eLe, eGt, eGe, eEq, eNe, eIxL, eIxT, eLen, eMax2, eMin2, eAll, eAny, eSum, eIsTy, R.bindD_ok, gI, R.bindD_ok, R.bindD_exc, R.bind_ok, R.bind_exc, R.bind_bad, R.of, R.flow, evV, evD, dat, pull, push, callOn, left, begun, List.length_cons, List.length_nil, List.getElem?_cons_zero, List.getElem?_cons_succ, List.set_cons_zero, List.set_cons_succ, if_true, if_false, ite_t, ite_f, Nat.reduceAdd, Nat.reduceLT, Nat.reduceSub, Nat.reduceEqDiff, Nat.reduceLeDiff, List.map_cons, List.map_nil, List.replicate, List.append_nil, List.nil_append, List.cons_append, and_self, true_and, and_true, Bool.not_true, Bool.not_false, Bool.false_eq_true, reduceIte, Nat.zero_add, Nat.lt_add_left_iff_pos, k2]) ?_
    refine seq_nx (ρ' := [some (.d (pl one)), some (.d (pl other)), none, none, none, none, none]) (by simp only [eV_ev, eC_ev, eOp_ev, eUn_ev, eIsN_ev, eNotN_ev, aNil_ev, aCons_ev, aM_ev, eTup_ev, eLst_ev, eLstM_ev, eCall_ev, eCB_ev, tV_ev, tV'_ev, tAnd'_ev, tOr'_ev, tNot'_ev, eAndV_ev, eOrV_ev, eNotV_ev, eIf_ev, sNil_sv, sSeq_sv, sAsg_sv, sIf_sv, sRet_sv, sDrop_sv, sSetL_sv, sApp_sv, eIxM_ev, eLenM_ev, iT_ev, iL_ev, iR1_ev, iR2_ev, gN_put, gs0_put, gs1_put, gT_put, sAsgG_sv, tYes'_ev, eIs_ev, sRaise_sv, sTry_sv, sNever_sv, sPar_sv, o0_ev, o1_ev, eSlT_ev, sSetD_sv, eIxD_ev, eGetD_ev, eSortD_ev, eDict_ev, eNegC_ev, eRevT_ev, eOrD_ev, eRepM_ev, sAugI_sv, iItemsD_ev, iZip_ev, sRaiseF_sv, eIsX_ev, eFldX_ev, eCatM_ev, eSortIt_ev, sAugAdd, sAugSub, eIntOf, eRep01, eStrOf, eTupOf, eLstOf, eCatT, eInt, eStr, eBl, eNon, eAdd, eSub, eMul, eMulW, eMod, eDiv, ePow, eLt, eLe, eGt, eGe, eEq, eNe, eIxL, eIxT, eLen, eMax2, eMin2, eAll, eAny, eSum, eIsTy, R.bindD_ok, gI, R.bindD_ok, R.bindD_exc, R.bind_ok, R.bind_exc, R.bind_bad, R.of, R.flow, evV, evD, dat, pull, push, callOn, left, begun, List.length_cons, List.length_nil, List.getElem?_cons_zero, List.getElem?_cons_succ, List.set_cons_zero, List.set_cons_succ, if_true, if_false, ite_t, ite_f, Nat.reduceAdd, Nat.reduceLT, Nat.reduceSub, Nat.reduceEqDiff, Nat.reduceLeDiff, List.map_cons, List.map_nil, List.replicate, List.append_nil, List.nil_append, List.cons_append, and_self, true_and, and_true, Bool.not_true, Bool.not_false, Bool.false_eq_true, reduceIte, Nat.zero_add, Nat.lt_add_left_iff_pos, m1]) ?_
    refine seq_nx (ρ' := [some (.d (pl one)), some (.d (pl other)), none, none, none, none, none]) (by simp only [eV_ev, eC_ev, eOp_ev, eUn_ev, eIsN_ev, eNotN_ev, aNil_ev, aCons_ev, aM_ev, eTup_ev, eLst_ev, eLstM_ev, eCall_ev, eCB_ev, tV_ev, tV'_ev, tAnd'_ev, tOr'_ev, tNot'_ev, eAndV_ev, eOrV_ev, eNotV_ev, eIf_ev, sNil_sv, sSeq_sv, sAsg_sv, sIf_sv, sRet_sv, sDrop_sv, sSetL_sv, sApp_sv, eIxM_ev, eLenM_ev, iT_ev, iL_ev, iR1_ev, iR2_ev, gN_put, gs0_put, gs1_put, gT_put, sAsgG_sv, tYes'_ev, eIs_ev, sRaise_sv, sTry_sv, sNever_sv, sPar_sv, o0_ev, o1_ev, eSlT_ev, sSetD_sv, eIxD_ev, eGetD_ev, eSortD_ev, eDict_ev, eNegC_ev, eRevT_ev, eOrD_ev, eRepM_ev, sAugI_sv, iItemsD_ev, iZip_ev, sRaiseF_sv, eIsX_ev, eFldX_ev, eCatM_ev, eSortIt_ev, sAugAdd, sAugSub, eIntOf, eRep01, eStrOf, eTupOf, eLstOf, eCatT, eInt, eStr, eBl, eNon, eAdd, eSub, eMul, eMulW, eMod, eDiv, ePow, eLt, eLe, eGt, eGe, eEq, eNe, eIxL, eIxT, eLen, eMax2, eMin2, eAll, eAny, eSum, eIsTy, R.bindD_ok, gI, R.bindD_ok, R.bindD_exc, R.bind_ok, R.bind_exc, R.bind_bad, R.of, R.flow, evV, evD, dat, pull, push, callOn, left, begun, List.length_cons, List.length_nil, List.getElem?_cons_zero, List.getElem?_cons_succ, List.set_cons_zero, List.set_cons_succ, if_true, if_false, ite_t, ite_f, Nat.reduceAdd, Nat.reduceLT, Nat.reduceSub, Nat.reduceEqDiff, Nat.reduceLeDiff, List.map_cons, List.map_nil, List.replicate, List.append_nil, List.nil_append, List.cons_append, and_self, true_and, and_true, Bool.not_true, Bool.not_false, Bool.false_eq_true, reduceIte, Nat.zero_add, Nat.lt_add_left_iff_pos, m2]) ?_
    refine seq_nx (ρ' := [some (.d (pl one)), some (.d (pl other)), some (.d (outD (some q))), none, none, none, none]) (by simp only [eV_ev, eC_ev, eOp_ev, eUn_ev, eIsN_ev, eNotN_ev, aNil_ev, aCons_ev, aM_ev, eTup_ev, eLst_ev, eLstM_ev, eCall_ev, eCB_ev, tV_ev, tV'_ev, tAnd'_ev, tOr'_ev, tNot'_ev, eAndV_ev, eOrV_ev, eNotV_ev, eIf_ev, sNil_sv, sSeq_sv, sAsg_sv, sIf_sv, sRet_sv, sDrop_sv, sSetL_sv, sApp_sv, eIxM_ev, eLenM_ev, iT_ev, iL_ev, iR1_ev, iR2_ev, gN_put, gs0_put, gs1_put, gT_put, sAsgG_sv, tYes'_ev, eIs_ev, sRaise_sv, sTry_sv, sNever_sv, sPar_sv, o0_ev, o1_ev, eSlT_ev, sSetD_sv, eIxD_ev, eGetD_ev, eSortD_ev, eDict_ev, eNegC_ev, eRevT_ev, eOrD_ev, eRepM_ev, sAugI_sv, iItemsD_ev, iZip_ev, sRaiseF_sv, eIsX_ev, eFldX_ev, eCatM_ev, eSortIt_ev, sAugAdd, sAugSub, eIntOf, eRep01, eStrOf, eTupOf, eLstOf, eCatT, eInt, eStr, eBl, eNon, eAdd, eSub, eMul, eMulW, eMod, eDiv, ePow, eLt, eLe, eGt, eGe, eEq, eNe, eIxL, eIxT, eLen, eMax2, eMin2, eAll, eAny, eSum, eIsTy, R.bindD_ok, gI, R.bindD_ok, R.bindD_exc, R.bind_ok, R.bind_exc, R.bind_bad, R.of, R.flow, evV, evD, dat, pull, push, callOn, left, begun, List.length_cons, List.length_nil, List.getElem?_cons_zero, List.getElem?_cons_succ, List.set_cons_zero, List.set_cons_succ, if_true, if_false, ite_t, ite_f, Nat.reduceAdd, Nat.reduceLT, Nat.reduceSub, Nat.reduceEqDiff, Nat.reduceLeDiff, List.map_cons, List.map_nil, List.replicate, List.append_nil, List.nil_append, List.cons_append, and_self, true_and, and_true, Bool.not_true, Bool.not_false, Bool.false_eq_true, reduceIte, Nat.zero_add, Nat.lt_add_left_iff_pos, o]) ?_
    refine seq_nx (ρ' := [some (.d (pl one)), some (.d (pl other)), some (.d (outD (some q))), none, none, none, none]) (by simp only [eV_ev, eC_ev, eOp_ev, eUn_ev, eIsN_ev, eNotN_ev, aNil_ev, aCons_ev, aM_ev, eTup_ev, eLst_ev, eLstM_ev, eCall_ev, eCB_ev, tV_ev, tV'_ev, tAnd'_ev, tOr'_ev, tNot'_ev, eAndV_ev, eOrV_ev, eNotV_ev, eIf_ev, sNil_sv, sSeq_sv, sAsg_sv, sIf_sv, sRet_sv, sDrop_sv, sSetL_sv, sApp_sv, eIxM_ev, eLenM_ev, iT_ev, iL_ev, iR1_ev, iR2_ev, gN_put, gs0_put, gs1_put, gT_put, sAsgG_sv, tYes'_ev, eIs_ev, sRaise_sv, sTry_sv, sNever_sv, sPar_sv, o0_ev, o1_ev, eSlT_ev, sSetD_sv, eIxD_ev, eGetD_ev, eSortD_ev, eDict_ev, eNegC_ev, eRevT_ev, eOrD_ev, eRepM_ev, sAugI_sv, iItemsD_ev, iZip_ev, sRaiseF_sv, eIsX_ev, eFldX_ev, eCatM_ev, eSortIt_ev, sAugAdd, sAugSub, eIntOf, eRep01, eStrOf, eTupOf, eLstOf, eCatT, eInt, eStr, eBl, eNon, eAdd, eSub, eMul, eMulW, eMod, eDiv, ePow, eLt, eLe, eGt, eGe, eEq, eNe, eIxL, eIxT, eLen, eMax2, eMin2, eAll, eAny, eSum, eIsTy, R.bindD_ok, gI, R.bindD_ok, R.bindD_exc, R.bind_ok, R.bind_exc, R.bind_bad, R.of, R.flow, evV, evD, dat, pull, push, callOn, left, begun, List.length_cons, List.length_nil, List.getElem?_cons_zero, List.getElem?_cons_succ, List.set_cons_zero, List.set_cons_succ, if_true, if_false, ite_t, ite_f, Nat.reduceAdd, Nat.reduceLT, Nat.reduceSub, Nat.reduceEqDiff, Nat.reduceLeDiff, List.map_cons, List.map_nil, List.replicate, List.append_nil, List.nil_append, List.cons_append, and_self, true_and, and_true, Bool.not_true, Bool.not_false, Bool.false_eq_true, reduceIte, Nat.zero_add, Nat.lt_add_left_iff_pos, iso, isnO]) ?_
    refine seq_nx (ρ' := [some (.d (pl one)), some (.d (pl other)), some (.d (outD (some q))), some (.d (.int q.1)), some (.d (.int q.2)), none, none]) rfl ?_
    refine seq_nx (ρ' := [some (.d (pl one)), some (.d (pl other)), some (.d (outD (some q))), some (.d (.int q.1)), some (.d (.int q.2)), some (.d (.int (q.2 * (q.1 - 2)))), none]) (by simp only [eV_ev, eC_ev, eOp_ev, eUn_ev, eIsN_ev, eNotN_ev, aNil_ev, aCons_ev, aM_ev, eTup_ev, eLst_ev, eLstM_ev, eCall_ev, eCB_ev, tV_ev, tV'_ev, tAnd'_ev, tOr'_ev, tNot'_ev, eAndV_ev, eOrV_ev, eNotV_ev, eIf_ev, sNil_sv, sSeq_sv, sAsg_sv, sIf_sv, sRet_sv, sDrop_sv, sSetL_sv, sApp_sv, eIxM_ev, eLenM_ev, iT_ev, iL_ev, iR1_ev, iR2_ev, gN_put, gs0_put, gs1_put, gT_put, sAsgG_sv, tYes'_ev, eIs_ev, sRaise_sv, sTry_sv, sNever_sv, sPar_sv, o0_ev, o1_ev, eSlT_ev, sSetD_sv, eIxD_ev, eGetD_ev, eSortD_ev, eDict_ev, eNegC_ev, eRevT_ev, eOrD_ev, eRepM_ev, sAugI_sv, iItemsD_ev, iZip_ev, sRaiseF_sv, eIsX_ev, eFldX_ev, eCatM_ev, eSortIt_ev, sAugAdd, sAugSub, eIntOf, eRep01, eStrOf, eTupOf, eLstOf, eCatT, eInt, eStr, eBl, eNon, eAdd, eSub, eMul, eMulW, eMod, eDiv, ePow, eLt, eLe, eGt, eGe, eEq, eNe, eIxL, eIxT, eLen, eMax2, eMin2, eAll, eAny, eSum, eIsTy, R.bindD_ok, gI, R.bindD_ok, R.bindD_exc, R.bind_ok, R.bind_exc, R.bind_bad, R.of, R.flow, evV, evD, dat, pull, push, callOn, left, begun, List.length_cons, List.length_nil, List.getElem?_cons_zero, List.getElem?_cons_succ, List.set_cons_zero, List.set_cons_succ, if_true, if_false, ite_t, ite_f, Nat.reduceAdd, Nat.reduceLT, Nat.reduceSub, Nat.reduceEqDiff, Nat.reduceLeDiff, List.map_cons, List.map_nil, List.replicate, List.append_nil, List.nil_append, List.cons_append, and_self, true_and, and_true, Bool.not_true, Bool.not_false, Bool.false_eq_true, reduceIte, Nat.zero_add, Nat.lt_add_left_iff_pos, if_pos c]) ?_
    refine seq_nx (ρ' := [some (.d (pl one)), some (.d (pl other)), some (.d (outD (some q))), some (.d (.int q.1)), some (.d (.int q.2)), some (.d (.int (q.2 * (q.1 - 2)))), some (.d (pl (comp q.1 q.2)))]) ?_ ?_
    · unfold comp
      by_cases z : 0 < q.2 * (q.1 - 2)
      · rw [if_pos z]
        simp only [eV_ev, eC_ev, eOp_ev, eUn_ev, eIsN_ev, eNotN_ev, aNil_ev, aCons_ev, aM_ev, eTup_ev, eLst_ev, eLstM_ev, eCall_ev, eCB_ev, tV_ev, tV'_ev, tAnd'_ev, tOr'_ev, tNot'_ev, eAndV_ev, eOrV_ev, eNotV_ev, eIf_ev, sNil_sv, sSeq_sv, sAsg_sv, sIf_sv, sRet_sv, sDrop_sv, sSetL_sv, sApp_sv, eIxM_ev, eLenM_ev, iT_ev, iL_ev, iR1_ev, iR2_ev, gN_put, gs0_put, gs1_put, gT_put, sAsgG_sv, tYes'_ev, eIs_ev, sRaise_sv, sTry_sv, sNever_sv, sPar_sv, o0_ev, o1_ev, eSlT_ev, sSetD_sv, eIxD_ev, eGetD_ev, eSortD_ev, eDict_ev, eNegC_ev, eRevT_ev, eOrD_ev, eRepM_ev, sAugI_sv, iItemsD_ev, iZip_ev, sRaiseF_sv, eIsX_ev, eFldX_ev, eCatM_ev, eSortIt_ev, sAugAdd, sAugSub, eIntOf, eRep01, eStrOf, eTupOf, eLstOf, eCatT, eInt, eStr, eBl, eNon, eAdd, eSub, eMul, eMulW, eMod, eDiv, ePow, eLt, eLe, eGt, eGe, eEq, eNe, eIxL, eIxT, eLen, eMax2, eMin2, eAll, eAny, eSum, eIsTy, R.bindD_ok, gI, R.bindD_ok, R.bindD_exc, R.bind_ok, R.bind_exc, R.bind_bad, R.of, R.flow, evV, evD, dat, pull, push, callOn, left, begun, List.length_cons, List.length_nil, List.getElem?_cons_zero, List.getElem?_cons_succ, List.set_cons_zero, List.set_cons_succ, if_true, if_false, ite_t, ite_f, Nat.reduceAdd, Nat.reduceLT, Nat.reduceSub, Nat.reduceEqDiff, Nat.reduceLeDiff, List.map_cons, List.map_nil, List.replicate, List.append_nil, List.nil_append, List.cons_append, and_self, true_and, and_true, Bool.not_true, Bool.not_false, Bool.false_eq_true, reduceIte, Nat.zero_add, Nat.lt_add_left_iff_pos, decide_eq_true z]
        rfl
      · rw [if_neg z]
        simp only [eV_ev, eC_ev, eOp_ev, eUn_ev, eIsN_ev, eNotN_ev, aNil_ev, aCons_ev, aM_ev, eTup_ev, eLst_ev, eLstM_ev, eCall_ev, eCB_ev, tV_ev, tV'_ev, tAnd'_ev, tOr'_ev, tNot'_ev, eAndV_ev, eOrV_ev, eNotV_ev, eIf_ev, sNil_sv, sSeq_sv, sAsg_sv, sIf_sv, sRet_sv, sDrop_sv, sSetL_sv, sApp_sv, eIxM_ev, eLenM_ev, iT_ev, iL_ev, iR1_ev, iR2_ev, gN_put, gs0_put, gs1_put, gT_put, sAsgG_sv, tYes'_ev, eIs_ev, sRaise_sv, sTry_sv, sNever_sv, sPar_sv, o0_ev, o1_ev, eSlT_ev, sSetD_sv, eIxD_ev, eGetD_ev, eSortD_ev, eDict_ev, eNegC_ev, eRevT_ev, eOrD_ev, eRepM_ev, sAugI_sv, iItemsD_ev, iZip_ev, sRaiseF_sv, eIsX_ev, eFldX_ev, eCatM_ev, eSortIt_ev, sAugAdd, sAugSub, eIntOf, eRep01, eStrOf, eTupOf, eLstOf, eCatT, eInt, eStr, eBl, eNon, eAdd, eSub, eMul, eMulW, eMod, eDiv, ePow, eLt, eLe, eGt, eGe, eEq, eNe, eIxL, eIxT, eLen, eMax2, eMin2, eAll, eAny, eSum, eIsTy, R.bindD_ok, gI, R.bindD_ok, R.bindD_exc, R.bind_ok, R.bind_exc, R.bind_bad, R.of, R.flow, evV, evD, dat, pull, push, callOn, left, begun, List.length_cons, List.length_nil, List.getElem?_cons_zero, List.getElem?_cons_succ, List.set_cons_zero, List.set_cons_succ, if_true, if_false, ite_t, ite_f, Nat.reduceAdd, Nat.reduceLT, Nat.reduceSub, Nat.reduceEqDiff, Nat.reduceLeDiff, List.map_cons, List.map_nil, List.replicate, List.append_nil, List.nil_append, List.cons_append, and_self, true_and, and_true, Bool.not_true, Bool.not_false, Bool.false_eq_true, reduceIte, Nat.zero_add, Nat.lt_add_left_iff_pos, decide_eq_false z]
        rfl
    · exact seq_rt (by simp only [eV_ev, eC_ev, eOp_ev, eUn_ev, eIsN_ev, eNotN_ev, aNil_ev, aCons_ev, aM_ev, eTup_ev, eLst_ev, eLstM_ev, eCall_ev, eCB_ev, tV_ev, tV'_ev, tAnd'_ev, tOr'_ev, tNot'_ev, eAndV_ev, eOrV_ev, eNotV_ev, eIf_ev, sNil_sv, sSeq_sv, sAsg_sv, sIf_sv, sRet_sv, sDrop_sv, sSetL_sv, sApp_sv, eIxM_ev, eLenM_ev, iT_ev, iL_ev, iR1_ev, iR2_ev, gN_put, gs0_put, gs1_put, gT_put, sAsgG_sv, tYes'_ev, eIs_ev, sRaise_sv, sTry_sv, sNever_sv, sPar_sv, o0_ev, o1_ev, eSlT_ev, sSetD_sv, eIxD_ev, eGetD_ev, eSortD_ev, eDict_ev, eNegC_ev, eRevT_ev, eOrD_ev, eRepM_ev, sAugI_sv, iItemsD_ev, iZip_ev, sRaiseF_sv, eIsX_ev, eFldX_ev, eCatM_ev, eSortIt_ev, sAugAdd, sAugSub, eIntOf, eRep01, eStrOf, eTupOf, eLstOf, eCatT, eInt, eStr, eBl, eNon, eAdd, eSub, eMul, eMulW, eMod, eDiv, ePow, eLt, eLe, eGt, eGe, eEq, eNe, eIxL, eIxT, eLen, eMax2, eMin2, eAll, eAny, eSum, eIsTy, R.bindD_ok, gI, R.bindD_ok, R.bindD_exc, R.bind_ok, R.bind_exc, R.bind_bad, R.of, R.flow, evV, evD, dat, pull, push, callOn, left, begun, List.length_cons, List.length_nil, List.getElem?_cons_zero, List.getElem?_cons_succ, List.set_cons_zero, List.set_cons_succ, if_true, if_false, ite_t, ite_f, Nat.reduceAdd, Nat.reduceLT, Nat.reduceSub, Nat.reduceEqDiff, Nat.reduceLeDiff, List.map_cons, List.map_nil, List.replicate, List.append_nil, List.nil_append, List.cons_append, and_self, true_and, and_true, Bool.not_true, Bool.not_false, Bool.false_eq_true, reduceIte, Nat.zero_add, Nat.lt_add_left_iff_pos]; rfl)
end
end K49

set_option maxRecDepth 100000
set_option maxHeartbeats 4000000
namespace K49.B
open PySem PySem.Spec PyProof.Rows L2 Pv P01
section
variable {K : PySem.W.Frag} {κ : Cls} {mg : Str → Option Value}
theorem up25 : ∀ {ps : List (Int × Int)} {m : Int}, P01.Up m ps ↔ P25.Up m ps
  | [], _ => ⟨fun _ => trivial, fun _ => trivial⟩
  | (_, _) :: _, _ => ⟨fun h => ⟨h.1, h.2.1, up25.mp h.2.2⟩, fun h => ⟨h.1, h.2.1, up25.mpr h.2.2⟩⟩
def kv (ps : List (Int × Int)) : List (Key × D) := ps.map fun p => (Sum.inl p.1, D.int p.2)
theorem kv_len (ps : List (Int × Int)) : (kv ps).length = ps.length := by simp [kv]
theorem pairs_pr : ∀ ps : List (Int × Int), pairsD (ps.map pr) = some (kv ps)
  | [] => rfl
  | p :: ps => by
    show pairsD (.tup [.int p.1, .int p.2] :: ps.map pr) = _
    unfold pairsD
    rw [pairs_pr ps]
    rfl
theorem keys_kv : ∀ L : List (Int × Int), keysI (kv L) = some (keysP L)
  | [] => rfl
  | p :: L => by
    show keysI ((Sum.inl p.1, D.int p.2) :: kv L) = _
    unfold keysI
    rw [keys_kv L]
    rfl
theorem store_kv (L : List (Int × Int)) (w c : Int) : storeD (kv L) (.inl w) (.int c) = kv (stW L w c) := by
  have e : ((kv L).any fun p => decide (p.1 = (Sum.inl w : Key))) = L.any fun p => decide (p.1 = w) := by
    unfold kv
    rw [List.any_map]
    congr 1
    funext p
    show decide ((Sum.inl p.1 : Key) = Sum.inl w) = decide (p.1 = w)
    simp only [Sum.inl.injEq]
  unfold storeD stW
  rw [e]
  by_cases h : (L.any fun p => decide (p.1 = w)) = true
  · rw [if_pos h, if_pos h]
    unfold kv
    rw [List.map_map, List.map_map]
    refine List.map_congr_left fun p _ => ?_
    show (if (Sum.inl p.1 : Key) = Sum.inl w then ((Sum.inl p.1 : Key), D.int c) else (Sum.inl p.1, D.int p.2)) = (Sum.inl (if p.1 = w then (p.1, c) else p).1, D.int (if p.1 = w then (p.1, c) else p).2)
    by_cases f : p.1 = w
    · rw [if_pos (by rw [f]), if_pos f]
    · rw [if_neg (fun z => f (Sum.inl.inj z)), if_neg f]
  · rw [if_neg h, if_neg h]
    simp [kv]
theorem look_key : ∀ {L : List (Int × Int)} {w : Int}, w ∈ keysP L → lookD (kv L) (.inl w) = some (.int (getI L w))
  | [], _, h => nomatch h
  | p :: L, w, h => by
    have ih := fun z => look_key (L := L) (w := w) z
    show (((Sum.inl p.1, D.int p.2) :: kv L).find? fun q : Key × D => decide (q.1 = (Sum.inl w : Key))).map (·.2) = _
    unfold getI
    rw [List.find?_cons]
    by_cases e : p.1 = w
    · rw [if_pos e]
      have : decide ((Sum.inl p.1 : Key) = Sum.inl w) = true := decide_eq_true (by rw [e])
      simp only [this]
      rfl
    · rw [if_neg e]
      have : decide ((Sum.inl p.1 : Key) = Sum.inl w) = false := decide_eq_false fun z => e (Sum.inl.inj z)
      simp only [this]
      exact ih ((List.mem_cons.mp h).resolve_left fun z => e z.symm)
theorem look_no {L : List (Int × Int)} {w : Int} (h : w ∉ keysP L) : lookD (kv L) (.inl w) = none := by
  unfold lookD
  rw [List.find?_eq_none.mpr]
  · rfl
  · intro x hx
    obtain ⟨p, hp, rfl⟩ := List.mem_map.mp hx
    simp only [decide_eq_true_eq]
    intro e
    exact h (by rw [← Sum.inl.inj e]; exact key_mem hp)
theorem look_get (L : List (Int × Int)) (w : Int) : (lookD (kv L) (.inl w)).getD (.int 0) = .int (getI L w) := by
  by_cases h : w ∈ keysP L
  · rw [look_key h]; rfl
  · rw [look_no h, getI_no h]; rfl
def dctL : List (Int × Int) → List (Int × Int) → List (Int × Int)
  | acc, [] => acc
  | acc, p :: q => dctL (stW acc p.1 p.2) q
theorem dct_kv : ∀ (q acc : List (Int × Int)), (kv q).foldl (fun acc p => storeD acc p.1 p.2) (kv acc) = kv (dctL acc q)
  | [], _ => rfl
  | p :: q, acc => by
    show (kv q).foldl _ (storeD (kv acc) (.inl p.1) (.int p.2)) = _
    rw [store_kv, dct_kv q]
    rfl
theorem up_lt_all : ∀ {acc : List (Int × Int)} {m : Int} {p : Int × Int} {q : List (Int × Int)}, Up m (acc ++ p :: q) → ∀ x ∈ acc, x.1 < p.1
  | [], _, _, _, _, x, hx => nomatch hx
  | r :: acc, m, p, q, h, x, hx => by
    rcases List.mem_cons.mp hx with rfl | hx
    · exact Up.lt h.2.2 p (by simp)
    · exact up_lt_all h.2.2 x hx
theorem dct_up : ∀ (q acc : List (Int × Int)) {m : Int}, Up m (acc ++ q) → dctL acc q = acc ++ q
  | [], acc, _, _ => by simp [dctL]
  | p :: q, acc, m, h => by
    have n : p.1 ∉ keysP acc := fun z => by
      obtain ⟨x, hx, e⟩ := List.mem_map.mp z
      have := up_lt_all h x hx
      omega
    have e : stW acc p.1 p.2 = acc ++ [p] := by
      unfold stW
      rw [if_neg (fun z => n ((any_iff acc p.1).mp z))]
    unfold dctL
    rw [e, dct_up q (acc ++ [p]) (m := m) (by simpa using h)]
    simp
theorem dct0 {ps : List (Int × Int)} (h : Up 0 ps) : (kv ps).foldl (fun acc p => storeD acc p.1 p.2) [] = kv ps := by
  have := dct_kv ps []
  rw [dct_up ps [] (m := 0) h] at this
  exact this
theorem put2 {i j : Nat} {x y : D} {ρ : Pv.Env} (hi : i < ρ.length) (hj : j < ρ.length) : (gT 2 (gs1 (gN (K := K) (κ := κ) i) (gs1 (gN j) gs0))).put (.tup [x, y]) ρ = some ((ρ.set i (some (.d x))).set j (some (.d y))) := by
  show (match (if i < ρ.length then some (ρ.set i (some (.d x))) else none) with | some ρ => (match (if j < ρ.length then some (ρ.set j (some (.d y))) else none) with | some ρ => some ρ | none => none) | none => none) = _
  rw [if_pos hi]
  show (match (if j < (ρ.set i (some (.d x))).length then some ((ρ.set i (some (.d x))).set j (some (.d y))) else none) with | some ρ => some ρ | none => none) = _
  rw [if_pos (by simpa using hj)]
/-! adding up, at slot 2 -/
def bd_add : SS K κ := sSeq (sSetD 2 (eV 3) (eAdd (eGetD 2 (eV 3) (eInt 0)) (eV 4))) (sNil)
theorem key_int (w : Int) : D.key (.int w) = some (.inl w) := rfl
theorem add_loop (a b : D) : ∀ (q : List (Int × Int)) (L : List (Int × Int)) (u v : Option W), L.length + q.length < 1000 →
    ∃ u' v', loopS (gT 2 (gs1 (gN (K := K) (κ := κ) 3) (gs1 (gN 4) (gs0)))).put (bd_add (K := K) (κ := κ)).sv (q.map pr) [some (.d a), some (.d b), some (.md (kv L)), u, v] = .ok .nx [some (.d a), some (.d b), some (.md (kv (addL L q))), u', v'] := by
  intro q
  induction q with
  | nil => exact fun L u v _ => ⟨u, v, rfl⟩
  | cons p q ih =>
    intro L u v h
    simp only [List.length_cons] at h
    have hl := len_st (L := L) (w := p.1) (c := getI L p.1 + p.2)
    obtain ⟨u', v', e⟩ := ih (stW L p.1 (getI L p.1 + p.2)) (some (.d (.int p.1))) (some (.d (.int p.2))) (by omega)
    have lg := look_get L p.1
    have sk := store_kv L p.1 (getI L p.1 + p.2)
    have ln : (kv L).length < 1000000 := by rw [kv_len]; omega
    have ky := key_int p.1
    exact ⟨u', v', (loop_nx (ρ1 := [some (.d a), some (.d b), some (.md (kv L)), some (.d (.int p.1)), some (.d (.int p.2))]) rfl (by unfold bd_add; simp only [eV_ev, eC_ev, eOp_ev, eUn_ev, eIsN_ev, eNotN_ev, aNil_ev, aCons_ev, aM_ev, eTup_ev, eLst_ev, eLstM_ev, eCall_ev, eCB_ev, tV_ev, tV'_ev, tAnd'_ev, tOr'_ev, tNot'_ev, eAndV_ev, eOrV_ev, eNotV_ev, eIf_ev, sNil_sv, sSeq_sv, sAsg_sv, sIf_sv, sRet_sv, sDrop_sv, sSetL_sv, sApp_sv, eIxM_ev, eLenM_ev, iT_ev, iL_ev, iR1_ev, iR2_ev, gN_put, gs0_put, gs1_put, gT_put, sAsgG_sv, tYes'_ev, eIs_ev, sRaise_sv, sTry_sv, sNever_sv, sPar_sv, o0_ev, o1_ev, eSlT_ev, sSetD_sv, eIxD_ev, eGetD_ev, eSortD_ev, eDict_ev, eNegC_ev, eRevT_ev, eOrD_ev, eRepM_ev, sAugI_sv, iItemsD_ev, iZip_ev, sRaiseF_sv, eIsX_ev, eFldX_ev, eCatM_ev, eSortIt_ev, sAugAdd, sAugSub, eIntOf, eRep01, eStrOf, eTupOf, eLstOf, eCatT, eInt, eStr, eBl, eNon, eAdd, eSub, eMul, eMulW, eMod, eDiv, ePow, eLt, eLe, eGt, eGe, eEq, eNe, eIxL, eIxT, eLen, eMax2, eMin2, eAll, eAny, eSum, eIsTy, R.bindD_ok, gI, R.bindD_ok, R.bindD_exc, R.bind_ok, R.bind_exc, R.bind_bad, R.of, R.flow, evV, evD, dat, pull, push, callOn, left, begun, List.length_cons, List.length_nil, List.getElem?_cons_zero, List.getElem?_cons_succ, List.set_cons_zero, List.set_cons_succ, if_true, if_false, ite_t, ite_f, Nat.reduceAdd, Nat.reduceLT, Nat.reduceSub, Nat.reduceEqDiff, Nat.reduceLeDiff, List.map_cons, List.map_nil, List.replicate, List.append_nil, List.nil_append, List.cons_append, and_self, true_and, and_true, Bool.not_true, Bool.not_false, Bool.false_eq_true, reduceIte, Nat.zero_add, Nat.lt_add_left_iff_pos, lg, sk, if_pos ln, ky])).trans e⟩
def lcPut : SE K κ := eLc (iL (eSortD 2)) (gN 3) (tYes') (eTup (aCons (eV 3) (aCons (eIxD 2 (eV 3)) (aNil)))) [3] (fun _ h => h)
theorem put_lc (a b : D) (L : List (Int × Int)) (v : Option W) : ∀ (ws : List Int), (∀ w ∈ ws, w ∈ keysP L) → ws.length ≤ 1000 →
    loopC [3] (gN (K := K) (κ := κ) 3).put (tYes' (K := K) (κ := κ)).ev (eTup (K := K) (κ := κ) (aCons (eV 3) (aCons (eIxD 2 (eV 3)) (aNil)))).ev (ws.map .int) [some (.d a), some (.d b), some (.md (kv L)), none, v] [] = .ok ((ws.map fun w => (w, getI L w)).map pr) [some (.d a), some (.d b), some (.md (kv L)), none, v] := fun ws hw hl => by
  have := loopC_map (vs := [3]) (put := (gN (K := K) (κ := κ) 3).put) (t := (tYes' (K := K) (κ := κ)).ev) (e := (eTup (K := K) (κ := κ) (aCons (eV 3) (aCons (eIxD 2 (eV 3)) (aNil)))).ev) (ρ0 := [some (.d a), some (.d b), some (.md (kv L)), none, v]) D.int (fun w => some (pr (w, getI L w))) ws [] (fun w hm => by
    have lk := look_key (hw w hm)
    have ky := key_int w
    refine ⟨[some (.d a), some (.d b), some (.md (kv L)), some (.d (.int w)), v], [some (.d a), some (.d b), some (.md (kv L)), some (.d (.int w)), v], rfl, [some (.d a), some (.d b), some (.md (kv L)), some (.d (.int w)), v], rfl, ?_, rfl⟩
    simp only [eV_ev, eC_ev, eOp_ev, eUn_ev, eIsN_ev, eNotN_ev, aNil_ev, aCons_ev, aM_ev, eTup_ev, eLst_ev, eLstM_ev, eCall_ev, eCB_ev, tV_ev, tV'_ev, tAnd'_ev, tOr'_ev, tNot'_ev, eAndV_ev, eOrV_ev, eNotV_ev, eIf_ev, sNil_sv, sSeq_sv, sAsg_sv, sIf_sv, sRet_sv, sDrop_sv, sSetL_sv, sApp_sv, eIxM_ev, eLenM_ev, iT_ev, iL_ev, iR1_ev, iR2_ev, gN_put, gs0_put, gs1_put, gT_put, sAsgG_sv, tYes'_ev, eIs_ev, sRaise_sv, sTry_sv, sNever_sv, sPar_sv, o0_ev, o1_ev, eSlT_ev, sSetD_sv, eIxD_ev, eGetD_ev, eSortD_ev, eDict_ev, eNegC_ev, eRevT_ev, eOrD_ev, eRepM_ev, sAugI_sv, iItemsD_ev, iZip_ev, sRaiseF_sv, eIsX_ev, eFldX_ev, eCatM_ev, eSortIt_ev, sAugAdd, sAugSub, eIntOf, eRep01, eStrOf, eTupOf, eLstOf, eCatT, eInt, eStr, eBl, eNon, eAdd, eSub, eMul, eMulW, eMod, eDiv, ePow, eLt, eLe, eGt, eGe, eEq, eNe, eIxL, eIxT, eLen, eMax2, eMin2, eAll, eAny, eSum, eIsTy, R.bindD_ok, gI, R.bindD_ok, R.bindD_exc, R.bind_ok, R.bind_exc, R.bind_bad, R.of, R.flow, evV, evD, dat, pull, push, callOn, left, begun, List.length_cons, List.length_nil, List.getElem?_cons_zero, List.getElem?_cons_succ, List.set_cons_zero, List.set_cons_succ, if_true, if_false, ite_t, ite_f, Nat.reduceAdd, Nat.reduceLT, Nat.reduceSub, Nat.reduceEqDiff, Nat.reduceLeDiff, List.map_cons, List.map_nil, List.replicate, List.append_nil, List.nil_append, List.cons_append, and_self, true_and, and_true, Bool.not_true, Bool.not_false, Bool.false_eq_true, reduceIte, Nat.zero_add, Nat.lt_add_left_iff_pos, lk, ky]
    rfl) (by simpa using hl)
  rw [this, fm_some, List.nil_append, List.map_map]
  rfl
theorem v_tog (T : Tx K κ mg) {n m : Nat} {c d : Int} {a b : List (Int × Int)} (ha : P01.Pil n c a) (hb : P01.Pil m d b) (hnm : n + m ≤ 60) : f_l_together T [.d (pl a), .d (pl b)] = .ok (.d (pl (togL a b))) [.d (pl a), .d (pl b)] := by
  have la := ha.few
  have lb := hb.few
  obtain ⟨xs, hx⟩ : ∃ xs, a.map pr = xs := ⟨_, rfl⟩
  have sq : D.seq (pl a) = some xs := by rw [← hx]; rfl
  have pp := pairs_pr a
  rw [hx] at pp
  have fk := dct0 ha.up
  obtain ⟨u', v', e⟩ := add_loop (K := K) (κ := κ) (pl a) (pl b) b a none none (by omega)
  obtain ⟨L, hL⟩ : ∃ L, addL a b = L := ⟨_, rfl⟩
  have ll : L.length ≤ 60 := by rw [← hL]; have := len_add (L := a) (b := b); omega
  rw [hL] at e
  have f : (sFor (iT (eV 1)) (gT 2 (gs1 (gN (K := K) (κ := κ) 3) (gs1 (gN 4) (gs0)))) bd_add).sv [some (.d (pl a)), some (.d (pl b)), some (.md (kv a)), none, none] = _ := for_of (ρ1 := [some (.d (pl a)), some (.d (pl b)), some (.md (kv a)), none, none]) (xs := b.map pr) rfl e
  have kk := keys_kv L
  have l64 : (keysP L).length < 64 := by simp [keysP]; omega
  have so : (eSortD (K := K) (κ := κ) 2).ev [some (.d (pl a)), some (.d (pl b)), some (.md (kv L)), u', v'] = .ok (.d (.lst ((ksL L).map .int))) [some (.d (pl a)), some (.d (pl b)), some (.md (kv L)), u', v'] := by
    simp only [eV_ev, eC_ev, eOp_ev, eUn_ev, eIsN_ev, eNotN_ev, aNil_ev, aCons_ev, aM_ev, eTup_ev, eLst_ev, eLstM_ev, eCall_ev, eCB_ev, tV_ev, tV'_ev, tAnd'_ev, tOr'_ev, tNot'_ev, eAndV_ev, eOrV_ev, eNotV_ev, eIf_ev, sNil_sv, sSeq_sv, sAsg_sv, sIf_sv, sRet_sv, sDrop_sv, sSetL_sv, sApp_sv, eIxM_ev, eLenM_ev, iT_ev, iL_ev, iR1_ev, iR2_ev, gN_put, gs0_put, gs1_put, gT_put, sAsgG_sv, tYes'_ev, eIs_ev, sRaise_sv, sTry_sv, sNever_sv, sPar_sv, o0_ev, o1_ev, eSlT_ev, sSetD_sv, eIxD_ev, eGetD_ev, eSortD_ev, eDict_ev, eNegC_ev, eRevT_ev, eOrD_ev, eRepM_ev, sAugI_sv, iItemsD_ev, iZip_ev, sRaiseF_sv, eIsX_ev, eFldX_ev, eCatM_ev, eSortIt_ev, sAugAdd, sAugSub, eIntOf, eRep01, eStrOf, eTupOf, eLstOf, eCatT, eInt, eStr, eBl, eNon, eAdd, eSub, eMul, eMulW, eMod, eDiv, ePow, eLt, eLe, eGt, eGe, eEq, eNe, eIxL, eIxT, eLen, eMax2, eMin2, eAll, eAny, eSum, eIsTy, R.bindD_ok, gI, R.bindD_ok, R.bindD_exc, R.bind_ok, R.bind_exc, R.bind_bad, R.of, R.flow, evV, evD, dat, pull, push, callOn, left, begun, List.length_cons, List.length_nil, List.getElem?_cons_zero, List.getElem?_cons_succ, List.set_cons_zero, List.set_cons_succ, if_true, if_false, ite_t, ite_f, Nat.reduceAdd, Nat.reduceLT, Nat.reduceSub, Nat.reduceEqDiff, Nat.reduceLeDiff, List.map_cons, List.map_nil, List.replicate, List.append_nil, List.nil_append, List.cons_append, and_self, true_and, and_true, Bool.not_true, Bool.not_false, Bool.false_eq_true, reduceIte, Nat.zero_add, Nat.lt_add_left_iff_pos, kk, if_pos l64]
    rfl
  have l : (lcPut (K := K) (κ := κ)).ev [some (.d (pl a)), some (.d (pl b)), some (.md (kv L)), u', v'] = .ok (.d (.lst ((canL L).map pr))) [some (.d (pl a)), some (.d (pl b)), some (.md (kv L)), none, v'] :=
    lc_of (vs := [3]) (it := iL (eSortD 2)) (g := gN 3) (t := tYes') (e := eTup (aCons (eV 3) (aCons (eIxD 2 (eV 3)) (aNil)))) (hv := fun _ h => h) (xs := (ksL L).map .int) (ρi := [some (.d (pl a)), some (.d (pl b)), some (.md (kv L)), u', v']) (ρ0 := [some (.d (pl a)), some (.d (pl b)), some (.md (kv L)), none, v']) (by simp only [eV_ev, eC_ev, eOp_ev, eUn_ev, eIsN_ev, eNotN_ev, aNil_ev, aCons_ev, aM_ev, eTup_ev, eLst_ev, eLstM_ev, eCall_ev, eCB_ev, tV_ev, tV'_ev, tAnd'_ev, tOr'_ev, tNot'_ev, eAndV_ev, eOrV_ev, eNotV_ev, eIf_ev, sNil_sv, sSeq_sv, sAsg_sv, sIf_sv, sRet_sv, sDrop_sv, sSetL_sv, sApp_sv, eIxM_ev, eLenM_ev, iT_ev, iL_ev, iR1_ev, iR2_ev, gN_put, gs0_put, gs1_put, gT_put, sAsgG_sv, tYes'_ev, eIs_ev, sRaise_sv, sTry_sv, sNever_sv, sPar_sv, o0_ev, o1_ev, eSlT_ev, sSetD_sv, eIxD_ev, eGetD_ev, eSortD_ev, eDict_ev, eNegC_ev, eRevT_ev, eOrD_ev, eRepM_ev, sAugI_sv, iItemsD_ev, iZip_ev, sRaiseF_sv, eIsX_ev, eFldX_ev, eCatM_ev, eSortIt_ev, sAugAdd, sAugSub, eIntOf, eRep01, eStrOf, eTupOf, eLstOf, eCatT, eInt, eStr, eBl, eNon, eAdd, eSub, eMul, eMulW, eMod, eDiv, ePow, eLt, eLe, eGt, eGe, eEq, eNe, eIxL, eIxT, eLen, eMax2, eMin2, eAll, eAny, eSum, eIsTy, R.bindD_ok, gI, R.bindD_ok, R.bindD_exc, R.bind_ok, R.bind_exc, R.bind_bad, R.of, R.flow, evV, evD, dat, pull, push, callOn, left, begun, List.length_cons, List.length_nil, List.getElem?_cons_zero, List.getElem?_cons_succ, List.set_cons_zero, List.set_cons_succ, if_true, if_false, ite_t, ite_f, Nat.reduceAdd, Nat.reduceLT, Nat.reduceSub, Nat.reduceEqDiff, Nat.reduceLeDiff, List.map_cons, List.map_nil, List.replicate, List.append_nil, List.nil_append, List.cons_append, and_self, true_and, and_true, Bool.not_true, Bool.not_false, Bool.false_eq_true, reduceIte, Nat.zero_add, Nat.lt_add_left_iff_pos, so]) rfl (put_lc (pl a) (pl b) L v' (ksL L) (fun w hw => ks_mem.mp hw) (by rw [ks_len]; omega)) rfl
  have tp : gTupOf [.lst ((canL L).map pr)] = some (.tup ((canL L).map pr)) := rfl
  have bb : b_l_together T = sSeq (sAsg 2 (eDict (eV 0))) (sSeq (sFor (iT (eV 1)) (gT 2 (gs1 (gN 3) (gs1 (gN 4) (gs0)))) bd_add) (sSeq (sRet (eTupOf (aCons lcPut (aNil)))) sNil)) := rfl
  have hTo : togL a b = canL L := by unfold togL; rw [hL]
  rw [hTo]
  refine fn_rt (ρ := [some (.d (pl a)), some (.d (pl b)), some (.md (kv L)), none, v']) ?_ rfl
  rw [bb]
  refine seq_nx (ρ' := [some (.d (pl a)), some (.d (pl b)), some (.md (kv a)), none, none]) (by simp only [eV_ev, eC_ev, eOp_ev, eUn_ev, eIsN_ev, eNotN_ev, aNil_ev, aCons_ev, aM_ev, eTup_ev, eLst_ev, eLstM_ev, eCall_ev, eCB_ev, tV_ev, tV'_ev, tAnd'_ev, tOr'_ev, tNot'_ev, eAndV_ev, eOrV_ev, eNotV_ev, eIf_ev, sNil_sv, sSeq_sv, sAsg_sv, sIf_sv, sRet_sv, sDrop_sv, sSetL_sv, sApp_sv, eIxM_ev, eLenM_ev, iT_ev, iL_ev, iR1_ev, iR2_ev, gN_put, gs0_put, gs1_put, gT_put, sAsgG_sv, tYes'_ev, eIs_ev, sRaise_sv, sTry_sv, sNever_sv, sPar_sv, o0_ev, o1_ev, eSlT_ev, sSetD_sv, eIxD_ev, eGetD_ev, eSortD_ev, eDict_ev, eNegC_ev, eRevT_ev, eOrD_ev, eRepM_ev, sAugI_sv, iItemsD_ev, iZip_ev, sRaiseF_sv, eIsX_ev, eFldX_ev, eCatM_ev, eSortIt_ev, sAugAdd, sAugSub, eIntOf, eRep01, eStrOf, eTupOf, eLstOf, eCatT, eInt, eStr, eBl, eNon, eAdd, eSub, eMul, eMulW, eMod, eDiv, ePow, eLt, eLe, eGt, eGe, eEq, eNe, eIxL, eIxT, eLen, eMax2, eMin2, eAll, eAny, eSum, eIsTy, R.bindD_ok, gI, R.bindD_ok, R.bindD_exc, R.bind_ok, R.bind_exc, R.bind_bad, R.of, R.flow, evV, evD, dat, pull, push, callOn, left, begun, List.length_cons, List.length_nil, List.getElem?_cons_zero, List.getElem?_cons_succ, List.set_cons_zero, List.set_cons_succ, if_true, if_false, ite_t, ite_f, Nat.reduceAdd, Nat.reduceLT, Nat.reduceSub, Nat.reduceEqDiff, Nat.reduceLeDiff, List.map_cons, List.map_nil, List.replicate, List.append_nil, List.nil_append, List.cons_append, and_self, true_and, and_true, Bool.not_true, Bool.not_false, Bool.false_eq_true, reduceIte, Nat.zero_add, Nat.lt_add_left_iff_pos, sq, pp, fk]) ?_
  refine seq_nx f ?_
  exact seq_rt (by simp only [eV_ev, eC_ev, eOp_ev, eUn_ev, eIsN_ev, eNotN_ev, aNil_ev, aCons_ev, aM_ev, eTup_ev, eLst_ev, eLstM_ev, eCall_ev, eCB_ev, tV_ev, tV'_ev, tAnd'_ev, tOr'_ev, tNot'_ev, eAndV_ev, eOrV_ev, eNotV_ev, eIf_ev, sNil_sv, sSeq_sv, sAsg_sv, sIf_sv, sRet_sv, sDrop_sv, sSetL_sv, sApp_sv, eIxM_ev, eLenM_ev, iT_ev, iL_ev, iR1_ev, iR2_ev, gN_put, gs0_put, gs1_put, gT_put, sAsgG_sv, tYes'_ev, eIs_ev, sRaise_sv, sTry_sv, sNever_sv, sPar_sv, o0_ev, o1_ev, eSlT_ev, sSetD_sv, eIxD_ev, eGetD_ev, eSortD_ev, eDict_ev, eNegC_ev, eRevT_ev, eOrD_ev, eRepM_ev, sAugI_sv, iItemsD_ev, iZip_ev, sRaiseF_sv, eIsX_ev, eFldX_ev, eCatM_ev, eSortIt_ev, sAugAdd, sAugSub, eIntOf, eRep01, eStrOf, eTupOf, eLstOf, eCatT, eInt, eStr, eBl, eNon, eAdd, eSub, eMul, eMulW, eMod, eDiv, ePow, eLt, eLe, eGt, eGe, eEq, eNe, eIxL, eIxT, eLen, eMax2, eMin2, eAll, eAny, eSum, eIsTy, R.bindD_ok, gI, R.bindD_ok, R.bindD_exc, R.bind_ok, R.bind_exc, R.bind_bad, R.of, R.flow, evV, evD, dat, pull, push, callOn, left, begun, List.length_cons, List.length_nil, List.getElem?_cons_zero, List.getElem?_cons_succ, List.set_cons_zero, List.set_cons_succ, if_true, if_false, ite_t, ite_f, Nat.reduceAdd, Nat.reduceLT, Nat.reduceSub, Nat.reduceEqDiff, Nat.reduceLeDiff, List.map_cons, List.map_nil, List.replicate, List.append_nil, List.nil_append, List.cons_append, and_self, true_and, and_true, Bool.not_true, Bool.not_false, Bool.false_eq_true, reduceIte, Nat.zero_add, Nat.lt_add_left_iff_pos, l, tp]; rfl)
/-! counts -/
theorem get_count : ∀ {ps : List (Int × Int)} {m : Int}, P01.Up m ps → ∀ w : Int, getI ps w = (P66.expand ps).count w
  | [], _, _, w => rfl
  | p :: ps, m, h, w => by
    have ih := get_count h.2.2 w
    rw [P66.expand_cons, List.count_append, List.count_replicate]
    unfold getI
    have h1 := h.2.1
    by_cases e : p.1 = w
    · rw [if_pos e]
      have z : getI ps w = 0 := getI_up h.2.2 (by omega)
      rw [z] at ih
      have e2 : (p.1 == w) = true := by simpa using e
      rw [if_pos e2]
      omega
    · rw [if_neg e]
      have e2 : ¬ (p.1 == w) = true := by simpa using e
      rw [if_neg e2]
      omega
theorem heap_up {xs : List Int} (h : ∀ x ∈ xs, 1 ≤ x) : P01.Up 0 (heapP xs) := up25.mpr (heap_facts h).1
theorem heap_get {xs : List Int} (h : ∀ x ∈ xs, 1 ≤ x) (w : Int) : getI (heapP xs) w = xs.count w := by
  rw [get_count (heap_up h), (heap_facts h).2]
  exact congrArg _ ((Pv.sortI_perm xs).count_eq w)
/-- a pile is the heap of its coins -/
theorem heap_of {ps : List (Int × Int)} (h : P01.Up 0 ps) {xs : List Int} (hx : xs.Perm (P66.expand ps)) : heapP xs = ps := by
  have h1 : ∀ x ∈ xs, 1 ≤ x := fun x hx' => P66.expand_pos (Int.le_refl 0) (up25.mp h) x (hx.mem_iff.mp hx')
  exact up_ext (heap_up h1) h fun w => by rw [heap_get h1, get_count h, hx.count_eq]
theorem heap_pil {xs : List Int} (h : ∀ x ∈ xs, 1 ≤ x ∧ x < 10 ^ 7) : P01.Pil xs.length xs.length (heapP xs) := by
  obtain ⟨up, ex⟩ := heap_facts (xs := xs) fun x hx => (h x hx).1
  have el := P66.expand_len up
  have pm := Pv.sortI_perm xs
  have ln : (P66.expand (heapP xs)).length = xs.length := by rw [ex, pm.length_eq]
  refine ⟨up25.mpr up, by omega, fun p hp => ?_⟩
  obtain ⟨a, b⟩ := el.2 p hp
  rw [ex] at a
  have := (h p.1 (pm.mem_iff.mp a)).2
  exact ⟨by omega, by omega⟩
theorem sum_perm : ∀ {xs ys : List Int}, xs.Perm ys → xs.sum = ys.sum := fun h => by
  induction h with
  | nil => rfl
  | cons x _ ih => rw [List.sum_cons, List.sum_cons, ih]
  | swap x y l => simp only [List.sum_cons]; omega
  | trans _ _ a b => rw [a, b]
theorem tog_perm {n m : Nat} {c d : Int} {a b : List (Int × Int)} (ha : P01.Pil n c a) (hb : P01.Pil m d b) (h0 : 0 ≤ c) (h1 : 0 ≤ d) : (P66.expand (togL a b)).Perm (P66.expand a ++ P66.expand b) := by
  rw [List.perm_iff_count]
  intro w
  have t := (tog_pil h0 h1 ha hb).up
  have e := tog_get ha hb w
  rw [get_count t, get_count ha.up, get_count hb.up] at e
  rw [List.count_append]
  omega
theorem tog_und {n m : Nat} {c d : Int} {a b : List (Int × Int)} (ha : P01.Pil n c a) (hb : P01.Pil m d b) (h0 : 0 ≤ c) (h1 : 0 ≤ d) (v : Int) : P25.undP (togL a b) v = P25.undP a v + P25.undP b v := by
  have t := (tog_pil h0 h1 ha hb).up
  rw [← P66.low_expand v (up25.mp t), ← P66.low_expand v (up25.mp ha.up), ← P66.low_expand v (up25.mp hb.up), ← P66.lowL_app]
  exact sum_perm ((tog_perm ha hb h0 h1).filter _)
theorem tog_sum {n m : Nat} {c d : Int} {a b : List (Int × Int)} (ha : P01.Pil n c a) (hb : P01.Pil m d b) (h0 : 0 ≤ c) (h1 : 0 ≤ d) : P25.sumP (togL a b) = P25.sumP a + P25.sumP b := by
  have t := (tog_pil h0 h1 ha hb).up
  rw [← P66.sum_expand (up25.mp t), ← P66.sum_expand (up25.mp ha.up), ← P66.sum_expand (up25.mp hb.up), ← List.sum_append]
  exact sum_perm (tog_perm ha hb h0 h1)
theorem comp_pil {w l : Int} (hw : 1 < w) (hw' : w < 10 ^ 6) (hl : 0 < l) (hl' : l < 10 ^ 6) : P01.Pil 2 (10 ^ 12) (P49.comp w l) := by
  have n : 0 ≤ l * (w - 2) := Int.mul_nonneg (by omega) (by omega)
  have k : l * (w - 2) ≤ 10 ^ 6 * 10 ^ 6 := Int.mul_le_mul (by omega) (by omega) (by omega) (by omega)
  refine ⟨up25.mpr (P49.comp_up hw hl), ?_, fun p hp => ?_⟩
  · unfold P49.comp
    split <;> simp
  · unfold P49.comp at hp
    split at hp
    · simp only [List.mem_cons, List.not_mem_nil, or_false] at hp
      rcases hp with rfl | rfl
      · exact ⟨by show (1 : Int) < _; omega, by show l * (w - 2) ≤ _; omega⟩
      · exact ⟨by show w < _; omega, by show (1 : Int) ≤ _; omega⟩
    · rw [List.mem_singleton] at hp
      subst hp
      exact ⟨by show w < _; omega, by show (1 : Int) ≤ _; omega⟩
theorem comp_get {w l : Int} (hw : 1 < w) : getI (P49.comp w l) w = 1 := by
  unfold P49.comp
  split
  · show (if (1 : Int) = w then _ else if w = w then (1 : Int) else 0) = 1
    rw [if_neg (by omega), if_pos rfl]
  · show (if w = w then (1 : Int) else 0) = 1
    rw [if_pos rfl]
theorem tog_in {n : Nat} {c : Int} {a : List (Int × Int)} {w l : Int} (ha : P01.Pil n c a) (hw : 1 < w) (hb : P01.Pil 2 (10 ^ 12) (P49.comp w l)) : ∃ p ∈ togL a (P49.comp w l), p.1 = w := by
  have g := tog_get ha hb w
  rw [comp_get hw] at g
  have n := getI_nn ha.up w
  exact ⟨_, getI_mem (L := togL a (P49.comp w l)) (w := w) (by omega), rfl⟩
theorem pil_of {n m : Nat} {c d : Int} {a b : List (Int × Int)} (ha : P01.Pil n c a) (hb : P01.Pil m d b) (h0 : 0 ≤ c) (h1 : 0 ≤ d) (hl : n + m ≤ 60) : K49.Pil (togL a b) := by
  have t := tog_pil h0 h1 ha hb
  have := t.few
  exact ⟨up25.mp t.up, by omega, fun p hp => by have := (t.small p hp).1; omega⟩
end
end K49.B

set_option maxRecDepth 100000
set_option maxHeartbeats 4000000
namespace K49
open PySem PySem.Spec PyProof.Rows L2 Pv P25 P66 P49
section
variable {K : PySem.W.Frag} {κ : Cls} {mg : Str → Option Value}
theorem v_whole (T : Tx K κ mg) (x n : Int) : f_l_whole_from T [.d (.int x), .d (.int n)] = .ok (.d (.bl (decide (n ≤ x)))) [.d (.int x), .d (.int n)] := by kernel_rfl
theorem tg1 (T : Tx K κ mg) : (iS (K := K) (κ := κ) (eV 0)).ev [some (.d (.str "a")), none] = .ok [.str ⟨#[97]⟩] [some (.d (.str "a")), none] := by kernel_rfl
theorem tg2 : gInSg (.str ⟨#[97]⟩) (.str "abcdefghijklmnopqrstuvwxyz") = some (.bl true) := by kernel_rfl
theorem tg3 : gLenS [.str "a"] = some (.int 1) := by kernel_rfl
theorem tg4 : gTy "str" (.str "a") = some true := by kernel_rfl
theorem tg5 : (eLc (K := K) (κ := κ) (iS (eV 0)) (gN 1) (tYes') (eInSg (eV 1) (eStr "abcdefghijklmnopqrstuvwxyz")) [1] (fun _ h => h)).ev [some (.d (.str "a")), none] = .ok (.d (.lst [.bl true])) [some (.d (.str "a")), none] := by kernel_rfl
theorem tg6 : gAll [.lst [.bl true]] = some (.bl true) := by kernel_rfl
theorem tg7 : (eChain (K := K) (κ := κ) opLt opLt (eInt 0) (eLenS (aCons (eV 0) (aNil))) (eInt 9)).ev [some (.d (.str "a")), none] = .ok (.d (.bl true)) [some (.d (.str "a")), none] := by kernel_rfl
theorem v_tag (T : Tx K κ mg) : f_l_tag T [.d (.str "a")] = .ok (.d (.bl true)) [.d (.str "a")] := by kernel_rfl
theorem v_names (T : Tx K κ mg) (w l : Int) : f_l_names T [.d (rightD w l)] = .ok (.d (.lst [.str "a"])) [.d (rightD w l)] := by kernel_rfl
theorem v_formed (T : Tx K κ mg) {w l : Int} (hw : 1 < w) (hl : 0 < l) : f_l_formed T [.d (rightD w l), .d (.int 6)] = .ok (.d (.bl true)) [.d (rightD w l), .d (.int 6)] := by
  have tg := v_tag T
  have w1 := v_whole T (w - 1) 1
  have w2 := v_whole T l 1
  rw [decide_eq_true (show 1 ≤ w - 1 by omega)] at w1
  rw [decide_eq_true (show 1 ≤ l by omega)] at w2
  have i0 : gIxT (rightD w l) (.int 0) = some (.str "call") := by kernel_rfl
  have i1 : gIxT (rightD w l) (.int 1) = some (.str "a") := by kernel_rfl
  have i2 : gIxT (rightD w l) (.int 2) = some (.int (w - 1)) := by kernel_rfl
  have i3 : gIxT (rightD w l) (.int 3) = some (.int l) := by kernel_rfl
  have ln : gLen [rightD w l] = some (.int 4) := by kernel_rfl
  have ty : gTy "tuple" (rightD w l) = some true := by kernel_rfl
  have q1 : gEq (.str "call") (.str "call") = some (.bl true) := by kernel_rfl
  have q4 : gEq (.int 4) (.int 4) = some (.bl true) := by kernel_rfl
  have q0 : gEq (.int 4) (.int 0) = some (.bl false) := by kernel_rfl
  have d6 : decide ((6 : Int) < 1) = false := by decide
  generalize rightD w l = r at *
  refine fn_rt (ρ := [some (.d r), some (.d (.int 6)), none]) ?_ rfl
  unfold b_l_formed
  refine seq_nx (ρ' := [some (.d r), some (.d (.int 6)), none]) (by simp only [eV_ev, eC_ev, eOp_ev, eUn_ev, eIsN_ev, eNotN_ev, aNil_ev, aCons_ev, aM_ev, eTup_ev, eLst_ev, eLstM_ev, eCall_ev, eCB_ev, tV_ev, tV'_ev, tAnd'_ev, tOr'_ev, tNot'_ev, eAndV_ev, eOrV_ev, eNotV_ev, eIf_ev, sNil_sv, sSeq_sv, sAsg_sv, sIf_sv, sRet_sv, sDrop_sv, sSetL_sv, sApp_sv, eIxM_ev, eLenM_ev, iT_ev, iL_ev, iR1_ev, iR2_ev, gN_put, gs0_put, gs1_put, gT_put, sAsgG_sv, tYes'_ev, eIs_ev, sRaise_sv, sTry_sv, sNever_sv, sPar_sv, o0_ev, o1_ev, eSlT_ev, sSetD_sv, eIxD_ev, eGetD_ev, eSortD_ev, eDict_ev, eNegC_ev, eRevT_ev, eOrD_ev, eRepM_ev, sAugI_sv, iItemsD_ev, iZip_ev, sRaiseF_sv, eIsX_ev, eFldX_ev, eCatM_ev, eSortIt_ev, sAugAdd, sAugSub, eIntOf, eRep01, eStrOf, eTupOf, eLstOf, eCatT, eInt, eStr, eBl, eNon, eAdd, eSub, eMul, eMulW, eMod, eDiv, ePow, eLt, eLe, eGt, eGe, eEq, eNe, eIxL, eIxT, eLen, eMax2, eMin2, eAll, eAny, eSum, eIsTy, R.bindD_ok, gI, R.bindD_ok, R.bindD_exc, R.bind_ok, R.bind_exc, R.bind_bad, R.of, R.flow, evV, evD, dat, pull, push, callOn, left, begun, List.length_cons, List.length_nil, List.getElem?_cons_zero, List.getElem?_cons_succ, List.set_cons_zero, List.set_cons_succ, if_true, if_false, ite_t, ite_f, Nat.reduceAdd, Nat.reduceLT, Nat.reduceSub, Nat.reduceEqDiff, Nat.reduceLeDiff, List.map_cons, List.map_nil, List.replicate, List.append_nil, List.nil_append, List.cons_append, and_self, true_and, and_true, Bool.not_true, Bool.not_false, Bool.false_eq_true, reduceIte, Nat.zero_add, Nat.lt_add_left_iff_pos, ty, ln, q0, d6]) ?_
  exact seq_rt (by simp only [eV_ev, eC_ev, eOp_ev, eUn_ev, eIsN_ev, eNotN_ev, aNil_ev, aCons_ev, aM_ev, eTup_ev, eLst_ev, eLstM_ev, eCall_ev, eCB_ev, tV_ev, tV'_ev, tAnd'_ev, tOr'_ev, tNot'_ev, eAndV_ev, eOrV_ev, eNotV_ev, eIf_ev, sNil_sv, sSeq_sv, sAsg_sv, sIf_sv, sRet_sv, sDrop_sv, sSetL_sv, sApp_sv, eIxM_ev, eLenM_ev, iT_ev, iL_ev, iR1_ev, iR2_ev, gN_put, gs0_put, gs1_put, gT_put, sAsgG_sv, tYes'_ev, eIs_ev, sRaise_sv, sTry_sv, sNever_sv, sPar_sv, o0_ev, o1_ev, eSlT_ev, sSetD_sv, eIxD_ev, eGetD_ev, eSortD_ev, eDict_ev, eNegC_ev, eRevT_ev, eOrD_ev, eRepM_ev, sAugI_sv, iItemsD_ev, iZip_ev, sRaiseF_sv, eIsX_ev, eFldX_ev, eCatM_ev, eSortIt_ev, sAugAdd, sAugSub, eIntOf, eRep01, eStrOf, eTupOf, eLstOf, eCatT, eInt, eStr, eBl, eNon, eAdd, eSub, eMul, eMulW, eMod, eDiv, ePow, eLt, eLe, eGt, eGe, eEq, eNe, eIxL, eIxT, eLen, eMax2, eMin2, eAll, eAny, eSum, eIsTy, R.bindD_ok, gI, R.bindD_ok, R.bindD_exc, R.bind_ok, R.bind_exc, R.bind_bad, R.of, R.flow, evV, evD, dat, pull, push, callOn, left, begun, List.length_cons, List.length_nil, List.getElem?_cons_zero, List.getElem?_cons_succ, List.set_cons_zero, List.set_cons_succ, if_true, if_false, ite_t, ite_f, Nat.reduceAdd, Nat.reduceLT, Nat.reduceSub, Nat.reduceEqDiff, Nat.reduceLeDiff, List.map_cons, List.map_nil, List.replicate, List.append_nil, List.nil_append, List.cons_append, and_self, true_and, and_true, Bool.not_true, Bool.not_false, Bool.false_eq_true, reduceIte, Nat.zero_add, Nat.lt_add_left_iff_pos, i0, q1, ln, q4, i1, tg, i2, i3, w1, w2])
theorem v_is_right (T : Tx K κ mg) {w l : Int} (hw : 1 < w) (hl : 0 < l) : f_l_is_right T [.d (rightD w l)] = .ok (.d (.bl true)) [.d (rightD w l)] := by
  have f := v_formed T hw hl
  have n := v_names T w l
  have q1 : gEq (.int 1) (.int 1) = some (.bl true) := by kernel_rfl
  have ls : (eLenSet (K := K) (κ := κ) (eCall 1 (f_l_names T) (aCons (eV 0) (aNil)))).ev [some (.d (rightD w l))] = .ok (.d (.int 1)) [some (.d (rightD w l))] := by kernel_rfl
  have le : (eLen (K := K) (κ := κ) (aCons (eCall 1 (f_l_names T) (aCons (eV 0) (aNil))) (aNil))).ev [some (.d (rightD w l))] = .ok (.d (.int 1)) [some (.d (rightD w l))] := by kernel_rfl
  obtain ⟨L1, h1⟩ : ∃ L1, eLenSet (K := K) (κ := κ) (eCall 1 (f_l_names T) (aCons (eV 0) (aNil))) = L1 := ⟨_, rfl⟩
  obtain ⟨L2, h2⟩ : ∃ L2, eLen (K := K) (κ := κ) (aCons (eCall 1 (f_l_names T) (aCons (eV 0) (aNil))) (aNil)) = L2 := ⟨_, rfl⟩
  rw [h1] at ls
  rw [h2] at le
  have b : b_l_is_right T = sSeq (sRet (eAndV (eCall 2 (f_l_formed T) (aCons (eV 0) (aCons (eInt 6) (aNil)))) (eEq L1 L2))) (sNil) := by rw [← h1, ← h2]; rfl
  refine fn_rt (ρ := [some (.d (rightD w l))]) ?_ rfl
  rw [b]
  exact seq_rt (by simp only [eV_ev, eC_ev, eOp_ev, eUn_ev, eIsN_ev, eNotN_ev, aNil_ev, aCons_ev, aM_ev, eTup_ev, eLst_ev, eLstM_ev, eCall_ev, eCB_ev, tV_ev, tV'_ev, tAnd'_ev, tOr'_ev, tNot'_ev, eAndV_ev, eOrV_ev, eNotV_ev, eIf_ev, sNil_sv, sSeq_sv, sAsg_sv, sIf_sv, sRet_sv, sDrop_sv, sSetL_sv, sApp_sv, eIxM_ev, eLenM_ev, iT_ev, iL_ev, iR1_ev, iR2_ev, gN_put, gs0_put, gs1_put, gT_put, sAsgG_sv, tYes'_ev, eIs_ev, sRaise_sv, sTry_sv, sNever_sv, sPar_sv, o0_ev, o1_ev, eSlT_ev, sSetD_sv, eIxD_ev, eGetD_ev, eSortD_ev, eDict_ev, eNegC_ev, eRevT_ev, eOrD_ev, eRepM_ev, sAugI_sv, iItemsD_ev, iZip_ev, sRaiseF_sv, eIsX_ev, eFldX_ev, eCatM_ev, eSortIt_ev, sAugAdd, sAugSub, eIntOf, eRep01, eStrOf, eTupOf, eLstOf, eCatT, eInt, eStr, eBl, eNon, eAdd, eSub, eMul, eMulW, eMod, eDiv, ePow, eLt, eLe, eGt, eGe, eEq, eNe, eIxL, eIxT, eLen, eMax2, eMin2, eAll, eAny, eSum, eIsTy, R.bindD_ok, gI, R.bindD_ok, R.bindD_exc, R.bind_ok, R.bind_exc, R.bind_bad, R.of, R.flow, evV, evD, dat, pull, push, callOn, left, begun, List.length_cons, List.length_nil, List.getElem?_cons_zero, List.getElem?_cons_succ, List.set_cons_zero, List.set_cons_succ, if_true, if_false, ite_t, ite_f, Nat.reduceAdd, Nat.reduceLT, Nat.reduceSub, Nat.reduceEqDiff, Nat.reduceLeDiff, List.map_cons, List.map_nil, List.replicate, List.append_nil, List.nil_append, List.cons_append, and_self, true_and, and_true, Bool.not_true, Bool.not_false, Bool.false_eq_true, reduceIte, Nat.zero_add, Nat.lt_add_left_iff_pos, f, ls, le, q1])
theorem v_top (T : Tx K κ mg) {w l : Int} (hw : 1 < w) (hl : 0 ≤ l) (hl' : l < 10 ^ 6) (v : Int) : f_l_top T [.d (rightD w l), .d (.int v)] = .ok (.d (.int (topM w l v))) [.d (rightD w l), .d (.int v)] := by
  have i0 : gIxT (rightD w l) (.int 0) = some (.str "call") := by kernel_rfl
  have i2 : gIxT (rightD w l) (.int 2) = some (.int (w - 1)) := by kernel_rfl
  have i3 : gIxT (rightD w l) (.int 3) = some (.int l) := by kernel_rfl
  have q1 : gEq (.str "call") (.str "call") = some (.bl true) := by kernel_rfl
  have nn : D.isN (.int v) = false := rfl
  have mm : gMin2 [.int (w - 1), .int (v - 1)] = some (.int (mn (w - 1) (v - 1))) := rfl
  have c : CMul l (mn (w - 1) (v - 1)) := cm (by omega) (by omega)
  generalize rightD w l = r at *
  refine fn_rt (ρ := [some (.d r), some (.d (.int v)), some (.d (.str "call")), none, none]) ?_ rfl
  unfold b_l_top
  refine seq_nx (ρ' := [some (.d r), some (.d (.int v)), some (.d (.str "call")), none, none]) (by simp only [eV_ev, eC_ev, eOp_ev, eUn_ev, eIsN_ev, eNotN_ev, aNil_ev, aCons_ev, aM_ev, eTup_ev, eLst_ev, eLstM_ev, eCall_ev, eCB_ev, tV_ev, tV'_ev, tAnd'_ev, tOr'_ev, tNot'_ev, eAndV_ev, eOrV_ev, eNotV_ev, eIf_ev, sNil_sv, sSeq_sv, sAsg_sv, sIf_sv, sRet_sv, sDrop_sv, sSetL_sv, sApp_sv, eIxM_ev, eLenM_ev, iT_ev, iL_ev, iR1_ev, iR2_ev, gN_put, gs0_put, gs1_put, gT_put, sAsgG_sv, tYes'_ev, eIs_ev, sRaise_sv, sTry_sv, sNever_sv, sPar_sv, o0_ev, o1_ev, eSlT_ev, sSetD_sv, eIxD_ev, eGetD_ev, eSortD_ev, eDict_ev, eNegC_ev, eRevT_ev, eOrD_ev, eRepM_ev, sAugI_sv, iItemsD_ev, iZip_ev, sRaiseF_sv, eIsX_ev, eFldX_ev, eCatM_ev, eSortIt_ev, sAugAdd, sAugSub, eIntOf, eRep01, eStrOf, eTupOf, eLstOf, eCatT, eInt, eStr, eBl, eNon, eAdd, eSub, eMul, eMulW, eMod, eDiv, ePow, eLt, eLe, eGt, eGe, eEq, eNe, eIxL, eIxT, eLen, eMax2, eMin2, eAll, eAny, eSum, eIsTy, R.bindD_ok, gI, R.bindD_ok, R.bindD_exc, R.bind_ok, R.bind_exc, R.bind_bad, R.of, R.flow, evV, evD, dat, pull, push, callOn, left, begun, List.length_cons, List.length_nil, List.getElem?_cons_zero, List.getElem?_cons_succ, List.set_cons_zero, List.set_cons_succ, if_true, if_false, ite_t, ite_f, Nat.reduceAdd, Nat.reduceLT, Nat.reduceSub, Nat.reduceEqDiff, Nat.reduceLeDiff, List.map_cons, List.map_nil, List.replicate, List.append_nil, List.nil_append, List.cons_append, and_self, true_and, and_true, Bool.not_true, Bool.not_false, Bool.false_eq_true, reduceIte, Nat.zero_add, Nat.lt_add_left_iff_pos, i0]) ?_
  exact seq_rt (by simp only [eV_ev, eC_ev, eOp_ev, eUn_ev, eIsN_ev, eNotN_ev, aNil_ev, aCons_ev, aM_ev, eTup_ev, eLst_ev, eLstM_ev, eCall_ev, eCB_ev, tV_ev, tV'_ev, tAnd'_ev, tOr'_ev, tNot'_ev, eAndV_ev, eOrV_ev, eNotV_ev, eIf_ev, sNil_sv, sSeq_sv, sAsg_sv, sIf_sv, sRet_sv, sDrop_sv, sSetL_sv, sApp_sv, eIxM_ev, eLenM_ev, iT_ev, iL_ev, iR1_ev, iR2_ev, gN_put, gs0_put, gs1_put, gT_put, sAsgG_sv, tYes'_ev, eIs_ev, sRaise_sv, sTry_sv, sNever_sv, sPar_sv, o0_ev, o1_ev, eSlT_ev, sSetD_sv, eIxD_ev, eGetD_ev, eSortD_ev, eDict_ev, eNegC_ev, eRevT_ev, eOrD_ev, eRepM_ev, sAugI_sv, iItemsD_ev, iZip_ev, sRaiseF_sv, eIsX_ev, eFldX_ev, eCatM_ev, eSortIt_ev, sAugAdd, sAugSub, eIntOf, eRep01, eStrOf, eTupOf, eLstOf, eCatT, eInt, eStr, eBl, eNon, eAdd, eSub, eMul, eMulW, eMod, eDiv, ePow, eLt, eLe, eGt, eGe, eEq, eNe, eIxL, eIxT, eLen, eMax2, eMin2, eAll, eAny, eSum, eIsTy, R.bindD_ok, gI, R.bindD_ok, R.bindD_exc, R.bind_ok, R.bind_exc, R.bind_bad, R.of, R.flow, evV, evD, dat, pull, push, callOn, left, begun, List.length_cons, List.length_nil, List.getElem?_cons_zero, List.getElem?_cons_succ, List.set_cons_zero, List.set_cons_succ, if_true, if_false, ite_t, ite_f, Nat.reduceAdd, Nat.reduceLT, Nat.reduceSub, Nat.reduceEqDiff, Nat.reduceLeDiff, List.map_cons, List.map_nil, List.replicate, List.append_nil, List.nil_append, List.cons_append, and_self, true_and, and_true, Bool.not_true, Bool.not_false, Bool.false_eq_true, reduceIte, Nat.zero_add, Nat.lt_add_left_iff_pos, q1, i3, i2, nn, mm, if_pos c]; rfl)
theorem v_topN (T : Tx K κ mg) {w l : Int} (hw : 1 < w) (hl : 0 ≤ l) (hl' : l < 10 ^ 6) : f_l_top T [.d (rightD w l), .d .non] = .ok (.d (.int (l * (w - 1)))) [.d (rightD w l), .d .non] := by
  have i0 : gIxT (rightD w l) (.int 0) = some (.str "call") := by kernel_rfl
  have i2 : gIxT (rightD w l) (.int 2) = some (.int (w - 1)) := by kernel_rfl
  have i3 : gIxT (rightD w l) (.int 3) = some (.int l) := by kernel_rfl
  have q1 : gEq (.str "call") (.str "call") = some (.bl true) := by kernel_rfl
  have nn : D.isN .non = true := rfl
  have c : CMul l (w - 1) := cm (by omega) (by omega)
  generalize rightD w l = r at *
  refine fn_rt (ρ := [some (.d r), some (.d .non), some (.d (.str "call")), none, none]) ?_ rfl
  unfold b_l_top
  refine seq_nx (ρ' := [some (.d r), some (.d .non), some (.d (.str "call")), none, none]) (by simp only [eV_ev, eC_ev, eOp_ev, eUn_ev, eIsN_ev, eNotN_ev, aNil_ev, aCons_ev, aM_ev, eTup_ev, eLst_ev, eLstM_ev, eCall_ev, eCB_ev, tV_ev, tV'_ev, tAnd'_ev, tOr'_ev, tNot'_ev, eAndV_ev, eOrV_ev, eNotV_ev, eIf_ev, sNil_sv, sSeq_sv, sAsg_sv, sIf_sv, sRet_sv, sDrop_sv, sSetL_sv, sApp_sv, eIxM_ev, eLenM_ev, iT_ev, iL_ev, iR1_ev, iR2_ev, gN_put, gs0_put, gs1_put, gT_put, sAsgG_sv, tYes'_ev, eIs_ev, sRaise_sv, sTry_sv, sNever_sv, sPar_sv, o0_ev, o1_ev, eSlT_ev, sSetD_sv, eIxD_ev, eGetD_ev, eSortD_ev, eDict_ev, eNegC_ev, eRevT_ev, eOrD_ev, eRepM_ev, sAugI_sv, iItemsD_ev, iZip_ev, sRaiseF_sv, eIsX_ev, eFldX_ev, eCatM_ev, eSortIt_ev, sAugAdd, sAugSub, eIntOf, eRep01, eStrOf, eTupOf, eLstOf, eCatT, eInt, eStr, eBl, eNon, eAdd, eSub, eMul, eMulW, eMod, eDiv, ePow, eLt, eLe, eGt, eGe, eEq, eNe, eIxL, eIxT, eLen, eMax2, eMin2, eAll, eAny, eSum, eIsTy, R.bindD_ok, gI, R.bindD_ok, R.bindD_exc, R.bind_ok, R.bind_exc, R.bind_bad, R.of, R.flow, evV, evD, dat, pull, push, callOn, left, begun, List.length_cons, List.length_nil, List.getElem?_cons_zero, List.getElem?_cons_succ, List.set_cons_zero, List.set_cons_succ, if_true, if_false, ite_t, ite_f, Nat.reduceAdd, Nat.reduceLT, Nat.reduceSub, Nat.reduceEqDiff, Nat.reduceLeDiff, List.map_cons, List.map_nil, List.replicate, List.append_nil, List.nil_append, List.cons_append, and_self, true_and, and_true, Bool.not_true, Bool.not_false, Bool.false_eq_true, reduceIte, Nat.zero_add, Nat.lt_add_left_iff_pos, i0]) ?_
  exact seq_rt (by simp only [eV_ev, eC_ev, eOp_ev, eUn_ev, eIsN_ev, eNotN_ev, aNil_ev, aCons_ev, aM_ev, eTup_ev, eLst_ev, eLstM_ev, eCall_ev, eCB_ev, tV_ev, tV'_ev, tAnd'_ev, tOr'_ev, tNot'_ev, eAndV_ev, eOrV_ev, eNotV_ev, eIf_ev, sNil_sv, sSeq_sv, sAsg_sv, sIf_sv, sRet_sv, sDrop_sv, sSetL_sv, sApp_sv, eIxM_ev, eLenM_ev, iT_ev, iL_ev, iR1_ev, iR2_ev, gN_put, gs0_put, gs1_put, gT_put, sAsgG_sv, tYes'_ev, eIs_ev, sRaise_sv, sTry_sv, sNever_sv, sPar_sv, o0_ev, o1_ev, eSlT_ev, sSetD_sv, eIxD_ev, eGetD_ev, eSortD_ev, eDict_ev, eNegC_ev, eRevT_ev, eOrD_ev, eRepM_ev, sAugI_sv, iItemsD_ev, iZip_ev, sRaiseF_sv, eIsX_ev, eFldX_ev, eCatM_ev, eSortIt_ev, sAugAdd, sAugSub, eIntOf, eRep01, eStrOf, eTupOf, eLstOf, eCatT, eInt, eStr, eBl, eNon, eAdd, eSub, eMul, eMulW, eMod, eDiv, ePow, eLt, eLe, eGt, eGe, eEq, eNe, eIxL, eIxT, eLen, eMax2, eMin2, eAll, eAny, eSum, eIsTy, R.bindD_ok, gI, R.bindD_ok, R.bindD_exc, R.bind_ok, R.bind_exc, R.bind_bad, R.of, R.flow, evV, evD, dat, pull, push, callOn, left, begun, List.length_cons, List.length_nil, List.getElem?_cons_zero, List.getElem?_cons_succ, List.set_cons_zero, List.set_cons_succ, if_true, if_false, ite_t, ite_f, Nat.reduceAdd, Nat.reduceLT, Nat.reduceSub, Nat.reduceEqDiff, Nat.reduceLeDiff, List.map_cons, List.map_nil, List.replicate, List.append_nil, List.nil_append, List.cons_append, and_self, true_and, and_true, Bool.not_true, Bool.not_false, Bool.false_eq_true, reduceIte, Nat.zero_add, Nat.lt_add_left_iff_pos, q1, i3, i2, nn, if_pos c])
/-! held -/
def bd_hold (T : Tx K κ mg) : SS K κ := (sSeq (sIf (tAnd' (tV' (eGt (eV 2) (eInt 1))) (tV' (eGt (eCall 2 (f_l_top T) (aCons (eV 1) (aCons (eV 2) (aNil)))) (eCall 2 (f_l_under T) (aCons (eV 0) (aCons (eV 2) (aNil))))))) (sSeq (sRet (eBl false))
    (sNil)) (sNil))
    (sNil))
theorem hold_loop (T : Tx K κ mg) {ps : List (Int × Int)} (h : Pil ps) {w l : Int} (hw : 1 < w) (hl : 0 ≤ l) (hl' : l < 10 ^ 6) : ∀ (suf : List (Int × Int)) (u v : Option W), ∃ u' v', loopS (gT 2 (gs1 (gN (K := K) (κ := κ) 2) (gs1 (gN 3) (gs0)))).put (bd_hold T).sv (suf.map pr) [some (.d (pl ps)), some (.d (rightD w l)), u, v] =
    .ok (if (suf.all fun p => !(decide (1 < p.1) && decide (undP ps p.1 < topM w l p.1))) = true then .nx else .rt (.d (.bl false))) [some (.d (pl ps)), some (.d (rightD w l)), u', v'] := by
  intro suf
  induction suf with
  | nil => intro u v; exact ⟨u, v, rfl⟩
  | cons p suf ih =>
    intro u v
    have tp := v_top T hw hl hl' p.1
    have ud := v_under T h p.1
    rw [List.map_cons]
    by_cases c : 1 < p.1 ∧ undP ps p.1 < topM w l p.1
    · have e : ((p :: suf).all fun p => !(decide (1 < p.1) && decide (undP ps p.1 < topM w l p.1))) = false := by
        rw [List.all_cons, decide_eq_true c.1, decide_eq_true c.2]
        rfl
      rw [e]
      refine ⟨some (.d (.int p.1)), some (.d (.int p.2)), loop_rt (ρ1 := [some (.d (pl ps)), some (.d (rightD w l)), some (.d (.int p.1)), some (.d (.int p.2))]) rfl ?_⟩
      unfold bd_hold
      simp only [eV_ev, eC_ev, eOp_ev, eUn_ev, eIsN_ev, eNotN_ev, aNil_ev, aCons_ev, aM_ev, eTup_ev, eLst_ev, eLstM_ev, eCall_ev, eCB_ev, tV_ev, tV'_ev, tAnd'_ev, tOr'_ev, tNot'_ev, eAndV_ev, eOrV_ev, eNotV_ev, eIf_ev, sNil_sv, sSeq_sv, sAsg_sv, sIf_sv, sRet_sv, sDrop_sv, sSetL_sv, sApp_sv, eIxM_ev, eLenM_ev, iT_ev, iL_ev, iR1_ev, iR2_ev, gN_put, gs0_put, gs1_put, gT_put, sAsgG_sv, tYes'_ev, eIs_ev, sRaise_sv, sTry_sv, sNever_sv, sPar_sv, o0_ev, o1_ev, eSlT_ev, sSetD_sv, eIxD_ev, eGetD_ev, eSortD_ev, eDict_ev, eNegC_ev, eRevT_ev, eOrD_ev, eRepM_ev, sAugI_sv, iItemsD_ev, iZip_ev, sRaiseF_sv, eIsX_ev, eFldX_ev, eCatM_ev, eSortIt_ev, sAugAdd, sAugSub, eIntOf, eRep01, eStrOf, eTupOf, eLstOf, eCatT, eInt, eStr, eBl, eNon, eAdd, eSub, eMul, eMulW, eMod, eDiv, ePow, eLt, eLe, eGt, eGe, eEq, eNe, eIxL, eIxT, eLen, eMax2, eMin2, eAll, eAny, eSum, eIsTy, R.bindD_ok, gI, R.bindD_ok, R.bindD_exc, R.bind_ok, R.bind_exc, R.bind_bad, R.of, R.flow, evV, evD, dat, pull, push, callOn, left, begun, List.length_cons, List.length_nil, List.getElem?_cons_zero, List.getElem?_cons_succ, List.set_cons_zero, List.set_cons_succ, if_true, if_false, ite_t, ite_f, Nat.reduceAdd, Nat.reduceLT, Nat.reduceSub, Nat.reduceEqDiff, Nat.reduceLeDiff, List.map_cons, List.map_nil, List.replicate, List.append_nil, List.nil_append, List.cons_append, and_self, true_and, and_true, Bool.not_true, Bool.not_false, Bool.false_eq_true, reduceIte, Nat.zero_add, Nat.lt_add_left_iff_pos, decide_eq_true c.1, tp, ud, decide_eq_true c.2]
    · have e : ((p :: suf).all fun p => !(decide (1 < p.1) && decide (undP ps p.1 < topM w l p.1))) = (suf.all fun p => !(decide (1 < p.1) && decide (undP ps p.1 < topM w l p.1))) := by
        rw [List.all_cons]
        by_cases c1 : 1 < p.1
        · rw [decide_eq_false (fun z => c ⟨c1, z⟩)]
          simp
        · rw [decide_eq_false c1]
          simp
      rw [e]
      obtain ⟨u', v', f⟩ := ih (some (.d (.int p.1))) (some (.d (.int p.2)))
      refine ⟨u', v', (loop_nx (ρ1 := [some (.d (pl ps)), some (.d (rightD w l)), some (.d (.int p.1)), some (.d (.int p.2))]) rfl ?_).trans f⟩
      unfold bd_hold
      by_cases c1 : 1 < p.1
      · simp only [eV_ev, eC_ev, eOp_ev, eUn_ev, eIsN_ev, eNotN_ev, aNil_ev, aCons_ev, aM_ev, eTup_ev, eLst_ev, eLstM_ev, eCall_ev, eCB_ev, tV_ev, tV'_ev, tAnd'_ev, tOr'_ev, tNot'_ev, eAndV_ev, eOrV_ev, eNotV_ev, eIf_ev, sNil_sv, sSeq_sv, sAsg_sv, sIf_sv, sRet_sv, sDrop_sv, sSetL_sv, sApp_sv, eIxM_ev, eLenM_ev, iT_ev, iL_ev, iR1_ev, iR2_ev, gN_put, gs0_put, gs1_put, gT_put, sAsgG_sv, tYes'_ev, eIs_ev, sRaise_sv, sTry_sv, sNever_sv, sPar_sv, o0_ev, o1_ev, eSlT_ev, sSetD_sv, eIxD_ev, eGetD_ev, eSortD_ev, eDict_ev, eNegC_ev, eRevT_ev, eOrD_ev, eRepM_ev, sAugI_sv, iItemsD_ev, iZip_ev, sRaiseF_sv, eIsX_ev, eFldX_ev, eCatM_ev, eSortIt_ev, sAugAdd, sAugSub, eIntOf, eRep01, eStrOf, eTupOf, eLstOf, eCatT, eInt, eStr, eBl, eNon, eAdd, eSub, eMul, eMulW, eMod, eDiv, ePow, eLt, eLe, eGt, eGe, eEq, eNe, eIxL, eIxT, eLen, eMax2, eMin2, eAll, eAny, eSum, eIsTy, R.bindD_ok, gI, R.bindD_ok, R.bindD_exc, R.bind_ok, R.bind_exc, R.bind_bad, R.of, R.flow, evV, evD, dat, pull, push, callOn, left, begun, List.length_cons, List.length_nil, List.getElem?_cons_zero, List.getElem?_cons_succ, List.set_cons_zero, List.set_cons_succ, if_true, if_false, ite_t, ite_f, Nat.reduceAdd, Nat.reduceLT, Nat.reduceSub, Nat.reduceEqDiff, Nat.reduceLeDiff, List.map_cons, List.map_nil, List.replicate, List.append_nil, List.nil_append, List.cons_append, and_self, true_and, and_true, Bool.not_true, Bool.not_false, Bool.false_eq_true, reduceIte, Nat.zero_add, Nat.lt_add_left_iff_pos, decide_eq_true c1, tp, ud, decide_eq_false (fun z => c ⟨c1, z⟩)]
      · simp only [eV_ev, eC_ev, eOp_ev, eUn_ev, eIsN_ev, eNotN_ev, aNil_ev, aCons_ev, aM_ev, eTup_ev, eLst_ev, eLstM_ev, eCall_ev, eCB_ev, tV_ev, tV'_ev, tAnd'_ev, tOr'_ev, tNot'_ev, eAndV_ev, eOrV_ev, eNotV_ev, eIf_ev, sNil_sv, sSeq_sv, sAsg_sv, sIf_sv, sRet_sv, sDrop_sv, sSetL_sv, sApp_sv, eIxM_ev, eLenM_ev, iT_ev, iL_ev, iR1_ev, iR2_ev, gN_put, gs0_put, gs1_put, gT_put, sAsgG_sv, tYes'_ev, eIs_ev, sRaise_sv, sTry_sv, sNever_sv, sPar_sv, o0_ev, o1_ev, eSlT_ev, sSetD_sv, eIxD_ev, eGetD_ev, eSortD_ev, eDict_ev, eNegC_ev, eRevT_ev, eOrD_ev, eRepM_ev, sAugI_sv, iItemsD_ev, iZip_ev, sRaiseF_sv, eIsX_ev, eFldX_ev, eCatM_ev, eSortIt_ev, sAugAdd, sAugSub, eIntOf, eRep01, eStrOf, eTupOf, eLstOf, eCatT, eInt, eStr, eBl, eNon, eAdd, eSub, eMul, eMulW, eMod, eDiv, ePow, eLt, eLe, eGt, eGe, eEq, eNe, eIxL, eIxT, eLen, eMax2, eMin2, eAll, eAny, eSum, eIsTy, R.bindD_ok, gI, R.bindD_ok, R.bindD_exc, R.bind_ok, R.bind_exc, R.bind_bad, R.of, R.flow, evV, evD, dat, pull, push, callOn, left, begun, List.length_cons, List.length_nil, List.getElem?_cons_zero, List.getElem?_cons_succ, List.set_cons_zero, List.set_cons_succ, if_true, if_false, ite_t, ite_f, Nat.reduceAdd, Nat.reduceLT, Nat.reduceSub, Nat.reduceEqDiff, Nat.reduceLeDiff, List.map_cons, List.map_nil, List.replicate, List.append_nil, List.nil_append, List.cons_append, and_self, true_and, and_true, Bool.not_true, Bool.not_false, Bool.false_eq_true, reduceIte, Nat.zero_add, Nat.lt_add_left_iff_pos, decide_eq_false c1]
theorem v_holds (T : Tx K κ mg) {ps : List (Int × Int)} (h : Pil ps) {w l : Int} (hw : 1 < w) (hl : 0 ≤ l) (hl' : l < 10 ^ 6) : f_l_holds T [.d (pl ps), .d (rightD w l)] = .ok (.d (.bl (holdB ps w l))) [.d (pl ps), .d (rightD w l)] := by
  obtain ⟨u', v', e⟩ := hold_loop T h hw hl hl' ps none none
  have f : (sFor (iT (eV 0)) (gT 2 (gs1 (gN 2) (gs1 (gN 3) (gs0)))) (bd_hold T)).sv [some (.d (pl ps)), some (.d (rightD w l)), none, none] = _ := for_of (ρ1 := [some (.d (pl ps)), some (.d (rightD w l)), none, none]) (xs := ps.map pr) rfl e
  have tn := v_topN T hw hl hl'
  have su := v_l_sum T h
  have b : b_l_holds T = sSeq (sFor (iT (eV 0)) (gT 2 (gs1 (gN 2) (gs1 (gN 3) (gs0)))) (bd_hold T)) (sSeq (sRet (eLe (eCall 2 (f_l_top T) (aCons (eV 1) (aCons (eNon) (aNil)))) (eCall 1 (f_l_sum T) (aCons (eV 0) (aNil))))) (sNil)) := rfl
  refine fn_rt (ρ := [some (.d (pl ps)), some (.d (rightD w l)), u', v']) ?_ rfl
  rw [b]
  unfold holdB
  cases hb : (ps.all fun p => !(decide (1 < p.1) && decide (undP ps p.1 < topM w l p.1))) with
  | true =>
    rw [hb, if_pos rfl] at f
    refine seq_nx f ?_
    exact seq_rt (by simp only [eV_ev, eC_ev, eOp_ev, eUn_ev, eIsN_ev, eNotN_ev, aNil_ev, aCons_ev, aM_ev, eTup_ev, eLst_ev, eLstM_ev, eCall_ev, eCB_ev, tV_ev, tV'_ev, tAnd'_ev, tOr'_ev, tNot'_ev, eAndV_ev, eOrV_ev, eNotV_ev, eIf_ev, sNil_sv, sSeq_sv, sAsg_sv, sIf_sv, sRet_sv, sDrop_sv, sSetL_sv, sApp_sv, eIxM_ev, eLenM_ev, iT_ev, iL_ev, iR1_ev, iR2_ev, gN_put, gs0_put, gs1_put, gT_put, sAsgG_sv, tYes'_ev, eIs_ev, sRaise_sv, sTry_sv, sNever_sv, sPar_sv, o0_ev, o1_ev, eSlT_ev, sSetD_sv, eIxD_ev, eGetD_ev, eSortD_ev, eDict_ev, eNegC_ev, eRevT_ev, eOrD_ev, eRepM_ev, sAugI_sv, iItemsD_ev, iZip_ev, sRaiseF_sv, eIsX_ev, eFldX_ev, eCatM_ev, eSortIt_ev, sAugAdd, sAugSub, eIntOf, eRep01, eStrOf, eTupOf, eLstOf, eCatT, eInt, eStr, eBl, eNon, eAdd, eSub, eMul, eMulW, eMod, eDiv, ePow, eLt, eLe, eGt, eGe, eEq, eNe, eIxL, eIxT, eLen, eMax2, eMin2, eAll, eAny, eSum, eIsTy, R.bindD_ok, gI, R.bindD_ok, R.bindD_exc, R.bind_ok, R.bind_exc, R.bind_bad, R.of, R.flow, evV, evD, dat, pull, push, callOn, left, begun, List.length_cons, List.length_nil, List.getElem?_cons_zero, List.getElem?_cons_succ, List.set_cons_zero, List.set_cons_succ, if_true, if_false, ite_t, ite_f, Nat.reduceAdd, Nat.reduceLT, Nat.reduceSub, Nat.reduceEqDiff, Nat.reduceLeDiff, List.map_cons, List.map_nil, List.replicate, List.append_nil, List.nil_append, List.cons_append, and_self, true_and, and_true, Bool.not_true, Bool.not_false, Bool.false_eq_true, reduceIte, Nat.zero_add, Nat.lt_add_left_iff_pos, tn, su, Bool.true_and])
  | false =>
    rw [hb, if_neg (by decide)] at f
    exact seq_rt f
end
end K49

set_option maxRecDepth 100000
set_option maxHeartbeats 4000000
namespace K49
open PySem PySem.Spec PyProof.Rows L2 Pv P25 P66 P49
section
variable {K : PySem.W.Frag} {κ : Cls} {mg : Str → Option Value}
/-! the company is a pile -/
def bd_isp (T : Tx K κ mg) : SS K κ := (sSeq (sIf (tOr' (tNot' (tV (eIsTy "tuple" (eV 1)))) (tV' (eNe (eLen (aCons (eV 1) (aNil))) (eInt 2)))) (sSeq (sRet (eBl false))
    (sNil)) (sNil))
    (sSeq (sIf (tOr' (tNot' (tV (eCall 2 (f_l_whole_from T) (aCons (eIxT (eV 1) (eInt 0)) (aCons (eInt 1) (aNil)))))) (tNot' (tV (eCall 2 (f_l_whole_from T) (aCons (eIxT (eV 1) (eInt 1)) (aCons (eInt 1) (aNil))))))) (sSeq (sRet (eBl false))
    (sNil)) (sNil))
    (sNil)))
theorem isp_step (T : Tx K κ mg) (t : D) (a b : Int) (ha : 1 ≤ a) (hb : 1 ≤ b) : (bd_isp T).sv [some (.d t), some (.d (pr (a, b))), none, none] = .ok .nx [some (.d t), some (.d (pr (a, b))), none, none] := by
  have w1 := v_whole T a 1
  have w2 := v_whole T b 1
  rw [decide_eq_true ha] at w1
  rw [decide_eq_true hb] at w2
  have ty : gTy "tuple" (pr (a, b)) = some true := by kernel_rfl
  have ln : gLen [pr (a, b)] = some (.int 2) := by kernel_rfl
  have n2 : gNe (.int 2) (.int 2) = some (.bl false) := by kernel_rfl
  have i0 : gIxT (pr (a, b)) (.int 0) = some (.int a) := by kernel_rfl
  have i1 : gIxT (pr (a, b)) (.int 1) = some (.int b) := by kernel_rfl
  generalize pr (a, b) = r at *
  unfold bd_isp
  simp only [eV_ev, eC_ev, eOp_ev, eUn_ev, eIsN_ev, eNotN_ev, aNil_ev, aCons_ev, aM_ev, eTup_ev, eLst_ev, eLstM_ev, eCall_ev, eCB_ev, tV_ev, tV'_ev, tAnd'_ev, tOr'_ev, tNot'_ev, eAndV_ev, eOrV_ev, eNotV_ev, eIf_ev, sNil_sv, sSeq_sv, sAsg_sv, sIf_sv, sRet_sv, sDrop_sv, sSetL_sv, sApp_sv, eIxM_ev, eLenM_ev, iT_ev, iL_ev, iR1_ev, iR2_ev, gN_put, gs0_put, gs1_put, gT_put, sAsgG_sv, tYes'_ev, eIs_ev, sRaise_sv, sTry_sv, sNever_sv, sPar_sv, o0_ev, o1_ev, eSlT_ev, sSetD_sv, eIxD_ev, eGetD_ev, eSortD_ev, eDict_ev, eNegC_ev, eRevT_ev, eOrD_ev, eRepM_ev, sAugI_sv, iItemsD_ev, iZip_ev, sRaiseF_sv, eIsX_ev, eFldX_ev, eCatM_ev, eSortIt_ev, sAugAdd, sAugSub, eIntOf, eRep01, eStrOf, eTupOf, eLstOf, eCatT, eInt, eStr, eBl, eNon, eAdd, eSub, eMul, eMulW, eMod, eDiv, ePow, eLt, eLe, eGt, eGe, eEq, eNe, eIxL, eIxT, eLen, eMax2, eMin2, eAll, eAny, eSum, eIsTy, R.bindD_ok, gI, R.bindD_ok, R.bindD_exc, R.bind_ok, R.bind_exc, R.bind_bad, R.of, R.flow, evV, evD, dat, pull, push, callOn, left, begun, List.length_cons, List.length_nil, List.getElem?_cons_zero, List.getElem?_cons_succ, List.set_cons_zero, List.set_cons_succ, if_true, if_false, ite_t, ite_f, Nat.reduceAdd, Nat.reduceLT, Nat.reduceSub, Nat.reduceEqDiff, Nat.reduceLeDiff, List.map_cons, List.map_nil, List.replicate, List.append_nil, List.nil_append, List.cons_append, and_self, true_and, and_true, Bool.not_true, Bool.not_false, Bool.false_eq_true, reduceIte, Nat.zero_add, Nat.lt_add_left_iff_pos, ty, ln, n2, i0, i1, w1, w2]
def lcIsp : SE K κ := eLc (iZipT (eV 0) (eSlT (eV 0) (o1 (eInt 1)) (o0))) (gT 2 (gs1 (gN 2) (gs1 (gN 3) (gs0)))) (tYes') (eLt (eIxT (eV 2) (eInt 0)) (eIxT (eV 3) (eInt 0))) [2, 3] (fun _ h => h)
def bools01 (ps : List (Int × Int)) : List D := ((ps.zip (ps.drop 1)).map fun q => D.bl (decide (q.1.1 < q.2.1)))
theorem isp_lc (ps : List (Int × Int)) (l : Option W) (hl : ps.length ≤ 100) : (lcIsp (K := K) (κ := κ)).ev [some (.d (pl ps)), l, none, none] = .ok (.d (.lst (bools01 ps))) [some (.d (pl ps)), l, none, none] := by
  have it : (iZipT (K := K) (κ := κ) (eV 0) (eSlT (eV 0) (o1 (eInt 1)) (o0))).ev [some (.d (pl ps)), l, none, none] = .ok ((ps.zip (ps.drop 1)).map fun q => Pv.pairD (pr q.1, pr q.2)) [some (.d (pl ps)), l, none, none] := by
    have c : Pv.cutD (ps.map pr) (some 1) none = (ps.drop 1).map pr := by
      unfold Pv.cutD
      cases ps with
      | nil => rfl
      | cons p ps =>
        have h1 : HT.sIx ((p :: ps).map pr).length 0 (some 1) = 1 := by
          show HT.sIx ((p :: ps).map pr).length 0 (some 1) = 1
          unfold HT.sIx
          simp
        have h2 : HT.sIx ((p :: ps).map pr).length ((p :: ps).map pr).length none = ((p :: ps).map pr).length := rfl
        rw [h1, h2]
        simp only [List.map_cons, List.length_cons, List.drop_succ_cons, List.drop_zero, Nat.add_sub_cancel]
        exact List.take_of_length_le (Nat.le_refl _)
    show R.ok (((ps.map pr).zip (Pv.cutD (ps.map pr) (some 1) none)).map Pv.pairD) [some (.d (pl ps)), l, none, none] = _
    rw [c, List.zip_map, List.map_map]
    rfl
  have lo := loopC_map (vs := [2, 3]) (put := (gT 2 (gs1 (gN (K := K) (κ := κ) 2) (gs1 (gN 3) (gs0)))).put) (t := (tYes' (K := K) (κ := κ)).ev) (e := (eLt (K := K) (κ := κ) (eIxT (eV 2) (eInt 0)) (eIxT (eV 3) (eInt 0))).ev) (ρ0 := [some (.d (pl ps)), l, none, none])
    (fun q : (Int × Int) × (Int × Int) => Pv.pairD (pr q.1, pr q.2)) (fun q => some (.bl (decide (q.1.1 < q.2.1)))) (ps.zip (ps.drop 1)) [] (fun q hq => by
      have i1 : gIxT (pr q.1) (.int 0) = some (.int q.1.1) := by kernel_rfl
      have i2 : gIxT (pr q.2) (.int 0) = some (.int q.2.1) := by kernel_rfl
      refine ⟨[some (.d (pl ps)), l, some (.d (pr q.1)), some (.d (pr q.2))], [some (.d (pl ps)), l, some (.d (pr q.1)), some (.d (pr q.2))], rfl, [some (.d (pl ps)), l, some (.d (pr q.1)), some (.d (pr q.2))], rfl, ?_, rfl⟩
      generalize pr q.1 = r1 at *
      generalize pr q.2 = r2 at *
      simp only [eV_ev, eC_ev, eOp_ev, eUn_ev, eIsN_ev, eNotN_ev, aNil_ev, aCons_ev, aM_ev, eTup_ev, eLst_ev, eLstM_ev, eCall_ev, eCB_ev, tV_ev, tV'_ev, tAnd'_ev, tOr'_ev, tNot'_ev, eAndV_ev, eOrV_ev, eNotV_ev, eIf_ev, sNil_sv, sSeq_sv, sAsg_sv, sIf_sv, sRet_sv, sDrop_sv, sSetL_sv, sApp_sv, eIxM_ev, eLenM_ev, iT_ev, iL_ev, iR1_ev, iR2_ev, gN_put, gs0_put, gs1_put, gT_put, sAsgG_sv, tYes'_ev, eIs_ev, sRaise_sv, sTry_sv, sNever_sv, sPar_sv, o0_ev, o1_ev, eSlT_ev, sSetD_sv, eIxD_ev, eGetD_ev, eSortD_ev, eDict_ev, eNegC_ev, eRevT_ev, eOrD_ev, eRepM_ev, sAugI_sv, iItemsD_ev, iZip_ev, sRaiseF_sv, eIsX_ev, eFldX_ev, eCatM_ev, eSortIt_ev, sAugAdd, sAugSub, eIntOf, eRep01, eStrOf, eTupOf, eLstOf, eCatT, eInt, eStr, eBl, eNon, eAdd, eSub, eMul, eMulW, eMod, eDiv, ePow, eLt, eLe, eGt, eGe, eEq, eNe, eIxL, eIxT, eLen, eMax2, eMin2, eAll, eAny, eSum, eIsTy, R.bindD_ok, gI, R.bindD_ok, R.bindD_exc, R.bind_ok, R.bind_exc, R.bind_bad, R.of, R.flow, evV, evD, dat, pull, push, callOn, left, begun, List.length_cons, List.length_nil, List.getElem?_cons_zero, List.getElem?_cons_succ, List.set_cons_zero, List.set_cons_succ, if_true, if_false, ite_t, ite_f, Nat.reduceAdd, Nat.reduceLT, Nat.reduceSub, Nat.reduceEqDiff, Nat.reduceLeDiff, List.map_cons, List.map_nil, List.replicate, List.append_nil, List.nil_append, List.cons_append, and_self, true_and, and_true, Bool.not_true, Bool.not_false, Bool.false_eq_true, reduceIte, Nat.zero_add, Nat.lt_add_left_iff_pos, i1, i2]) (by simp; omega)
  rw [List.nil_append, fm_some] at lo
  exact lc_of (vs := [2, 3]) (g := gT 2 (gs1 (gN 2) (gs1 (gN 3) (gs0)))) (t := tYes') (e := eLt (eIxT (eV 2) (eInt 0)) (eIxT (eV 3) (eInt 0))) (hv := fun _ h => h) it rfl lo rfl
theorem isp_loop (T : Tx K κ mg) (t : D) : ∀ (ps : List (Int × Int)) (l : Option W), (∀ p ∈ ps, 1 ≤ p.1 ∧ 1 ≤ p.2) → ∃ l', loopS (gN (K := K) (κ := κ) 1).put (bd_isp T).sv (ps.map pr) [some (.d t), l, none, none] = .ok .nx [some (.d t), l', none, none] := by
  intro ps
  induction ps with
  | nil => intro l _; exact ⟨l, rfl⟩
  | cons p ps ih =>
    intro l h
    have hp := h p (by simp)
    obtain ⟨l', e⟩ := ih (some (.d (pr p))) fun q hq => h q (by simp [hq])
    exact ⟨l', (loop_nx (ρ1 := [some (.d t), some (.d (pr p)), none, none]) rfl (isp_step T t p.1 p.2 hp.1 hp.2)).trans e⟩
theorem v_l_is_pile (T : Tx K κ mg) {w l : Int} (hw : 1 < w) (hl : 0 < l) : f_l_is_pile T [.d (pl (comp w l))] = .ok (.d (.bl true)) [.d (pl (comp w l))] := by
  have up := comp_up hw hl
  have ge := up_ge up
  have few : (comp w l).length ≤ 100 := by unfold comp; split <;> simp
  have al : gAll [.lst (bools01 (comp w l))] = some (.bl true) := by
    unfold comp
    split
    · show gAll [.lst [.bl (decide (1 < w))]] = _
      rw [decide_eq_true hw]
      kernel_rfl
    · kernel_rfl
  generalize comp w l = ps at *
  have ty : gTy "tuple" (pl ps) = some true := by
    unfold pl
    generalize ps.map pr = xs
    kernel_rfl
  obtain ⟨l', e⟩ := isp_loop T (pl ps) ps none fun p hp => by have := ge p hp; omega
  have f : (sFor (iT (eV 0)) (gN 1) (bd_isp T)).sv [some (.d (pl ps)), none, none, none] = _ := for_of (ρ1 := [some (.d (pl ps)), none, none, none]) (xs := ps.map pr) rfl e
  have lc := isp_lc (K := K) (κ := κ) ps l' few
  have b : b_l_is_pile T = sSeq (sIf (tNot' (tV (eIsTy "tuple" (eV 0)))) (sSeq (sRet (eBl false)) (sNil)) (sNil)) (sSeq (sFor (iT (eV 0)) (gN 1) (bd_isp T)) (sSeq (sRet (eAll (aCons lcIsp (aNil)))) (sNil))) := rfl
  refine fn_rt (ρ := [some (.d (pl ps)), l', none, none]) ?_ rfl
  rw [b]
  refine seq_nx (ρ' := [some (.d (pl ps)), none, none, none]) (by simp only [eV_ev, eC_ev, eOp_ev, eUn_ev, eIsN_ev, eNotN_ev, aNil_ev, aCons_ev, aM_ev, eTup_ev, eLst_ev, eLstM_ev, eCall_ev, eCB_ev, tV_ev, tV'_ev, tAnd'_ev, tOr'_ev, tNot'_ev, eAndV_ev, eOrV_ev, eNotV_ev, eIf_ev, sNil_sv, sSeq_sv, sAsg_sv, sIf_sv, sRet_sv, sDrop_sv, sSetL_sv, sApp_sv, eIxM_ev, eLenM_ev, iT_ev, iL_ev, iR1_ev, iR2_ev, gN_put, gs0_put, gs1_put, gT_put, sAsgG_sv, tYes'_ev, eIs_ev, sRaise_sv, sTry_sv, sNever_sv, sPar_sv, o0_ev, o1_ev, eSlT_ev, sSetD_sv, eIxD_ev, eGetD_ev, eSortD_ev, eDict_ev, eNegC_ev, eRevT_ev, eOrD_ev, eRepM_ev, sAugI_sv, iItemsD_ev, iZip_ev, sRaiseF_sv, eIsX_ev, eFldX_ev, eCatM_ev, eSortIt_ev, sAugAdd, sAugSub, eIntOf, eRep01, eStrOf, eTupOf, eLstOf, eCatT, eInt, eStr, eBl, eNon, eAdd, eSub, eMul, eMulW, eMod, eDiv, ePow, eLt, eLe, eGt, eGe, eEq, eNe, eIxL, eIxT, eLen, eMax2, eMin2, eAll, eAny, eSum, eIsTy, R.bindD_ok, gI, R.bindD_ok, R.bindD_exc, R.bind_ok, R.bind_exc, R.bind_bad, R.of, R.flow, evV, evD, dat, pull, push, callOn, left, begun, List.length_cons, List.length_nil, List.getElem?_cons_zero, List.getElem?_cons_succ, List.set_cons_zero, List.set_cons_succ, if_true, if_false, ite_t, ite_f, Nat.reduceAdd, Nat.reduceLT, Nat.reduceSub, Nat.reduceEqDiff, Nat.reduceLeDiff, List.map_cons, List.map_nil, List.replicate, List.append_nil, List.nil_append, List.cons_append, and_self, true_and, and_true, Bool.not_true, Bool.not_false, Bool.false_eq_true, reduceIte, Nat.zero_add, Nat.lt_add_left_iff_pos, ty]) ?_
  refine seq_nx f ?_
  exact seq_rt (by simp only [eV_ev, eC_ev, eOp_ev, eUn_ev, eIsN_ev, eNotN_ev, aNil_ev, aCons_ev, aM_ev, eTup_ev, eLst_ev, eLstM_ev, eCall_ev, eCB_ev, tV_ev, tV'_ev, tAnd'_ev, tOr'_ev, tNot'_ev, eAndV_ev, eOrV_ev, eNotV_ev, eIf_ev, sNil_sv, sSeq_sv, sAsg_sv, sIf_sv, sRet_sv, sDrop_sv, sSetL_sv, sApp_sv, eIxM_ev, eLenM_ev, iT_ev, iL_ev, iR1_ev, iR2_ev, gN_put, gs0_put, gs1_put, gT_put, sAsgG_sv, tYes'_ev, eIs_ev, sRaise_sv, sTry_sv, sNever_sv, sPar_sv, o0_ev, o1_ev, eSlT_ev, sSetD_sv, eIxD_ev, eGetD_ev, eSortD_ev, eDict_ev, eNegC_ev, eRevT_ev, eOrD_ev, eRepM_ev, sAugI_sv, iItemsD_ev, iZip_ev, sRaiseF_sv, eIsX_ev, eFldX_ev, eCatM_ev, eSortIt_ev, sAugAdd, sAugSub, eIntOf, eRep01, eStrOf, eTupOf, eLstOf, eCatT, eInt, eStr, eBl, eNon, eAdd, eSub, eMul, eMulW, eMod, eDiv, ePow, eLt, eLe, eGt, eGe, eEq, eNe, eIxL, eIxT, eLen, eMax2, eMin2, eAll, eAny, eSum, eIsTy, R.bindD_ok, gI, R.bindD_ok, R.bindD_exc, R.bind_ok, R.bind_exc, R.bind_bad, R.of, R.flow, evV, evD, dat, pull, push, callOn, left, begun, List.length_cons, List.length_nil, List.getElem?_cons_zero, List.getElem?_cons_succ, List.set_cons_zero, List.set_cons_succ, if_true, if_false, ite_t, ite_f, Nat.reduceAdd, Nat.reduceLT, Nat.reduceSub, Nat.reduceEqDiff, Nat.reduceLeDiff, List.map_cons, List.map_nil, List.replicate, List.append_nil, List.nil_append, List.cons_append, and_self, true_and, and_true, Bool.not_true, Bool.not_false, Bool.false_eq_true, reduceIte, Nat.zero_add, Nat.lt_add_left_iff_pos, lc, al])
/-! what is due -/
theorem lst_eq_nil (x : D) (xs : List D) (h : D.flat 60 (.lst (x :: xs)) = true) : gEq (.lst (x :: xs)) (.lst []) = some (.bl false) := by
  have e : D.eqv (.lst (x :: xs)) (.lst []) = false := by
    unfold D.eqv
    rw [D.py, D.py, D.pys, D.pys]
    rfl
  unfold gEq
  rw [if_pos ⟨h, rfl⟩, e]
theorem ints_eq_nil (is : List Int) : gEq (.lst (is.map .int)) (.lst []) = some (.bl is.isEmpty) := by
  cases is with
  | nil => kernel_rfl
  | cons i is => exact lst_eq_nil _ _ (flat_ints (i :: is))
def bnds (one other : List (Int × Int)) : List Int := (one ++ other).map fun p => p.1 + 1
def lcBnds : SE K κ := eLc (iT (eCatT (eV 0) (eV 1))) (gT 2 (gs1 (gN 3) (gs1 (gN 4) (gs0)))) (tYes') (eAdd (eV 3) (eInt 1)) [3, 4] (fun _ h => h)
def lcFail (T : Tx K κ mg) : SE K κ := eLc (iL (eV 2)) (gN 5) (tV' (eLt (eCall 2 (f_l_under T) (aCons (eV 0) (aCons (eV 5) (aNil)))) (eCall 2 (f_l_under T) (aCons (eV 1) (aCons (eV 5) (aNil)))))) (eV 5) [5] (fun _ h => h)
theorem bnds_lc {one other : List (Int × Int)} (h1 : Pil one) (h2 : Pil other) : (lcBnds (K := K) (κ := κ)).ev [some (.d (pl one)), some (.d (pl other)), none, none, none, none] = .ok (.d (.lst ((bnds one other).map .int))) [some (.d (pl one)), some (.d (pl other)), none, none, none, none] := by
  have f1 := h1.few
  have f2 := h2.few
  have it : (iT (K := K) (κ := κ) (eCatT (eV 0) (eV 1))).ev [some (.d (pl one)), some (.d (pl other)), none, none, none, none] = .ok ((one ++ other).map pr) [some (.d (pl one)), some (.d (pl other)), none, none, none, none] := by
    have g : gCatT (pl one) (pl other) = some (.tup ((one ++ other).map pr)) := by
      rw [List.map_append]
      exact if_pos (by simp; omega)
    simp only [eV_ev, eC_ev, eOp_ev, eUn_ev, eIsN_ev, eNotN_ev, aNil_ev, aCons_ev, aM_ev, eTup_ev, eLst_ev, eLstM_ev, eCall_ev, eCB_ev, tV_ev, tV'_ev, tAnd'_ev, tOr'_ev, tNot'_ev, eAndV_ev, eOrV_ev, eNotV_ev, eIf_ev, sNil_sv, sSeq_sv, sAsg_sv, sIf_sv, sRet_sv, sDrop_sv, sSetL_sv, sApp_sv, eIxM_ev, eLenM_ev, iT_ev, iL_ev, iR1_ev, iR2_ev, gN_put, gs0_put, gs1_put, gT_put, sAsgG_sv, tYes'_ev, eIs_ev, sRaise_sv, sTry_sv, sNever_sv, sPar_sv, o0_ev, o1_ev, eSlT_ev, sSetD_sv, eIxD_ev, eGetD_ev, eSortD_ev, eDict_ev, eNegC_ev, eRevT_ev, eOrD_ev, eRepM_ev, sAugI_sv, iItemsD_ev, iZip_ev, sRaiseF_sv, eIsX_ev, eFldX_ev, eCatM_ev, eSortIt_ev, sAugAdd, sAugSub, eIntOf, eRep01, eStrOf, eTupOf, eLstOf, eCatT, eInt, eStr, eBl, eNon, eAdd, eSub, eMul, eMulW, eMod, eDiv, ePow, eLt, eLe, eGt, eGe, eEq, eNe, eIxL, eIxT, eLen, eMax2, eMin2, eAll, eAny, eSum, eIsTy, R.bindD_ok, gI, R.bindD_ok, R.bindD_exc, R.bind_ok, R.bind_exc, R.bind_bad, R.of, R.flow, evV, evD, dat, pull, push, callOn, left, begun, List.length_cons, List.length_nil, List.getElem?_cons_zero, List.getElem?_cons_succ, List.set_cons_zero, List.set_cons_succ, if_true, if_false, ite_t, ite_f, Nat.reduceAdd, Nat.reduceLT, Nat.reduceSub, Nat.reduceEqDiff, Nat.reduceLeDiff, List.map_cons, List.map_nil, List.replicate, List.append_nil, List.nil_append, List.cons_append, and_self, true_and, and_true, Bool.not_true, Bool.not_false, Bool.false_eq_true, reduceIte, Nat.zero_add, Nat.lt_add_left_iff_pos, g]
  have lo := loopC_map (vs := [3, 4]) (put := (gT 2 (gs1 (gN (K := K) (κ := κ) 3) (gs1 (gN 4) (gs0)))).put) (t := (tYes' (K := K) (κ := κ)).ev) (e := (eAdd (K := K) (κ := κ) (eV 3) (eInt 1)).ev) (ρ0 := [some (.d (pl one)), some (.d (pl other)), none, none, none, none])
    pr (fun p => some (.int (p.1 + 1))) (one ++ other) [] (fun p hp => ⟨[some (.d (pl one)), some (.d (pl other)), none, some (.d (.int p.1)), some (.d (.int p.2)), none], [some (.d (pl one)), some (.d (pl other)), none, some (.d (.int p.1)), some (.d (.int p.2)), none], rfl, [some (.d (pl one)), some (.d (pl other)), none, some (.d (.int p.1)), some (.d (.int p.2)), none], rfl, by simp only [eV_ev, eC_ev, eOp_ev, eUn_ev, eIsN_ev, eNotN_ev, aNil_ev, aCons_ev, aM_ev, eTup_ev, eLst_ev, eLstM_ev, eCall_ev, eCB_ev, tV_ev, tV'_ev, tAnd'_ev, tOr'_ev, tNot'_ev, eAndV_ev, eOrV_ev, eNotV_ev, eIf_ev, sNil_sv, sSeq_sv, sAsg_sv, sIf_sv, sRet_sv, sDrop_sv, sSetL_sv, sApp_sv, eIxM_ev, eLenM_ev, iT_ev, iL_ev, iR1_ev, iR2_ev, gN_put, gs0_put, gs1_put, gT_put, sAsgG_sv, tYes'_ev, eIs_ev, sRaise_sv, sTry_sv, sNever_sv, sPar_sv, o0_ev, o1_ev, eSlT_ev, sSetD_sv, eIxD_ev, eGetD_ev, eSortD_ev, eDict_ev, eNegC_ev, eRevT_ev, eOrD_ev, eRepM_ev, sAugI_sv, iItemsD_ev, iZip_ev, sRaiseF_sv, eIsX_ev, eFldX_ev, eCatM_ev, eSortIt_ev, sAugAdd, sAugSub, eIntOf, eRep01, eStrOf, eTupOf, eLstOf, eCatT, eInt, eStr, eBl, eNon, eAdd, eSub, eMul, eMulW, eMod, eDiv, ePow, eLt, eLe, eGt, eGe, eEq, eNe, eIxL, eIxT, eLen, eMax2, eMin2, eAll, eAny, eSum, eIsTy, R.bindD_ok, gI, R.bindD_ok, R.bindD_exc, R.bind_ok, R.bind_exc, R.bind_bad, R.of, R.flow, evV, evD, dat, pull, push, callOn, left, begun, List.length_cons, List.length_nil, List.getElem?_cons_zero, List.getElem?_cons_succ, List.set_cons_zero, List.set_cons_succ, if_true, if_false, ite_t, ite_f, Nat.reduceAdd, Nat.reduceLT, Nat.reduceSub, Nat.reduceEqDiff, Nat.reduceLeDiff, List.map_cons, List.map_nil, List.replicate, List.append_nil, List.nil_append, List.cons_append, and_self, true_and, and_true, Bool.not_true, Bool.not_false, Bool.false_eq_true, reduceIte, Nat.zero_add, Nat.lt_add_left_iff_pos], rfl⟩) (by simp; omega)
  rw [List.nil_append, fm_some] at lo
  have e : ((one ++ other).map fun p => D.int (p.1 + 1)) = (bnds one other).map .int := by unfold bnds; rw [List.map_map]; rfl
  rw [e] at lo
  exact lc_of (vs := [3, 4]) (g := gT 2 (gs1 (gN 3) (gs1 (gN 4) (gs0)))) (t := tYes') (e := eAdd (eV 3) (eInt 1)) (hv := fun _ h => h) it rfl lo rfl
def fails (one other : List (Int × Int)) : List Int := (bnds one other).filter fun b => decide (undP one b < undP other b)
theorem fm_filter (p : Int → Prop) [DecidablePred p] : ∀ is : List Int, is.filterMap (fun i => if p i then some (D.int i) else none) = (is.filter fun i => decide (p i)).map .int
  | [] => rfl
  | i :: is => by
    rw [List.filterMap_cons]
    by_cases h : p i
    · rw [if_pos h, List.filter_cons_of_pos (by simpa using h), fm_filter p is]
      rfl
    · rw [if_neg h, List.filter_cons_of_neg (by simpa using h), fm_filter p is]
theorem fails_due (one other : List (Int × Int)) : (fails one other).isEmpty = dueB one other := by
  rw [Bool.eq_iff_iff, List.isEmpty_iff]
  unfold fails dueB bnds
  rw [List.filter_eq_nil_iff, List.all_eq_true]
  constructor
  · intro h p hp
    have := h (p.1 + 1) (List.mem_map.mpr ⟨p, hp, rfl⟩)
    simpa using this
  · intro h b hb
    obtain ⟨p, hp, rfl⟩ := List.mem_map.mp hb
    have := h p hp
    simpa using this
theorem v_due (T : Tx K κ mg) {one other : List (Int × Int)} (h1 : Pil one) (h2 : Pil other) : f_l_due T [.d (pl one), .d (pl other)] = .ok (.d (.bl (dueB one other))) [.d (pl one), .d (pl other)] := by
  have f1 := h1.few
  have f2 := h2.few
  have lb := bnds_lc (K := K) (κ := κ) h1 h2
  have bl : (bnds one other).length ≤ 1000 := by unfold bnds; simp; omega
  have lo := loopC_map (vs := [5]) (put := (gN (K := K) (κ := κ) 5).put) (t := (tV' (K := K) (κ := κ) (eLt (eCall 2 (f_l_under T) (aCons (eV 0) (aCons (eV 5) (aNil)))) (eCall 2 (f_l_under T) (aCons (eV 1) (aCons (eV 5) (aNil)))))).ev) (e := (eV (K := K) (κ := κ) 5).ev) (ρ0 := [some (.d (pl one)), some (.d (pl other)), some (.d (.lst ((bnds one other).map .int))), none, none, none])
    D.int (fun b => if undP one b < undP other b then some (.int b) else none) (bnds one other) [] (fun b hb => by
      have u1 := v_under T h1 b
      have u2 := v_under T h2 b
      refine ⟨[some (.d (pl one)), some (.d (pl other)), some (.d (.lst ((bnds one other).map .int))), none, none, some (.d (.int b))], [some (.d (pl one)), some (.d (pl other)), some (.d (.lst ((bnds one other).map .int))), none, none, some (.d (.int b))], rfl, ?_⟩
      by_cases q : undP one b < undP other b
      · rw [if_pos q]
        exact ⟨[some (.d (pl one)), some (.d (pl other)), some (.d (.lst ((bnds one other).map .int))), none, none, some (.d (.int b))], by simp only [eV_ev, eC_ev, eOp_ev, eUn_ev, eIsN_ev, eNotN_ev, aNil_ev, aCons_ev, aM_ev, eTup_ev, eLst_ev, eLstM_ev, eCall_ev, eCB_ev, tV_ev, tV'_ev, tAnd'_ev, tOr'_ev, tNot'_ev, eAndV_ev, eOrV_ev, eNotV_ev, eIf_ev, sNil_sv, sSeq_sv, sAsg_sv, sIf_sv, sRet_sv, sDrop_sv, sSetL_sv, sApp_sv, eIxM_ev, eLenM_ev, iT_ev, iL_ev, iR1_ev, iR2_ev, gN_put, gs0_put, gs1_put, gT_put, sAsgG_sv, tYes'_ev, eIs_ev, sRaise_sv, sTry_sv, sNever_sv, sPar_sv, o0_ev, o1_ev, eSlT_ev, sSetD_sv, eIxD_ev, eGetD_ev, eSortD_ev, eDict_ev, eNegC_ev, eRevT_ev, eOrD_ev, eRepM_ev, sAugI_sv, iItemsD_ev, iZip_ev, sRaiseF_sv, eIsX_ev, eFldX_ev, eCatM_ev, eSortIt_ev, sAugAdd, sAugSub, eIntOf, eRep01, eStrOf, eTupOf, eLstOf, eCatT, eInt, eStr, eBl, eNon, eAdd, eSub, eMul, eMulW, eMod, eDiv, ePow, eLt, eLe, eGt, eGe, eEq, eNe, eIxL, eIxT, eLen, eMax2, eMin2, eAll, eAny, eSum, eIsTy, R.bindD_ok, gI, R.bindD_ok, R.bindD_exc, R.bind_ok, R.bind_exc, R.bind_bad, R.of, R.flow, evV, evD, dat, pull, push, callOn, left, begun, List.length_cons, List.length_nil, List.getElem?_cons_zero, List.getElem?_cons_succ, List.set_cons_zero, List.set_cons_succ, if_true, if_false, ite_t, ite_f, Nat.reduceAdd, Nat.reduceLT, Nat.reduceSub, Nat.reduceEqDiff, Nat.reduceLeDiff, List.map_cons, List.map_nil, List.replicate, List.append_nil, List.nil_append, List.cons_append, and_self, true_and, and_true, Bool.not_true, Bool.not_false, Bool.false_eq_true, reduceIte, Nat.zero_add, Nat.lt_add_left_iff_pos, u1, u2, decide_eq_true q], rfl, rfl⟩
      · rw [if_neg q]
        exact ⟨by simp only [eV_ev, eC_ev, eOp_ev, eUn_ev, eIsN_ev, eNotN_ev, aNil_ev, aCons_ev, aM_ev, eTup_ev, eLst_ev, eLstM_ev, eCall_ev, eCB_ev, tV_ev, tV'_ev, tAnd'_ev, tOr'_ev, tNot'_ev, eAndV_ev, eOrV_ev, eNotV_ev, eIf_ev, sNil_sv, sSeq_sv, sAsg_sv, sIf_sv, sRet_sv, sDrop_sv, sSetL_sv, sApp_sv, eIxM_ev, eLenM_ev, iT_ev, iL_ev, iR1_ev, iR2_ev, gN_put, gs0_put, gs1_put, gT_put, sAsgG_sv, tYes'_ev, eIs_ev, sRaise_sv, sTry_sv, sNever_sv, sPar_sv, o0_ev, o1_ev, eSlT_ev, sSetD_sv, eIxD_ev, eGetD_ev, eSortD_ev, eDict_ev, eNegC_ev, eRevT_ev, eOrD_ev, eRepM_ev, sAugI_sv, iItemsD_ev, iZip_ev, sRaiseF_sv, eIsX_ev, eFldX_ev, eCatM_ev, eSortIt_ev, sAugAdd, sAugSub, eIntOf, eRep01, eStrOf, eTupOf, eLstOf, eCatT, eInt, eStr, eBl, eNon, eAdd, eSub, eMul, eMulW, eMod, eDiv, ePow, eLt, eLe, eGt, eGe, eEq, eNe, eIxL, eIxT, eLen, eMax2, eMin2, eAll, eAny, eSum, eIsTy, R.bindD_ok, gI, R.bindD_ok, R.bindD_exc, R.bind_ok, R.bind_exc, R.bind_bad, R.of, R.flow, evV, evD, dat, pull, push, callOn, left, begun, List.length_cons, List.length_nil, List.getElem?_cons_zero, List.getElem?_cons_succ, List.set_cons_zero, List.set_cons_succ, if_true, if_false, ite_t, ite_f, Nat.reduceAdd, Nat.reduceLT, Nat.reduceSub, Nat.reduceEqDiff, Nat.reduceLeDiff, List.map_cons, List.map_nil, List.replicate, List.append_nil, List.nil_append, List.cons_append, and_self, true_and, and_true, Bool.not_true, Bool.not_false, Bool.false_eq_true, reduceIte, Nat.zero_add, Nat.lt_add_left_iff_pos, u1, u2, decide_eq_false q], rfl⟩) (by simpa using bl)
  rw [List.nil_append, fm_filter] at lo
  have lf : (lcFail T).ev [some (.d (pl one)), some (.d (pl other)), some (.d (.lst ((bnds one other).map .int))), none, none, none] = .ok (.d (.lst ((fails one other).map .int))) [some (.d (pl one)), some (.d (pl other)), some (.d (.lst ((bnds one other).map .int))), none, none, none] :=
    lc_of (vs := [5]) (it := iL (eV 2)) (g := gN 5) (t := tV' (eLt (eCall 2 (f_l_under T) (aCons (eV 0) (aCons (eV 5) (aNil)))) (eCall 2 (f_l_under T) (aCons (eV 1) (aCons (eV 5) (aNil)))))) (e := eV 5) (hv := fun _ h => h) (ρi := [some (.d (pl one)), some (.d (pl other)), some (.d (.lst ((bnds one other).map .int))), none, none, none]) rfl rfl lo rfl
  have g := ints_eq_nil (fails one other)
  rw [fails_due] at g
  have b : b_l_due T = sSeq (sAsg 2 lcBnds) (sSeq (sRet (eEq (lcFail T) (eLst (aNil)))) (sNil)) := rfl
  refine fn_rt (ρ := [some (.d (pl one)), some (.d (pl other)), some (.d (.lst ((bnds one other).map .int))), none, none, none]) ?_ rfl
  rw [b]
  refine seq_nx (asg_of lb (by simp)) ?_
  generalize fails one other = fs at *
  exact seq_rt (by simp only [eV_ev, eC_ev, eOp_ev, eUn_ev, eIsN_ev, eNotN_ev, aNil_ev, aCons_ev, aM_ev, eTup_ev, eLst_ev, eLstM_ev, eCall_ev, eCB_ev, tV_ev, tV'_ev, tAnd'_ev, tOr'_ev, tNot'_ev, eAndV_ev, eOrV_ev, eNotV_ev, eIf_ev, sNil_sv, sSeq_sv, sAsg_sv, sIf_sv, sRet_sv, sDrop_sv, sSetL_sv, sApp_sv, eIxM_ev, eLenM_ev, iT_ev, iL_ev, iR1_ev, iR2_ev, gN_put, gs0_put, gs1_put, gT_put, sAsgG_sv, tYes'_ev, eIs_ev, sRaise_sv, sTry_sv, sNever_sv, sPar_sv, o0_ev, o1_ev, eSlT_ev, sSetD_sv, eIxD_ev, eGetD_ev, eSortD_ev, eDict_ev, eNegC_ev, eRevT_ev, eOrD_ev, eRepM_ev, sAugI_sv, iItemsD_ev, iZip_ev, sRaiseF_sv, eIsX_ev, eFldX_ev, eCatM_ev, eSortIt_ev, sAugAdd, sAugSub, eIntOf, eRep01, eStrOf, eTupOf, eLstOf, eCatT, eInt, eStr, eBl, eNon, eAdd, eSub, eMul, eMulW, eMod, eDiv, ePow, eLt, eLe, eGt, eGe, eEq, eNe, eIxL, eIxT, eLen, eMax2, eMin2, eAll, eAny, eSum, eIsTy, R.bindD_ok, gI, R.bindD_ok, R.bindD_exc, R.bind_ok, R.bind_exc, R.bind_bad, R.of, R.flow, evV, evD, dat, pull, push, callOn, left, begun, List.length_cons, List.length_nil, List.getElem?_cons_zero, List.getElem?_cons_succ, List.set_cons_zero, List.set_cons_succ, if_true, if_false, ite_t, ite_f, Nat.reduceAdd, Nat.reduceLT, Nat.reduceSub, Nat.reduceEqDiff, Nat.reduceLeDiff, List.map_cons, List.map_nil, List.replicate, List.append_nil, List.nil_append, List.cons_append, and_self, true_and, and_true, Bool.not_true, Bool.not_false, Bool.false_eq_true, reduceIte, Nat.zero_add, Nat.lt_add_left_iff_pos, lf, g])
/-! good -/
theorem v_good (T : Tx K κ mg) {n m : Nat} {one other : List (Int × Int)} (q1 : P01.Pil n 200 one) (q2 : P01.Pil m 200 other) (hn : n ≤ 50) (hm : m ≤ 50) (s1 : sumP one ≤ 200) (s2 : sumP other ≤ 200) : f_l_good T [.d (pl one), .d (pl other)] = .ok (.d (.bl true)) [.d (pl one), .d (pl other)] := by
  have mk : ∀ {n : Nat} {ps : List (Int × Int)}, P01.Pil n 200 ps → n ≤ 50 → Pil ps := fun {n ps} q h => ⟨B.up25.mp q.up, by have := q.few; omega, fun p hp => by have := (q.small p hp).1; omega⟩
  have h1 := mk q1 hn
  have h2 := mk q2 hm
  have du := v_due T h1 h2
  have te := v_telling T h1 h2 s1 s2
  have od := v_outdoes T h1 h2
  have di := due_iff h1.up h2.up
  have ty : ∀ b, gTy "bool" (.bl b) = some true := fun b => by kernel_rfl
  have nb : ∀ b, gNe (.bl b) (.bl b) = some (.bl false) := fun b => by cases b <;> kernel_rfl
  cases ho : outA one other 0 with
  | none =>
    rw [ho] at te di
    have d1 := di.mpr rfl
    rw [d1] at du od
    have te' : f_telling_company T [.d (pl one), .d (pl other)] = .ok (.d .non) [.d (pl one), .d (pl other)] := te
    have nn : D.isN .non = true := rfl
    refine fn_rt (ρ := [some (.d (pl one)), some (.d (pl other)), some (.d (.bl true)), some (.d .non), none, none]) ?_ rfl
    unfold b_l_good
    refine seq_nx (ρ' := [some (.d (pl one)), some (.d (pl other)), some (.d (.bl true)), none, none, none]) (by simp only [eV_ev, eC_ev, eOp_ev, eUn_ev, eIsN_ev, eNotN_ev, aNil_ev, aCons_ev, aM_ev, eTup_ev, eLst_ev, eLstM_ev, eCall_ev, eCB_ev, tV_ev, tV'_ev, tAnd'_ev, tOr'_ev, tNot'_ev, eAndV_ev, eOrV_ev, eNotV_ev, eIf_ev, sNil_sv, sSeq_sv, sAsg_sv, sIf_sv, sRet_sv, sDrop_sv, sSetL_sv, sApp_sv, eIxM_ev, eLenM_ev, iT_ev, iL_ev, iR1_ev, iR2_ev, gN_put, gs0_put, gs1_put, gT_put, sAsgG_sv, tYes'_ev, eIs_ev, sRaise_sv, sTry_sv, sNever_sv, sPar_sv, o0_ev, o1_ev, eSlT_ev, sSetD_sv, eIxD_ev, eGetD_ev, eSortD_ev, eDict_ev, eNegC_ev, eRevT_ev, eOrD_ev, eRepM_ev, sAugI_sv, iItemsD_ev, iZip_ev, sRaiseF_sv, eIsX_ev, eFldX_ev, eCatM_ev, eSortIt_ev, sAugAdd, sAugSub, eIntOf, eRep01, eStrOf, eTupOf, eLstOf, eCatT, eInt, eStr, eBl, eNon, eAdd, eSub, eMul, eMulW, eMod, eDiv, ePow, eLt, eLe, eGt, eGe, eEq, eNe, eIxL, eIxT, eLen, eMax2, eMin2, eAll, eAny, eSum, eIsTy, R.bindD_ok, gI, R.bindD_ok, R.bindD_exc, R.bind_ok, R.bind_exc, R.bind_bad, R.of, R.flow, evV, evD, dat, pull, push, callOn, left, begun, List.length_cons, List.length_nil, List.getElem?_cons_zero, List.getElem?_cons_succ, List.set_cons_zero, List.set_cons_succ, if_true, if_false, ite_t, ite_f, Nat.reduceAdd, Nat.reduceLT, Nat.reduceSub, Nat.reduceEqDiff, Nat.reduceLeDiff, List.map_cons, List.map_nil, List.replicate, List.append_nil, List.nil_append, List.cons_append, and_self, true_and, and_true, Bool.not_true, Bool.not_false, Bool.false_eq_true, reduceIte, Nat.zero_add, Nat.lt_add_left_iff_pos, du]) ?_
    refine seq_nx (ρ' := [some (.d (pl one)), some (.d (pl other)), some (.d (.bl true)), some (.d .non), none, none]) (by simp only [eV_ev, eC_ev, eOp_ev, eUn_ev, eIsN_ev, eNotN_ev, aNil_ev, aCons_ev, aM_ev, eTup_ev, eLst_ev, eLstM_ev, eCall_ev, eCB_ev, tV_ev, tV'_ev, tAnd'_ev, tOr'_ev, tNot'_ev, eAndV_ev, eOrV_ev, eNotV_ev, eIf_ev, sNil_sv, sSeq_sv, sAsg_sv, sIf_sv, sRet_sv, sDrop_sv, sSetL_sv, sApp_sv, eIxM_ev, eLenM_ev, iT_ev, iL_ev, iR1_ev, iR2_ev, gN_put, gs0_put, gs1_put, gT_put, sAsgG_sv, tYes'_ev, eIs_ev, sRaise_sv, sTry_sv, sNever_sv, sPar_sv, o0_ev, o1_ev, eSlT_ev, sSetD_sv, eIxD_ev, eGetD_ev, eSortD_ev, eDict_ev, eNegC_ev, eRevT_ev, eOrD_ev, eRepM_ev, sAugI_sv, iItemsD_ev, iZip_ev, sRaiseF_sv, eIsX_ev, eFldX_ev, eCatM_ev, eSortIt_ev, sAugAdd, sAugSub, eIntOf, eRep01, eStrOf, eTupOf, eLstOf, eCatT, eInt, eStr, eBl, eNon, eAdd, eSub, eMul, eMulW, eMod, eDiv, ePow, eLt, eLe, eGt, eGe, eEq, eNe, eIxL, eIxT, eLen, eMax2, eMin2, eAll, eAny, eSum, eIsTy, R.bindD_ok, gI, R.bindD_ok, R.bindD_exc, R.bind_ok, R.bind_exc, R.bind_bad, R.of, R.flow, evV, evD, dat, pull, push, callOn, left, begun, List.length_cons, List.length_nil, List.getElem?_cons_zero, List.getElem?_cons_succ, List.set_cons_zero, List.set_cons_succ, if_true, if_false, ite_t, ite_f, Nat.reduceAdd, Nat.reduceLT, Nat.reduceSub, Nat.reduceEqDiff, Nat.reduceLeDiff, List.map_cons, List.map_nil, List.replicate, List.append_nil, List.nil_append, List.cons_append, and_self, true_and, and_true, Bool.not_true, Bool.not_false, Bool.false_eq_true, reduceIte, Nat.zero_add, Nat.lt_add_left_iff_pos, te']) ?_
    refine seq_nx (ρ' := [some (.d (pl one)), some (.d (pl other)), some (.d (.bl true)), some (.d .non), none, none]) (by simp only [eV_ev, eC_ev, eOp_ev, eUn_ev, eIsN_ev, eNotN_ev, aNil_ev, aCons_ev, aM_ev, eTup_ev, eLst_ev, eLstM_ev, eCall_ev, eCB_ev, tV_ev, tV'_ev, tAnd'_ev, tOr'_ev, tNot'_ev, eAndV_ev, eOrV_ev, eNotV_ev, eIf_ev, sNil_sv, sSeq_sv, sAsg_sv, sIf_sv, sRet_sv, sDrop_sv, sSetL_sv, sApp_sv, eIxM_ev, eLenM_ev, iT_ev, iL_ev, iR1_ev, iR2_ev, gN_put, gs0_put, gs1_put, gT_put, sAsgG_sv, tYes'_ev, eIs_ev, sRaise_sv, sTry_sv, sNever_sv, sPar_sv, o0_ev, o1_ev, eSlT_ev, sSetD_sv, eIxD_ev, eGetD_ev, eSortD_ev, eDict_ev, eNegC_ev, eRevT_ev, eOrD_ev, eRepM_ev, sAugI_sv, iItemsD_ev, iZip_ev, sRaiseF_sv, eIsX_ev, eFldX_ev, eCatM_ev, eSortIt_ev, sAugAdd, sAugSub, eIntOf, eRep01, eStrOf, eTupOf, eLstOf, eCatT, eInt, eStr, eBl, eNon, eAdd, eSub, eMul, eMulW, eMod, eDiv, ePow, eLt, eLe, eGt, eGe, eEq, eNe, eIxL, eIxT, eLen, eMax2, eMin2, eAll, eAny, eSum, eIsTy, R.bindD_ok, gI, R.bindD_ok, R.bindD_exc, R.bind_ok, R.bind_exc, R.bind_bad, R.of, R.flow, evV, evD, dat, pull, push, callOn, left, begun, List.length_cons, List.length_nil, List.getElem?_cons_zero, List.getElem?_cons_succ, List.set_cons_zero, List.set_cons_succ, if_true, if_false, ite_t, ite_f, Nat.reduceAdd, Nat.reduceLT, Nat.reduceSub, Nat.reduceEqDiff, Nat.reduceLeDiff, List.map_cons, List.map_nil, List.replicate, List.append_nil, List.nil_append, List.cons_append, and_self, true_and, and_true, Bool.not_true, Bool.not_false, Bool.false_eq_true, reduceIte, Nat.zero_add, Nat.lt_add_left_iff_pos, od, nb, ty, nn]) ?_
    exact seq_rt (by simp only [eV_ev, eC_ev, eOp_ev, eUn_ev, eIsN_ev, eNotN_ev, aNil_ev, aCons_ev, aM_ev, eTup_ev, eLst_ev, eLstM_ev, eCall_ev, eCB_ev, tV_ev, tV'_ev, tAnd'_ev, tOr'_ev, tNot'_ev, eAndV_ev, eOrV_ev, eNotV_ev, eIf_ev, sNil_sv, sSeq_sv, sAsg_sv, sIf_sv, sRet_sv, sDrop_sv, sSetL_sv, sApp_sv, eIxM_ev, eLenM_ev, iT_ev, iL_ev, iR1_ev, iR2_ev, gN_put, gs0_put, gs1_put, gT_put, sAsgG_sv, tYes'_ev, eIs_ev, sRaise_sv, sTry_sv, sNever_sv, sPar_sv, o0_ev, o1_ev, eSlT_ev, sSetD_sv, eIxD_ev, eGetD_ev, eSortD_ev, eDict_ev, eNegC_ev, eRevT_ev, eOrD_ev, eRepM_ev, sAugI_sv, iItemsD_ev, iZip_ev, sRaiseF_sv, eIsX_ev, eFldX_ev, eCatM_ev, eSortIt_ev, sAugAdd, sAugSub, eIntOf, eRep01, eStrOf, eTupOf, eLstOf, eCatT, eInt, eStr, eBl, eNon, eAdd, eSub, eMul, eMulW, eMod, eDiv, ePow, eLt, eLe, eGt, eGe, eEq, eNe, eIxL, eIxT, eLen, eMax2, eMin2, eAll, eAny, eSum, eIsTy, R.bindD_ok, gI, R.bindD_ok, R.bindD_exc, R.bind_ok, R.bind_exc, R.bind_bad, R.of, R.flow, evV, evD, dat, pull, push, callOn, left, begun, List.length_cons, List.length_nil, List.getElem?_cons_zero, List.getElem?_cons_succ, List.set_cons_zero, List.set_cons_succ, if_true, if_false, ite_t, ite_f, Nat.reduceAdd, Nat.reduceLT, Nat.reduceSub, Nat.reduceEqDiff, Nat.reduceLeDiff, List.map_cons, List.map_nil, List.replicate, List.append_nil, List.nil_append, List.cons_append, and_self, true_and, and_true, Bool.not_true, Bool.not_false, Bool.false_eq_true, reduceIte, Nat.zero_add, Nat.lt_add_left_iff_pos])
  | some q =>
    obtain ⟨w, l⟩ := q
    obtain ⟨e1, e2, p, hp, e3⟩ := out_some h2.up (w := w) (l := l) other [] rfl ho
    have u0 := und_nonneg (Int.le_refl 0) h1.up w
    have ul := und_le_sum (Int.le_refl 0) h2.up w
    have pg := up_ge h2.up p hp
    have hw : 1 < w := by omega
    have hl : 0 < l := by omega
    have pw := worth_le (Int.le_refl 0) h2.up p hp
    have d0 : dueB one other = false := by
      cases hb : dueB one other with
      | false => rfl
      | true => rw [ho] at di; cases di.mp hb
    rw [ho] at te
    rw [d0] at du od
    have cp := B.comp_pil (w := w) (l := l) hw (by omega) hl (by omega)
    have ip := v_l_is_pile T hw hl
    have ir := v_is_right T hw hl
    have t2 := B.v_tog T q2 cp (by omega)
    have t1 := B.v_tog T q1 cp (by omega)
    have p2 := B.pil_of q2 cp (by omega) (by omega) (by omega)
    have p1 := B.pil_of q1 cp (by omega) (by omega) (by omega)
    have k2 := v_holds T p2 hw (by omega) (by omega : l < 10 ^ 6)
    have k1 := v_holds T p1 hw (by omega) (by omega : l < 10 ^ 6)
    rw [holds_yes h2.up hw hl e1 (fun v => B.tog_und q2 cp (by omega) (by omega) v) (B.tog_sum q2 cp (by omega) (by omega))] at k2
    rw [holds_no hw hl e2 (fun v => B.tog_und q1 cp (by omega) (by omega) v) (B.tog_in q1 hw cp)] at k1
    have te' : f_telling_company T [.d (pl one), .d (pl other)] = .ok (.d (.tup [pl (comp w l), rightD w l])) [.d (pl one), .d (pl other)] := te
    generalize P01.togL other (comp w l) = A2 at *
    generalize P01.togL one (comp w l) = A1 at *
    generalize pl (comp w l) = C at *
    generalize rightD w l = RR at *
    have tt : gTy "tuple" (.tup [C, RR]) = some true := by kernel_rfl
    have nn : D.isN (.tup [C, RR]) = false := rfl
    have ln : gLen [.tup [C, RR]] = some (.int 2) := by kernel_rfl
    have n2 : gNe (.int 2) (.int 2) = some (.bl false) := by kernel_rfl
    have i0 : gIxT (.tup [C, RR]) (.int 0) = some C := by kernel_rfl
    have i1 : gIxT (.tup [C, RR]) (.int 1) = some RR := by kernel_rfl
    refine fn_rt (ρ := [some (.d (pl one)), some (.d (pl other)), some (.d (.bl false)), some (.d (.tup [C, RR])), some (.d C), some (.d RR)]) ?_ rfl
    unfold b_l_good
    refine seq_nx (ρ' := [some (.d (pl one)), some (.d (pl other)), some (.d (.bl false)), none, none, none]) (by simp only [eV_ev, eC_ev, eOp_ev, eUn_ev, eIsN_ev, eNotN_ev, aNil_ev, aCons_ev, aM_ev, eTup_ev, eLst_ev, eLstM_ev, eCall_ev, eCB_ev, tV_ev, tV'_ev, tAnd'_ev, tOr'_ev, tNot'_ev, eAndV_ev, eOrV_ev, eNotV_ev, eIf_ev, sNil_sv, sSeq_sv, sAsg_sv, sIf_sv, sRet_sv, sDrop_sv, sSetL_sv, sApp_sv, eIxM_ev, eLenM_ev, iT_ev, iL_ev, iR1_ev, iR2_ev, gN_put, gs0_put, gs1_put, gT_put, sAsgG_sv, tYes'_ev, eIs_ev, sRaise_sv, sTry_sv, sNever_sv, sPar_sv, o0_ev, o1_ev, eSlT_ev, sSetD_sv, eIxD_ev, eGetD_ev, eSortD_ev, eDict_ev, eNegC_ev, eRevT_ev, eOrD_ev, eRepM_ev, sAugI_sv, iItemsD_ev, iZip_ev, sRaiseF_sv, eIsX_ev, eFldX_ev, eCatM_ev, eSortIt_ev, sAugAdd, sAugSub, eIntOf, eRep01, eStrOf, eTupOf, eLstOf, eCatT, eInt, eStr, eBl, eNon, eAdd, eSub, eMul, eMulW, eMod, eDiv, ePow, eLt, eLe, eGt, eGe, eEq, eNe, eIxL, eIxT, eLen, eMax2, eMin2, eAll, eAny, eSum, eIsTy, R.bindD_ok, gI, R.bindD_ok, R.bindD_exc, R.bind_ok, R.bind_exc, R.bind_bad, R.of, R.flow, evV, evD, dat, pull, push, callOn, left, begun, List.length_cons, List.length_nil, List.getElem?_cons_zero, List.getElem?_cons_succ, List.set_cons_zero, List.set_cons_succ, if_true, if_false, ite_t, ite_f, Nat.reduceAdd, Nat.reduceLT, Nat.reduceSub, Nat.reduceEqDiff, Nat.reduceLeDiff, List.map_cons, List.map_nil, List.replicate, List.append_nil, List.nil_append, List.cons_append, and_self, true_and, and_true, Bool.not_true, Bool.not_false, Bool.false_eq_true, reduceIte, Nat.zero_add, Nat.lt_add_left_iff_pos, du]) ?_
    refine seq_nx (ρ' := [some (.d (pl one)), some (.d (pl other)), some (.d (.bl false)), some (.d (.tup [C, RR])), none, none]) (by simp only [eV_ev, eC_ev, eOp_ev, eUn_ev, eIsN_ev, eNotN_ev, aNil_ev, aCons_ev, aM_ev, eTup_ev, eLst_ev, eLstM_ev, eCall_ev, eCB_ev, tV_ev, tV'_ev, tAnd'_ev, tOr'_ev, tNot'_ev, eAndV_ev, eOrV_ev, eNotV_ev, eIf_ev, sNil_sv, sSeq_sv, sAsg_sv, sIf_sv, sRet_sv, sDrop_sv, sSetL_sv, sApp_sv, eIxM_ev, eLenM_ev, iT_ev, iL_ev, iR1_ev, iR2_ev, gN_put, gs0_put, gs1_put, gT_put, sAsgG_sv, tYes'_ev, eIs_ev, sRaise_sv, sTry_sv, sNever_sv, sPar_sv, o0_ev, o1_ev, eSlT_ev, sSetD_sv, eIxD_ev, eGetD_ev, eSortD_ev, eDict_ev, eNegC_ev, eRevT_ev, eOrD_ev, eRepM_ev, sAugI_sv, iItemsD_ev, iZip_ev, sRaiseF_sv, eIsX_ev, eFldX_ev, eCatM_ev, eSortIt_ev, sAugAdd, sAugSub, eIntOf, eRep01, eStrOf, eTupOf, eLstOf, eCatT, eInt, eStr, eBl, eNon, eAdd, eSub, eMul, eMulW, eMod, eDiv, ePow, eLt, eLe, eGt, eGe, eEq, eNe, eIxL, eIxT, eLen, eMax2, eMin2, eAll, eAny, eSum, eIsTy, R.bindD_ok, gI, R.bindD_ok, R.bindD_exc, R.bind_ok, R.bind_exc, R.bind_bad, R.of, R.flow, evV, evD, dat, pull, push, callOn, left, begun, List.length_cons, List.length_nil, List.getElem?_cons_zero, List.getElem?_cons_succ, List.set_cons_zero, List.set_cons_succ, if_true, if_false, ite_t, ite_f, Nat.reduceAdd, Nat.reduceLT, Nat.reduceSub, Nat.reduceEqDiff, Nat.reduceLeDiff, List.map_cons, List.map_nil, List.replicate, List.append_nil, List.nil_append, List.cons_append, and_self, true_and, and_true, Bool.not_true, Bool.not_false, Bool.false_eq_true, reduceIte, Nat.zero_add, Nat.lt_add_left_iff_pos, te']) ?_
    refine seq_nx (ρ' := [some (.d (pl one)), some (.d (pl other)), some (.d (.bl false)), some (.d (.tup [C, RR])), none, none]) (by simp only [eV_ev, eC_ev, eOp_ev, eUn_ev, eIsN_ev, eNotN_ev, aNil_ev, aCons_ev, aM_ev, eTup_ev, eLst_ev, eLstM_ev, eCall_ev, eCB_ev, tV_ev, tV'_ev, tAnd'_ev, tOr'_ev, tNot'_ev, eAndV_ev, eOrV_ev, eNotV_ev, eIf_ev, sNil_sv, sSeq_sv, sAsg_sv, sIf_sv, sRet_sv, sDrop_sv, sSetL_sv, sApp_sv, eIxM_ev, eLenM_ev, iT_ev, iL_ev, iR1_ev, iR2_ev, gN_put, gs0_put, gs1_put, gT_put, sAsgG_sv, tYes'_ev, eIs_ev, sRaise_sv, sTry_sv, sNever_sv, sPar_sv, o0_ev, o1_ev, eSlT_ev, sSetD_sv, eIxD_ev, eGetD_ev, eSortD_ev, eDict_ev, eNegC_ev, eRevT_ev, eOrD_ev, eRepM_ev, sAugI_sv, iItemsD_ev, iZip_ev, sRaiseF_sv, eIsX_ev, eFldX_ev, eCatM_ev, eSortIt_ev, sAugAdd, sAugSub, eIntOf, eRep01, eStrOf, eTupOf, eLstOf, eCatT, eInt, eStr, eBl, eNon, eAdd, eSub, eMul, eMulW, eMod, eDiv, ePow, eLt, eLe, eGt, eGe, eEq, eNe, eIxL, eIxT, eLen, eMax2, eMin2, eAll, eAny, eSum, eIsTy, R.bindD_ok, gI, R.bindD_ok, R.bindD_exc, R.bind_ok, R.bind_exc, R.bind_bad, R.of, R.flow, evV, evD, dat, pull, push, callOn, left, begun, List.length_cons, List.length_nil, List.getElem?_cons_zero, List.getElem?_cons_succ, List.set_cons_zero, List.set_cons_succ, if_true, if_false, ite_t, ite_f, Nat.reduceAdd, Nat.reduceLT, Nat.reduceSub, Nat.reduceEqDiff, Nat.reduceLeDiff, List.map_cons, List.map_nil, List.replicate, List.append_nil, List.nil_append, List.cons_append, and_self, true_and, and_true, Bool.not_true, Bool.not_false, Bool.false_eq_true, reduceIte, Nat.zero_add, Nat.lt_add_left_iff_pos, od, nb, ty, nn]) ?_
    refine seq_nx (ρ' := [some (.d (pl one)), some (.d (pl other)), some (.d (.bl false)), some (.d (.tup [C, RR])), none, none]) (by simp only [eV_ev, eC_ev, eOp_ev, eUn_ev, eIsN_ev, eNotN_ev, aNil_ev, aCons_ev, aM_ev, eTup_ev, eLst_ev, eLstM_ev, eCall_ev, eCB_ev, tV_ev, tV'_ev, tAnd'_ev, tOr'_ev, tNot'_ev, eAndV_ev, eOrV_ev, eNotV_ev, eIf_ev, sNil_sv, sSeq_sv, sAsg_sv, sIf_sv, sRet_sv, sDrop_sv, sSetL_sv, sApp_sv, eIxM_ev, eLenM_ev, iT_ev, iL_ev, iR1_ev, iR2_ev, gN_put, gs0_put, gs1_put, gT_put, sAsgG_sv, tYes'_ev, eIs_ev, sRaise_sv, sTry_sv, sNever_sv, sPar_sv, o0_ev, o1_ev, eSlT_ev, sSetD_sv, eIxD_ev, eGetD_ev, eSortD_ev, eDict_ev, eNegC_ev, eRevT_ev, eOrD_ev, eRepM_ev, sAugI_sv, iItemsD_ev, iZip_ev, sRaiseF_sv, eIsX_ev, eFldX_ev, eCatM_ev, eSortIt_ev, sAugAdd, sAugSub, eIntOf, eRep01, eStrOf, eTupOf, eLstOf, eCatT, eInt, eStr, eBl, eNon, eAdd, eSub, eMul, eMulW, eMod, eDiv, ePow, eLt, eLe, eGt, eGe, eEq, eNe, eIxL, eIxT, eLen, eMax2, eMin2, eAll, eAny, eSum, eIsTy, R.bindD_ok, gI, R.bindD_ok, R.bindD_exc, R.bind_ok, R.bind_exc, R.bind_bad, R.of, R.flow, evV, evD, dat, pull, push, callOn, left, begun, List.length_cons, List.length_nil, List.getElem?_cons_zero, List.getElem?_cons_succ, List.set_cons_zero, List.set_cons_succ, if_true, if_false, ite_t, ite_f, Nat.reduceAdd, Nat.reduceLT, Nat.reduceSub, Nat.reduceEqDiff, Nat.reduceLeDiff, List.map_cons, List.map_nil, List.replicate, List.append_nil, List.nil_append, List.cons_append, and_self, true_and, and_true, Bool.not_true, Bool.not_false, Bool.false_eq_true, reduceIte, Nat.zero_add, Nat.lt_add_left_iff_pos]) ?_
    refine seq_nx (ρ' := [some (.d (pl one)), some (.d (pl other)), some (.d (.bl false)), some (.d (.tup [C, RR])), none, none]) (by simp only [eV_ev, eC_ev, eOp_ev, eUn_ev, eIsN_ev, eNotN_ev, aNil_ev, aCons_ev, aM_ev, eTup_ev, eLst_ev, eLstM_ev, eCall_ev, eCB_ev, tV_ev, tV'_ev, tAnd'_ev, tOr'_ev, tNot'_ev, eAndV_ev, eOrV_ev, eNotV_ev, eIf_ev, sNil_sv, sSeq_sv, sAsg_sv, sIf_sv, sRet_sv, sDrop_sv, sSetL_sv, sApp_sv, eIxM_ev, eLenM_ev, iT_ev, iL_ev, iR1_ev, iR2_ev, gN_put, gs0_put, gs1_put, gT_put, sAsgG_sv, tYes'_ev, eIs_ev, sRaise_sv, sTry_sv, sNever_sv, sPar_sv, o0_ev, o1_ev, eSlT_ev, sSetD_sv, eIxD_ev, eGetD_ev, eSortD_ev, eDict_ev, eNegC_ev, eRevT_ev, eOrD_ev, eRepM_ev, sAugI_sv, iItemsD_ev, iZip_ev, sRaiseF_sv, eIsX_ev, eFldX_ev, eCatM_ev, eSortIt_ev, sAugAdd, sAugSub, eIntOf, eRep01, eStrOf, eTupOf, eLstOf, eCatT, eInt, eStr, eBl, eNon, eAdd, eSub, eMul, eMulW, eMod, eDiv, ePow, eLt, eLe, eGt, eGe, eEq, eNe, eIxL, eIxT, eLen, eMax2, eMin2, eAll, eAny, eSum, eIsTy, R.bindD_ok, gI, R.bindD_ok, R.bindD_exc, R.bind_ok, R.bind_exc, R.bind_bad, R.of, R.flow, evV, evD, dat, pull, push, callOn, left, begun, List.length_cons, List.length_nil, List.getElem?_cons_zero, List.getElem?_cons_succ, List.set_cons_zero, List.set_cons_succ, if_true, if_false, ite_t, ite_f, Nat.reduceAdd, Nat.reduceLT, Nat.reduceSub, Nat.reduceEqDiff, Nat.reduceLeDiff, List.map_cons, List.map_nil, List.replicate, List.append_nil, List.nil_append, List.cons_append, and_self, true_and, and_true, Bool.not_true, Bool.not_false, Bool.false_eq_true, reduceIte, Nat.zero_add, Nat.lt_add_left_iff_pos, tt, ln, n2, i0, i1, ip, ir]) ?_
    refine seq_nx (ρ' := [some (.d (pl one)), some (.d (pl other)), some (.d (.bl false)), some (.d (.tup [C, RR])), some (.d C), some (.d RR)]) rfl ?_
    exact seq_rt (by simp only [eV_ev, eC_ev, eOp_ev, eUn_ev, eIsN_ev, eNotN_ev, aNil_ev, aCons_ev, aM_ev, eTup_ev, eLst_ev, eLstM_ev, eCall_ev, eCB_ev, tV_ev, tV'_ev, tAnd'_ev, tOr'_ev, tNot'_ev, eAndV_ev, eOrV_ev, eNotV_ev, eIf_ev, sNil_sv, sSeq_sv, sAsg_sv, sIf_sv, sRet_sv, sDrop_sv, sSetL_sv, sApp_sv, eIxM_ev, eLenM_ev, iT_ev, iL_ev, iR1_ev, iR2_ev, gN_put, gs0_put, gs1_put, gT_put, sAsgG_sv, tYes'_ev, eIs_ev, sRaise_sv, sTry_sv, sNever_sv, sPar_sv, o0_ev, o1_ev, eSlT_ev, sSetD_sv, eIxD_ev, eGetD_ev, eSortD_ev, eDict_ev, eNegC_ev, eRevT_ev, eOrD_ev, eRepM_ev, sAugI_sv, iItemsD_ev, iZip_ev, sRaiseF_sv, eIsX_ev, eFldX_ev, eCatM_ev, eSortIt_ev, sAugAdd, sAugSub, eIntOf, eRep01, eStrOf, eTupOf, eLstOf, eCatT, eInt, eStr, eBl, eNon, eAdd, eSub, eMul, eMulW, eMod, eDiv, ePow, eLt, eLe, eGt, eGe, eEq, eNe, eIxL, eIxT, eLen, eMax2, eMin2, eAll, eAny, eSum, eIsTy, R.bindD_ok, gI, R.bindD_ok, R.bindD_exc, R.bind_ok, R.bind_exc, R.bind_bad, R.of, R.flow, evV, evD, dat, pull, push, callOn, left, begun, List.length_cons, List.length_nil, List.getElem?_cons_zero, List.getElem?_cons_succ, List.set_cons_zero, List.set_cons_succ, if_true, if_false, ite_t, ite_f, Nat.reduceAdd, Nat.reduceLT, Nat.reduceSub, Nat.reduceEqDiff, Nat.reduceLeDiff, List.map_cons, List.map_nil, List.replicate, List.append_nil, List.nil_append, List.cons_append, and_self, true_and, and_true, Bool.not_true, Bool.not_false, Bool.false_eq_true, reduceIte, Nat.zero_add, Nat.lt_add_left_iff_pos, t2, k2, t1, k1])
end
end K49

set_option maxRecDepth 100000
set_option maxHeartbeats 2000000
namespace Pv
open PySem PySem.Spec PyProof.Rows L2
section
variable {K : PySem.W.Frag} {κ : Cls}
theorem eLenSet_ev (a : SE K κ) : (eLenSet (K := K) (κ := κ) a).ev = fun ρ => (a.ev ρ).bindD fun x ρ => match x with
    | .lst xs => match strsOf xs with
      | some ss => if ss.length ≤ 1 then .ok (.d (.int ss.length)) ρ else .bad
      | none => .bad
    | _ => .bad := rfl
theorem ePopAt_ev (i : Nat) (e : SE K κ) : (ePopAt (K := K) (κ := κ) i e).ev = fun ρ => match ρ[i]? with
    | some (some (.ml _)) => (e.ev ρ).bindD fun y ρ => match y with
      | .int j => match ρ[i]? with
        | some (some (.ml xs)) => if 0 ≤ j ∧ j < 1000000 then (match xs[j.toNat]? with
          | some x => .ok (.d x) (ρ.set i (some (.ml (xs.eraseIdx j.toNat))))
          | none => .bad) else .bad
        | _ => .bad
      | _ => .bad
    | _ => .bad := rfl
theorem eGive_ev (i : Nat) : (eGive (K := K) (κ := κ) i).ev = fun ρ => match ρ[i]? with
    | some (some w) => .ok w (ρ.set i none)
    | _ => .bad := rfl
theorem pop_of {i : Nat} {e : SE K κ} {ρ ρ1 : Env} {ys xs : List D} {j : Int} {x : D} (h0 : ρ[i]? = some (some (.ml ys))) (he : e.ev ρ = .ok (.d (.int j)) ρ1) (h1 : ρ1[i]? = some (some (.ml xs))) (hj : 0 ≤ j ∧ j < 1000000) (hx : xs[j.toNat]? = some x) :
    (ePopAt i e).ev ρ = .ok (.d x) (ρ1.set i (some (.ml (xs.eraseIdx j.toNat)))) := by
  rw [ePopAt_ev]
  simp only [h0, he, R.bindD_ok, h1, if_pos hj, hx]
end
end Pv

set_option maxRecDepth 100000
set_option maxHeartbeats 4000000
namespace K49
open PySem PySem.Spec PyProof.Rows L2 Pv P25 P66 P49
section
variable {K : PySem.W.Frag} {κ : Cls} {mg : Str → Option Value}
theorem coins_of_heap (T : Tx K κ mg) {xs : List Int} (h : ∀ x ∈ xs, 1 ≤ x) (hl : xs.length ≤ 100) : f_l_coins T [.d (pl (heapP xs))] = .ok (.ml ((sortI xs).map .int)) [.d (pl (heapP xs))] := by
  obtain ⟨up, ex⟩ := heap_facts h
  have el := expand_len up
  have um := up_many up
  have ln : (expand (heapP xs)).length = xs.length := by rw [ex, (sortI_perm xs).length_eq]
  have v := v_coins T (ps := heapP xs) (fun p hp => ⟨by have := um p hp; omega, by have := (el.2 p hp).2; omega⟩) (by omega)
  rw [ex] at v
  exact v
def small (m : Int) (ys : List Int) : Prop := ys.length ≤ 11 ∧ ∀ y ∈ ys, 1 ≤ y ∧ y ≤ m
theorem map_erase (f : Int → D) : ∀ (xs : List Int) (j : Nat), (xs.map f).eraseIdx j = (xs.eraseIdx j).map f
  | [], _ => rfl
  | x :: xs, 0 => rfl
  | x :: xs, j + 1 => by
    rw [List.map_cons, List.eraseIdx_cons_succ, List.eraseIdx_cons_succ, List.map_cons, map_erase f xs j]
theorem mem_erase {ys : List Int} {j : Nat} {y : Int} (h : y ∈ ys.eraseIdx j) : y ∈ ys := List.mem_of_mem_eraseIdx h
theorem v_changed (T : Tx K κ mg) (d : Int) {xs : List Int} (h : ∀ x ∈ xs, 1 ≤ x ∧ x ≤ 12) (hl : xs.length ≤ 9) : ∃ d' ys, f_l_changed T [.ml [.int d], .d (pl (heapP xs))] = .ok (.d (pl (heapP ys))) [.ml [.int d'], .d (pl (heapP xs))] ∧ small 14 ys := by
  have co := coins_of_heap T (fun x hx => (h x hx).1) (by omega : xs.length ≤ 100)
  have hc : ∀ x ∈ sortI xs, 1 ≤ x ∧ x ≤ 12 := fun x hx => h x ((sortI_perm xs).mem_iff.mp hx)
  have cl : (sortI xs).length = xs.length := (sortI_perm xs).length_eq
  generalize sortI xs = cs at *
  generalize pl (heapP xs) = X at *
  have b : b_l_changed T = sSeq (sAsg 2 (eCall 1 (f_l_coins T) (aCons (eV 1) (aNil))))
    (sSeq (sIf (tOr' (tPk (tV' (eEq (eV 2) (eLst (aNil))))) (tV' (eEq (eCall 2 (f_l_take T) (aM 0 (aCons (eInt 3) (aNil)))) (eInt 0)))) (sSeq (sRet (eCall 1 (f_l_heap T) (aCons (eCatL (eV 2) (eLst (aCons (eAdd (eInt 1) (eCall 2 (f_l_take T) (aM 0 (aCons (eInt 9) (aNil))))) (aNil)))) (aNil))))
    (sNil)) (sNil))
    (sSeq (sAsg 3 (ePopAt 2 (eCall 2 (f_l_take T) (aM 0 (aCons (eLenM 2) (aNil))))))
    (sSeq (sRet (eCall 1 (f_l_heap T) (aCons (eCatL (eV 2) (eRepL (eLstM (aCons (eAdd (eV 3) (eCall 2 (f_l_take T) (aM 0 (aCons (eInt 3) (aNil))))) (aNil))) (eCall 2 (f_l_take T) (aM 0 (aCons (eInt 2) (aNil)))))) (aNil))))
    (sNil)))) := rfl
  have e1 : (sAsg (K := K) (κ := κ) 2 (eCall 1 (f_l_coins T) (aCons (eV 1) (aNil)))).sv [some (.ml [.int d]), some (.d X), none, none] = .ok .nx [some (.ml [.int d]), some (.d X), some (.ml (cs.map .int)), none] := by
    simp only [eV_ev, eC_ev, eOp_ev, eUn_ev, eIsN_ev, eNotN_ev, aNil_ev, aCons_ev, aM_ev, eTup_ev, eLst_ev, eLstM_ev, eCall_ev, eCB_ev, tV_ev, tV'_ev, tAnd'_ev, tOr'_ev, tNot'_ev, eAndV_ev, eOrV_ev, eNotV_ev, eIf_ev, sNil_sv, sSeq_sv, sAsg_sv, sIf_sv, sRet_sv, sDrop_sv, sSetL_sv, sApp_sv, eIxM_ev, eLenM_ev, iT_ev, iL_ev, iR1_ev, iR2_ev, gN_put, gs0_put, gs1_put, gT_put, sAsgG_sv, tYes'_ev, eIs_ev, sRaise_sv, sTry_sv, sNever_sv, sPar_sv, o0_ev, o1_ev, eSlT_ev, sSetD_sv, eIxD_ev, eGetD_ev, eSortD_ev, eDict_ev, eNegC_ev, eRevT_ev, eOrD_ev, eRepM_ev, sAugI_sv, iItemsD_ev, iZip_ev, sRaiseF_sv, eIsX_ev, eFldX_ev, eCatM_ev, eSortIt_ev, sAugAdd, sAugSub, eIntOf, eRep01, eStrOf, eTupOf, eLstOf, eCatT, eInt, eStr, eBl, eNon, eAdd, eSub, eMul, eMulW, eMod, eDiv, ePow, eLt, eLe, eGt, eGe, eEq, eNe, eIxL, eIxT, eLen, eMax2, eMin2, eAll, eAny, eSum, eIsTy, R.bindD_ok, gI, R.bindD_ok, R.bindD_exc, R.bind_ok, R.bind_exc, R.bind_bad, R.of, R.flow, evV, evD, dat, pull, push, callOn, left, begun, List.length_cons, List.length_nil, List.getElem?_cons_zero, List.getElem?_cons_succ, List.set_cons_zero, List.set_cons_succ, if_true, if_false, ite_t, ite_f, Nat.reduceAdd, Nat.reduceLT, Nat.reduceSub, Nat.reduceEqDiff, Nat.reduceLeDiff, List.map_cons, List.map_nil, List.replicate, List.append_nil, List.nil_append, List.cons_append, and_self, true_and, and_true, Bool.not_true, Bool.not_false, Bool.false_eq_true, reduceIte, Nat.zero_add, Nat.lt_add_left_iff_pos, co]
  have tpk : (tPk (K := K) (κ := κ) (tV' (eEq (eV 2) (eLst (aNil))))).ev [some (.ml [.int d]), some (.d X), some (.ml (cs.map .int)), none] = .ok cs.isEmpty [some (.ml [.int d]), some (.d X), some (.ml (cs.map .int)), none] := by
    refine tpk_of (ρp := [some (.d (.lst [.int d])), some (.d X), some (.d (.lst (cs.map .int))), none]) rfl (ρ' := [some (.d (.lst [.int d])), some (.d X), some (.d (.lst (cs.map .int))), none]) ?_
    have g := ints_eq_nil cs
    simp only [eV_ev, eC_ev, eOp_ev, eUn_ev, eIsN_ev, eNotN_ev, aNil_ev, aCons_ev, aM_ev, eTup_ev, eLst_ev, eLstM_ev, eCall_ev, eCB_ev, tV_ev, tV'_ev, tAnd'_ev, tOr'_ev, tNot'_ev, eAndV_ev, eOrV_ev, eNotV_ev, eIf_ev, sNil_sv, sSeq_sv, sAsg_sv, sIf_sv, sRet_sv, sDrop_sv, sSetL_sv, sApp_sv, eIxM_ev, eLenM_ev, iT_ev, iL_ev, iR1_ev, iR2_ev, gN_put, gs0_put, gs1_put, gT_put, sAsgG_sv, tYes'_ev, eIs_ev, sRaise_sv, sTry_sv, sNever_sv, sPar_sv, o0_ev, o1_ev, eSlT_ev, sSetD_sv, eIxD_ev, eGetD_ev, eSortD_ev, eDict_ev, eNegC_ev, eRevT_ev, eOrD_ev, eRepM_ev, sAugI_sv, iItemsD_ev, iZip_ev, sRaiseF_sv, eIsX_ev, eFldX_ev, eCatM_ev, eSortIt_ev, sAugAdd, sAugSub, eIntOf, eRep01, eStrOf, eTupOf, eLstOf, eCatT, eInt, eStr, eBl, eNon, eAdd, eSub, eMul, eMulW, eMod, eDiv, ePow, eLt, eLe, eGt, eGe, eEq, eNe, eIxL, eIxT, eLen, eMax2, eMin2, eAll, eAny, eSum, eIsTy, R.bindD_ok, gI, R.bindD_ok, R.bindD_exc, R.bind_ok, R.bind_exc, R.bind_bad, R.of, R.flow, evV, evD, dat, pull, push, callOn, left, begun, List.length_cons, List.length_nil, List.getElem?_cons_zero, List.getElem?_cons_succ, List.set_cons_zero, List.set_cons_succ, if_true, if_false, ite_t, ite_f, Nat.reduceAdd, Nat.reduceLT, Nat.reduceSub, Nat.reduceEqDiff, Nat.reduceLeDiff, List.map_cons, List.map_nil, List.replicate, List.append_nil, List.nil_append, List.cons_append, and_self, true_and, and_true, Bool.not_true, Bool.not_false, Bool.false_eq_true, reduceIte, Nat.zero_add, Nat.lt_add_left_iff_pos, g]
  -- a coin more
  have more : ∀ d1 : Int, ∃ d' ys, (sSeq (K := K) (κ := κ) (sRet (eCall 1 (f_l_heap T) (aCons (eCatL (eV 2) (eLst (aCons (eAdd (eInt 1) (eCall 2 (f_l_take T) (aM 0 (aCons (eInt 9) (aNil))))) (aNil)))) (aNil)))) (sNil)).sv [some (.ml [.int d1]), some (.d X), some (.ml (cs.map .int)), none] = .ok (.rt (.d (pl (heapP ys)))) [some (.ml [.int d']), some (.d X), some (.d (.lst (cs.map .int))), none] ∧ small 14 ys := by
    intro d1
    have t9 := v_take T d1 9 (by decide) (by decide)
    have a0 := Int.emod_nonneg d1 (show (9 : Int) ≠ 0 by decide)
    have a1 := Int.emod_lt_of_pos d1 (show (0 : Int) < 9 by decide)
    generalize d1 % 9 = z at *
    generalize d1 / 9 = d2 at *
    have hp := v_heap T (cs ++ [1 + z]) (by simp; omega)
    have g : gCatL (.lst (cs.map .int)) (.lst [.int (1 + z)]) = some (.lst ((cs ++ [1 + z]).map .int)) := by
      rw [List.map_append]
      exact if_pos (by simp; omega)
    refine ⟨d2, cs ++ [1 + z], seq_rt ?_, by simp; omega, fun y hy => ?_⟩
    · generalize cs ++ [1 + z] = ds at *
      simp only [eV_ev, eC_ev, eOp_ev, eUn_ev, eIsN_ev, eNotN_ev, aNil_ev, aCons_ev, aM_ev, eTup_ev, eLst_ev, eLstM_ev, eCall_ev, eCB_ev, tV_ev, tV'_ev, tAnd'_ev, tOr'_ev, tNot'_ev, eAndV_ev, eOrV_ev, eNotV_ev, eIf_ev, sNil_sv, sSeq_sv, sAsg_sv, sIf_sv, sRet_sv, sDrop_sv, sSetL_sv, sApp_sv, eIxM_ev, eLenM_ev, iT_ev, iL_ev, iR1_ev, iR2_ev, gN_put, gs0_put, gs1_put, gT_put, sAsgG_sv, tYes'_ev, eIs_ev, sRaise_sv, sTry_sv, sNever_sv, sPar_sv, o0_ev, o1_ev, eSlT_ev, sSetD_sv, eIxD_ev, eGetD_ev, eSortD_ev, eDict_ev, eNegC_ev, eRevT_ev, eOrD_ev, eRepM_ev, sAugI_sv, iItemsD_ev, iZip_ev, sRaiseF_sv, eIsX_ev, eFldX_ev, eCatM_ev, eSortIt_ev, sAugAdd, sAugSub, eIntOf, eRep01, eStrOf, eTupOf, eLstOf, eCatT, eInt, eStr, eBl, eNon, eAdd, eSub, eMul, eMulW, eMod, eDiv, ePow, eLt, eLe, eGt, eGe, eEq, eNe, eIxL, eIxT, eLen, eMax2, eMin2, eAll, eAny, eSum, eIsTy, R.bindD_ok, gI, R.bindD_ok, R.bindD_exc, R.bind_ok, R.bind_exc, R.bind_bad, R.of, R.flow, evV, evD, dat, pull, push, callOn, left, begun, List.length_cons, List.length_nil, List.getElem?_cons_zero, List.getElem?_cons_succ, List.set_cons_zero, List.set_cons_succ, if_true, if_false, ite_t, ite_f, Nat.reduceAdd, Nat.reduceLT, Nat.reduceSub, Nat.reduceEqDiff, Nat.reduceLeDiff, List.map_cons, List.map_nil, List.replicate, List.append_nil, List.nil_append, List.cons_append, and_self, true_and, and_true, Bool.not_true, Bool.not_false, Bool.false_eq_true, reduceIte, Nat.zero_add, Nat.lt_add_left_iff_pos, eCatL, t9, g, hp]
    · rcases List.mem_append.mp hy with hy | hy
      · have := hc y hy
        omega
      · rw [List.mem_singleton] at hy
        omega
  by_cases he : cs = []
  · subst he
    obtain ⟨d', ys, e, hs⟩ := more d
    refine ⟨d', ys, ?_, hs⟩
    refine fn_rt (ρ := [some (.ml [.int d']), some (.d X), some (.d (.lst [])), none]) ?_ rfl
    rw [b]
    refine seq_nx e1 ?_
    exact seq_rt (if_tr (or_t tpk) e)
  · have ne : cs.isEmpty = false := by cases cs with | nil => exact absurd rfl he | cons _ _ => rfl
    rw [ne] at tpk
    have t3 := v_take T d 3 (by decide) (by decide)
    generalize d % 3 = z at *
    generalize d / 3 = d1 at *
    have ge := gEq_int z 0
    have tt : (tV' (K := K) (κ := κ) (eEq (eCall 2 (f_l_take T) (aM 0 (aCons (eInt 3) (aNil)))) (eInt 0))).ev [some (.ml [.int d]), some (.d X), some (.ml (cs.map .int)), none] = .ok (z == 0) [some (.ml [.int d1]), some (.d X), some (.ml (cs.map .int)), none] := by
      simp only [eV_ev, eC_ev, eOp_ev, eUn_ev, eIsN_ev, eNotN_ev, aNil_ev, aCons_ev, aM_ev, eTup_ev, eLst_ev, eLstM_ev, eCall_ev, eCB_ev, tV_ev, tV'_ev, tAnd'_ev, tOr'_ev, tNot'_ev, eAndV_ev, eOrV_ev, eNotV_ev, eIf_ev, sNil_sv, sSeq_sv, sAsg_sv, sIf_sv, sRet_sv, sDrop_sv, sSetL_sv, sApp_sv, eIxM_ev, eLenM_ev, iT_ev, iL_ev, iR1_ev, iR2_ev, gN_put, gs0_put, gs1_put, gT_put, sAsgG_sv, tYes'_ev, eIs_ev, sRaise_sv, sTry_sv, sNever_sv, sPar_sv, o0_ev, o1_ev, eSlT_ev, sSetD_sv, eIxD_ev, eGetD_ev, eSortD_ev, eDict_ev, eNegC_ev, eRevT_ev, eOrD_ev, eRepM_ev, sAugI_sv, iItemsD_ev, iZip_ev, sRaiseF_sv, eIsX_ev, eFldX_ev, eCatM_ev, eSortIt_ev, sAugAdd, sAugSub, eIntOf, eRep01, eStrOf, eTupOf, eLstOf, eCatT, eInt, eStr, eBl, eNon, eAdd, eSub, eMul, eMulW, eMod, eDiv, ePow, eLt, eLe, eGt, eGe, eEq, eNe, eIxL, eIxT, eLen, eMax2, eMin2, eAll, eAny, eSum, eIsTy, R.bindD_ok, gI, R.bindD_ok, R.bindD_exc, R.bind_ok, R.bind_exc, R.bind_bad, R.of, R.flow, evV, evD, dat, pull, push, callOn, left, begun, List.length_cons, List.length_nil, List.getElem?_cons_zero, List.getElem?_cons_succ, List.set_cons_zero, List.set_cons_succ, if_true, if_false, ite_t, ite_f, Nat.reduceAdd, Nat.reduceLT, Nat.reduceSub, Nat.reduceEqDiff, Nat.reduceLeDiff, List.map_cons, List.map_nil, List.replicate, List.append_nil, List.nil_append, List.cons_append, and_self, true_and, and_true, Bool.not_true, Bool.not_false, Bool.false_eq_true, reduceIte, Nat.zero_add, Nat.lt_add_left_iff_pos, t3, ge]
    by_cases hz : z = 0
    · rw [show (z == 0) = true by rw [hz]; rfl] at tt
      obtain ⟨d', ys, e, hs⟩ := more d1
      refine ⟨d', ys, ?_, hs⟩
      refine fn_rt (ρ := [some (.ml [.int d']), some (.d X), some (.d (.lst (cs.map .int))), none]) ?_ rfl
      rw [b]
      refine seq_nx e1 ?_
      exact seq_rt (if_tr ((or_f tpk).trans tt) e)
    · rw [show (z == 0) = false by simpa using hz] at tt
      have cp : 0 < cs.length := by cases cs with | nil => exact absurd rfl he | cons _ _ => simp
      have t4 := v_take T d1 cs.length (by omega) (by omega)
      have j0 := Int.emod_nonneg d1 (show (cs.length : Int) ≠ 0 by omega)
      have j1 := Int.emod_lt_of_pos d1 (show (0 : Int) < cs.length by omega)
      generalize d1 % (cs.length : Int) = j at *
      generalize d1 / (cs.length : Int) = d2 at *
      have jl : j.toNat < cs.length := by omega
      obtain ⟨c, hcj⟩ : ∃ c, cs[j.toNat]? = some c := ⟨_, List.getElem?_eq_getElem jl⟩
      have hcm : c ∈ cs := List.mem_of_getElem? hcj
      have hcj' : (cs.map D.int)[j.toNat]? = some (.int c) := by rw [List.getElem?_map, hcj]; rfl
      have tk : (eCall (K := K) (κ := κ) 2 (f_l_take T) (aM 0 (aCons (eLenM 2) (aNil)))).ev [some (.ml [.int d1]), some (.d X), some (.ml (cs.map .int)), none] = .ok (.d (.int j)) [some (.ml [.int d2]), some (.d X), some (.ml (cs.map .int)), none] := by
        have lm : (cs.map D.int).length = cs.length := by simp
        simp only [eV_ev, eC_ev, eOp_ev, eUn_ev, eIsN_ev, eNotN_ev, aNil_ev, aCons_ev, aM_ev, eTup_ev, eLst_ev, eLstM_ev, eCall_ev, eCB_ev, tV_ev, tV'_ev, tAnd'_ev, tOr'_ev, tNot'_ev, eAndV_ev, eOrV_ev, eNotV_ev, eIf_ev, sNil_sv, sSeq_sv, sAsg_sv, sIf_sv, sRet_sv, sDrop_sv, sSetL_sv, sApp_sv, eIxM_ev, eLenM_ev, iT_ev, iL_ev, iR1_ev, iR2_ev, gN_put, gs0_put, gs1_put, gT_put, sAsgG_sv, tYes'_ev, eIs_ev, sRaise_sv, sTry_sv, sNever_sv, sPar_sv, o0_ev, o1_ev, eSlT_ev, sSetD_sv, eIxD_ev, eGetD_ev, eSortD_ev, eDict_ev, eNegC_ev, eRevT_ev, eOrD_ev, eRepM_ev, sAugI_sv, iItemsD_ev, iZip_ev, sRaiseF_sv, eIsX_ev, eFldX_ev, eCatM_ev, eSortIt_ev, sAugAdd, sAugSub, eIntOf, eRep01, eStrOf, eTupOf, eLstOf, eCatT, eInt, eStr, eBl, eNon, eAdd, eSub, eMul, eMulW, eMod, eDiv, ePow, eLt, eLe, eGt, eGe, eEq, eNe, eIxL, eIxT, eLen, eMax2, eMin2, eAll, eAny, eSum, eIsTy, R.bindD_ok, gI, R.bindD_ok, R.bindD_exc, R.bind_ok, R.bind_exc, R.bind_bad, R.of, R.flow, evV, evD, dat, pull, push, callOn, left, begun, List.length_cons, List.length_nil, List.getElem?_cons_zero, List.getElem?_cons_succ, List.set_cons_zero, List.set_cons_succ, if_true, if_false, ite_t, ite_f, Nat.reduceAdd, Nat.reduceLT, Nat.reduceSub, Nat.reduceEqDiff, Nat.reduceLeDiff, List.map_cons, List.map_nil, List.replicate, List.append_nil, List.nil_append, List.cons_append, and_self, true_and, and_true, Bool.not_true, Bool.not_false, Bool.false_eq_true, reduceIte, Nat.zero_add, Nat.lt_add_left_iff_pos, lm, t4]
      have pp := pop_of (i := 2) (ρ := [some (.ml [.int d1]), some (.d X), some (.ml (cs.map .int)), none]) (ys := cs.map .int) rfl tk (xs := cs.map .int) rfl ⟨j0, by omega⟩ hcj'
      have er : (cs.map D.int).eraseIdx j.toNat = (cs.eraseIdx j.toNat).map .int := map_erase D.int cs j.toNat
      rw [er] at pp
      have rl : (cs.eraseIdx j.toNat).length ≤ 8 := by rw [List.length_eraseIdx_of_lt jl]; omega
      have rm : ∀ y ∈ cs.eraseIdx j.toNat, 1 ≤ y ∧ y ≤ 12 := fun y hy => hc y (mem_erase hy)
      generalize cs.eraseIdx j.toNat = rs at *
      have t5 := v_take T d2 3 (by decide) (by decide)
      have k0 := Int.emod_nonneg d2 (show (3 : Int) ≠ 0 by decide)
      have k1 := Int.emod_lt_of_pos d2 (show (0 : Int) < 3 by decide)
      generalize d2 % 3 = k at *
      generalize d2 / 3 = d3 at *
      have t6 := v_take T d3 2 (by decide) (by decide)
      have m0 := Int.emod_nonneg d3 (show (2 : Int) ≠ 0 by decide)
      have m1 := Int.emod_lt_of_pos d3 (show (0 : Int) < 2 by decide)
      generalize d3 % 2 = m at *
      generalize d3 / 2 = d4 at *
      have ck := hc c hcm
      have hp := v_heap T (rs ++ List.replicate m.toNat (c + k)) (by simp; omega)
      have o : (0 : Int) ≤ m ∧ m ≤ 1000 := ⟨m0, by omega⟩
      have re : (eRepL (K := K) (κ := κ) (eLstM (aCons (eAdd (eV 3) (eCall 2 (f_l_take T) (aM 0 (aCons (eInt 3) (aNil))))) (aNil))) (eCall 2 (f_l_take T) (aM 0 (aCons (eInt 2) (aNil))))).ev [some (.ml [.int d2]), some (.d X), some (.d (.lst (rs.map .int))), some (.d (.int c))] = .ok (.d (.lst ((List.replicate m.toNat (c + k)).map .int))) [some (.ml [.int d4]), some (.d X), some (.d (.lst (rs.map .int))), some (.d (.int c))] := by
        rw [eRepL_ev]
        simp only [eV_ev, eC_ev, eOp_ev, eUn_ev, eIsN_ev, eNotN_ev, aNil_ev, aCons_ev, aM_ev, eTup_ev, eLst_ev, eLstM_ev, eCall_ev, eCB_ev, tV_ev, tV'_ev, tAnd'_ev, tOr'_ev, tNot'_ev, eAndV_ev, eOrV_ev, eNotV_ev, eIf_ev, sNil_sv, sSeq_sv, sAsg_sv, sIf_sv, sRet_sv, sDrop_sv, sSetL_sv, sApp_sv, eIxM_ev, eLenM_ev, iT_ev, iL_ev, iR1_ev, iR2_ev, gN_put, gs0_put, gs1_put, gT_put, sAsgG_sv, tYes'_ev, eIs_ev, sRaise_sv, sTry_sv, sNever_sv, sPar_sv, o0_ev, o1_ev, eSlT_ev, sSetD_sv, eIxD_ev, eGetD_ev, eSortD_ev, eDict_ev, eNegC_ev, eRevT_ev, eOrD_ev, eRepM_ev, sAugI_sv, iItemsD_ev, iZip_ev, sRaiseF_sv, eIsX_ev, eFldX_ev, eCatM_ev, eSortIt_ev, sAugAdd, sAugSub, eIntOf, eRep01, eStrOf, eTupOf, eLstOf, eCatT, eInt, eStr, eBl, eNon, eAdd, eSub, eMul, eMulW, eMod, eDiv, ePow, eLt, eLe, eGt, eGe, eEq, eNe, eIxL, eIxT, eLen, eMax2, eMin2, eAll, eAny, eSum, eIsTy, R.bindD_ok, gI, R.bindD_ok, R.bindD_exc, R.bind_ok, R.bind_exc, R.bind_bad, R.of, R.flow, evV, evD, dat, pull, push, callOn, left, begun, List.length_cons, List.length_nil, List.getElem?_cons_zero, List.getElem?_cons_succ, List.set_cons_zero, List.set_cons_succ, if_true, if_false, ite_t, ite_f, Nat.reduceAdd, Nat.reduceLT, Nat.reduceSub, Nat.reduceEqDiff, Nat.reduceLeDiff, List.map_cons, List.map_nil, List.replicate, List.append_nil, List.nil_append, List.cons_append, and_self, true_and, and_true, Bool.not_true, Bool.not_false, Bool.false_eq_true, reduceIte, Nat.zero_add, Nat.lt_add_left_iff_pos, t5, t6, if_pos o]
        rw [rep_flat, rep_map]
      have g : gCatL (.lst (rs.map .int)) (.lst ((List.replicate m.toNat (c + k)).map .int)) = some (.lst ((rs ++ List.replicate m.toNat (c + k)).map .int)) := by
        rw [List.map_append]
        exact if_pos (by simp; omega)
      refine ⟨d4, rs ++ List.replicate m.toNat (c + k), ?_, by simp; omega, fun y hy => ?_⟩
      · generalize rs ++ List.replicate m.toNat (c + k) = ds at *
        generalize (List.replicate m.toNat (c + k)).map D.int = zs at *
        refine fn_rt (ρ := [some (.ml [.int d4]), some (.d X), some (.d (.lst (rs.map .int))), some (.d (.int c))]) ?_ rfl
        rw [b]
        refine seq_nx e1 ?_
        refine seq_nx (if_no ((or_f tpk).trans tt)) ?_
        refine seq_nx (asg_of pp (by simp)) ?_
        obtain ⟨RR, hR⟩ : ∃ RR, eRepL (K := K) (κ := κ) (eLstM (aCons (eAdd (eV 3) (eCall 2 (f_l_take T) (aM 0 (aCons (eInt 3) (aNil))))) (aNil))) (eCall 2 (f_l_take T) (aM 0 (aCons (eInt 2) (aNil)))) = RR := ⟨_, rfl⟩
        rw [hR] at re ⊢
        exact seq_rt (by simp only [eV_ev, eC_ev, eOp_ev, eUn_ev, eIsN_ev, eNotN_ev, aNil_ev, aCons_ev, aM_ev, eTup_ev, eLst_ev, eLstM_ev, eCall_ev, eCB_ev, tV_ev, tV'_ev, tAnd'_ev, tOr'_ev, tNot'_ev, eAndV_ev, eOrV_ev, eNotV_ev, eIf_ev, sNil_sv, sSeq_sv, sAsg_sv, sIf_sv, sRet_sv, sDrop_sv, sSetL_sv, sApp_sv, eIxM_ev, eLenM_ev, iT_ev, iL_ev, iR1_ev, iR2_ev, gN_put, gs0_put, gs1_put, gT_put, sAsgG_sv, tYes'_ev, eIs_ev, sRaise_sv, sTry_sv, sNever_sv, sPar_sv, o0_ev, o1_ev, eSlT_ev, sSetD_sv, eIxD_ev, eGetD_ev, eSortD_ev, eDict_ev, eNegC_ev, eRevT_ev, eOrD_ev, eRepM_ev, sAugI_sv, iItemsD_ev, iZip_ev, sRaiseF_sv, eIsX_ev, eFldX_ev, eCatM_ev, eSortIt_ev, sAugAdd, sAugSub, eIntOf, eRep01, eStrOf, eTupOf, eLstOf, eCatT, eInt, eStr, eBl, eNon, eAdd, eSub, eMul, eMulW, eMod, eDiv, ePow, eLt, eLe, eGt, eGe, eEq, eNe, eIxL, eIxT, eLen, eMax2, eMin2, eAll, eAny, eSum, eIsTy, R.bindD_ok, gI, R.bindD_ok, R.bindD_exc, R.bind_ok, R.bind_exc, R.bind_bad, R.of, R.flow, evV, evD, dat, pull, push, callOn, left, begun, List.length_cons, List.length_nil, List.getElem?_cons_zero, List.getElem?_cons_succ, List.set_cons_zero, List.set_cons_succ, if_true, if_false, ite_t, ite_f, Nat.reduceAdd, Nat.reduceLT, Nat.reduceSub, Nat.reduceEqDiff, Nat.reduceLeDiff, List.map_cons, List.map_nil, List.replicate, List.append_nil, List.nil_append, List.cons_append, and_self, true_and, and_true, Bool.not_true, Bool.not_false, Bool.false_eq_true, reduceIte, Nat.zero_add, Nat.lt_add_left_iff_pos, eCatL, re, g, hp])
      · rcases List.mem_append.mp hy with hy | hy
        · have := rm y hy
          omega
        · rw [(List.mem_replicate.mp hy).2]
          omega
end
end K49

set_option maxRecDepth 100000
set_option maxHeartbeats 4000000
namespace K49
open PySem PySem.Spec PyProof.Rows L2 Pv P25 P66 P49
section
variable {K : PySem.W.Frag} {κ : Cls} {mg : Str → Option Value}
theorem small_pil {m : Int} (hm : m ≤ 14) {ys : List Int} (h : small m ys) : P01.Pil 11 200 (heapP ys) ∧ sumP (heapP ys) ≤ 200 ∧ Pil (heapP ys) := by
  have hp := B.heap_pil (xs := ys) fun y hy => by have := h.2 y hy; omega
  have hl := h.1
  have up := B.up25.mp hp.up
  have h2 := h.2
  have sm : ∀ ys : List Int, (∀ y ∈ ys, y ≤ 14) → ys.sum ≤ 14 * ys.length := by
    intro ys
    induction ys with
    | nil => intro _; simp
    | cons y ys ih =>
      intro h
      have := h y (by simp)
      have := ih fun z hz => h z (by simp [hz])
      rw [List.sum_cons, List.length_cons]
      omega
  have s1 := sm ys fun y hy => by have := h2 y hy; omega
  have e : sumP (heapP ys) = ys.sum := by
    rw [← sum_expand up, (heap_facts fun y hy => (h2 y hy).1).2]
    exact B.sum_perm (sortI_perm ys)
  have f := hp.few
  refine ⟨⟨hp.up, by omega, fun p hp' => ?_⟩, by omega, up, by omega, fun p hp' => ?_⟩
  · have := hp.small p hp'
    exact ⟨this.1, by omega⟩
  · have := hp.small p hp'
    omega
theorem good_small (T : Tx K κ mg) {a b : List Int} (ha : small 14 a) (hb : small 14 b) : f_l_good T [.d (pl (heapP a)), .d (pl (heapP b))] = .ok (.d (.bl true)) [.d (pl (heapP a)), .d (pl (heapP b))] := by
  have pa := small_pil (by omega) ha
  have pb := small_pil (by omega) hb
  exact v_good T pa.1 pb.1 (by omega) (by omega) pa.2.1 pb.2.1
def bd_in (T : Tx K κ mg) : SS K κ := (sSeq (sAsg 5 (eCall 2 (f_l_pile T) (aM 3 (aCons (eInt 12) (aNil)))))
    (sSeq (sAsg 6 (eCall 2 (f_l_changed T) (aM 3 (aCons (eV 5) (aNil)))))
    (sSeq (sIf (tV' (eEq (eCall 2 (f_l_take T) (aM 3 (aCons (eInt 3) (aNil)))) (eInt 0))) (sSeq (sAsg 6 (eCall 2 (f_l_pile T) (aM 3 (aCons (eInt 12) (aNil)))))
    (sNil)) (sNil))
    (sSeq (sIf (tOr' (tNot' (tV (eCall 2 (f_l_good T) (aCons (eV 5) (aCons (eV 6) (aNil)))))) (tOr' (tNot' (tV (eCall 2 (f_l_good T) (aCons (eV 6) (aCons (eV 5) (aNil)))))) (tNot' (tV (eCall 2 (f_l_good T) (aCons (eV 5) (aCons (eV 5) (aNil)))))))) (sSeq (sRet (eBl false))
    (sNil)) (sNil))
    (sSeq (sAsg 7 (eTup (aCons (eTup (aCons (eAdd (eInt 1) (eCall 2 (f_l_take T) (aM 3 (aCons (ePow (eInt 10) (eInt 11)) (aNil))))) (aCons (eAdd (eInt 1) (eCall 2 (f_l_take T) (aM 3 (aCons (eInt 9) (aNil))))) (aNil)))) (aNil))))
    (sSeq (sIf (tOr' (tV' (eNe (eCall 2 (f_outdoes T) (aCons (eV 7) (aCons (eV 5) (aNil)))) (eCall 2 (f_l_due T) (aCons (eV 7) (aCons (eV 5) (aNil)))))) (tV' (eNe (eCall 2 (f_outdoes T) (aCons (eV 5) (aCons (eV 7) (aNil)))) (eCall 2 (f_l_due T) (aCons (eV 5) (aCons (eV 7) (aNil))))))) (sSeq (sRet (eBl false))
    (sNil)) (sNil))
    (sNil)))))))
def bd_fin (T : Tx K κ mg) : SS K κ := (sSeq (sIf (tOr' (tNot' (tV (eCall 2 (f_l_good T) (aCons (eV 5) (aCons (eV 6) (aNil)))))) (tOr' (tNot' (tV (eCall 2 (f_l_good T) (aCons (eV 6) (aCons (eV 5) (aNil)))))) (tNot' (tV (eCall 2 (f_l_good T) (aCons (eV 5) (aCons (eV 5) (aNil)))))))) (sSeq (sRet (eBl false))
    (sNil)) (sNil))
    (sSeq (sAsg 7 (eTup (aCons (eTup (aCons (eAdd (eInt 1) (eCall 2 (f_l_take T) (aM 3 (aCons (ePow (eInt 10) (eInt 11)) (aNil))))) (aCons (eAdd (eInt 1) (eCall 2 (f_l_take T) (aM 3 (aCons (eInt 9) (aNil))))) (aNil)))) (aNil))))
    (sSeq (sIf (tOr' (tV' (eNe (eCall 2 (f_outdoes T) (aCons (eV 7) (aCons (eV 5) (aNil)))) (eCall 2 (f_l_due T) (aCons (eV 7) (aCons (eV 5) (aNil)))))) (tV' (eNe (eCall 2 (f_outdoes T) (aCons (eV 5) (aCons (eV 7) (aNil)))) (eCall 2 (f_l_due T) (aCons (eV 5) (aCons (eV 7) (aNil))))))) (sSeq (sRet (eBl false))
    (sNil)) (sNil))
    (sNil))))
theorem p11 : CPow 10 11 := ⟨by decide, by decide, by decide⟩
theorem in_step (T : Tx K κ mg) (s t k : D) (d : Int) (a5 a6 a7 : Option W) : ∃ d' b5 b6 b7, (bd_in T).sv [some (.d s), some (.d t), none, some (.ml [.int d]), some (.d k), a5, a6, a7] = .ok .nx [some (.d s), some (.d t), none, some (.ml [.int d']), some (.d k), b5, b6, b7] := by
  obtain ⟨d1, xs, e1, l1, h1⟩ := v_pile T d 12 (by omega) (by omega)
  obtain ⟨d2, ys, e2, hy⟩ := v_changed T d1 h1 l1
  have sx : small 14 xs := ⟨by omega, fun x hx => by have := h1 x hx; omega⟩
  have t3 := v_take T d2 3 (by decide) (by decide)
  generalize d2 % 3 = z at *
  generalize d2 / 3 = d3 at *
  have ge := gEq_int z 0
  -- the other till, after it may have been drawn anew
  have fin : ∀ (d4 : Int) (zs : List Int), small 14 zs → ∃ d' b7, (bd_fin T).sv [some (.d s), some (.d t), none, some (.ml [.int d4]), some (.d k), some (.d (pl (heapP xs))), some (.d (pl (heapP zs))), a7] = .ok .nx [some (.d s), some (.d t), none, some (.ml [.int d']), some (.d k), some (.d (pl (heapP xs))), some (.d (pl (heapP zs))), b7] := by
    intro d4 zs hz
    have g1 := good_small T sx hz
    have g2 := good_small T hz sx
    have g3 := good_small T sx sx
    have px := (small_pil (by omega) sx).2.2
    have t4 := v_take T d4 (10 ^ 11) (by decide) (by decide)
    have q0 := Int.emod_nonneg d4 (show (10 ^ 11 : Int) ≠ 0 by decide)
    have q1 := Int.emod_lt_of_pos d4 (show (0 : Int) < 10 ^ 11 by decide)
    generalize d4 % 10 ^ 11 = g at *
    generalize d4 / 10 ^ 11 = d5 at *
    have t5 := v_take T d5 9 (by decide) (by decide)
    have r0 := Int.emod_nonneg d5 (show (9 : Int) ≠ 0 by decide)
    generalize d5 % 9 = m at *
    generalize d5 / 9 = d6 at *
    have pg : Pil [(1 + g, 1 + m)] := ⟨⟨by show (0 : Int) < 1 + g; omega, by show (1 : Int) ≤ 1 + m; omega, trivial⟩, by simp, fun p hp => by
      rw [List.mem_singleton] at hp
      subst hp
      show 1 + g < _
      omega⟩
    have o1 := v_outdoes T pg px
    have o2 := v_outdoes T px pg
    have u1 := v_due T pg px
    have u2 := v_due T px pg
    have nb : ∀ b, gNe (.bl b) (.bl b) = some (.bl false) := fun b => by cases b <;> kernel_rfl
    have pe : (Int.pow 10 11) = 100000000000 := by decide
    have tp : (eTup (K := K) (κ := κ) (aCons (eTup (aCons (eAdd (eInt 1) (eCall 2 (f_l_take T) (aM 3 (aCons (ePow (eInt 10) (eInt 11)) (aNil))))) (aCons (eAdd (eInt 1) (eCall 2 (f_l_take T) (aM 3 (aCons (eInt 9) (aNil))))) (aNil)))) (aNil))).ev [some (.d s), some (.d t), none, some (.ml [.int d4]), some (.d k), some (.d (pl (heapP xs))), some (.d (pl (heapP zs))), a7] = .ok (.d (pl [(1 + g, 1 + m)])) [some (.d s), some (.d t), none, some (.ml [.int d6]), some (.d k), some (.d (pl (heapP xs))), some (.d (pl (heapP zs))), a7] := by
      have p1 : (ePow (K := K) (κ := κ) (eInt 10) (eInt 11)).ev [some (.d s), some (.d t), none, some (.ml [.int d4]), some (.d k), some (.d (pl (heapP xs))), some (.d (pl (heapP zs))), a7] = .ok (.d (.int (10 ^ 11))) [some (.d s), some (.d t), none, some (.ml [.int d4]), some (.d k), some (.d (pl (heapP xs))), some (.d (pl (heapP zs))), a7] := by
        simp only [eV_ev, eC_ev, eOp_ev, eUn_ev, eIsN_ev, eNotN_ev, aNil_ev, aCons_ev, aM_ev, eTup_ev, eLst_ev, eLstM_ev, eCall_ev, eCB_ev, tV_ev, tV'_ev, tAnd'_ev, tOr'_ev, tNot'_ev, eAndV_ev, eOrV_ev, eNotV_ev, eIf_ev, sNil_sv, sSeq_sv, sAsg_sv, sIf_sv, sRet_sv, sDrop_sv, sSetL_sv, sApp_sv, eIxM_ev, eLenM_ev, iT_ev, iL_ev, iR1_ev, iR2_ev, gN_put, gs0_put, gs1_put, gT_put, sAsgG_sv, tYes'_ev, eIs_ev, sRaise_sv, sTry_sv, sNever_sv, sPar_sv, o0_ev, o1_ev, eSlT_ev, sSetD_sv, eIxD_ev, eGetD_ev, eSortD_ev, eDict_ev, eNegC_ev, eRevT_ev, eOrD_ev, eRepM_ev, sAugI_sv, iItemsD_ev, iZip_ev, sRaiseF_sv, eIsX_ev, eFldX_ev, eCatM_ev, eSortIt_ev, sAugAdd, sAugSub, eIntOf, eRep01, eStrOf, eTupOf, eLstOf, eCatT, eInt, eStr, eBl, eNon, eAdd, eSub, eMul, eMulW, eMod, eDiv, ePow, eLt, eLe, eGt, eGe, eEq, eNe, eIxL, eIxT, eLen, eMax2, eMin2, eAll, eAny, eSum, eIsTy, R.bindD_ok, gI, R.bindD_ok, R.bindD_exc, R.bind_ok, R.bind_exc, R.bind_bad, R.of, R.flow, evV, evD, dat, pull, push, callOn, left, begun, List.length_cons, List.length_nil, List.getElem?_cons_zero, List.getElem?_cons_succ, List.set_cons_zero, List.set_cons_succ, if_true, if_false, ite_t, ite_f, Nat.reduceAdd, Nat.reduceLT, Nat.reduceSub, Nat.reduceEqDiff, Nat.reduceLeDiff, List.map_cons, List.map_nil, List.replicate, List.append_nil, List.nil_append, List.cons_append, and_self, true_and, and_true, Bool.not_true, Bool.not_false, Bool.false_eq_true, reduceIte, Nat.zero_add, Nat.lt_add_left_iff_pos, if_pos p11]
        rfl
      generalize ePow (K := K) (κ := κ) (eInt 10) (eInt 11) = PP at *
      simp only [eV_ev, eC_ev, eOp_ev, eUn_ev, eIsN_ev, eNotN_ev, aNil_ev, aCons_ev, aM_ev, eTup_ev, eLst_ev, eLstM_ev, eCall_ev, eCB_ev, tV_ev, tV'_ev, tAnd'_ev, tOr'_ev, tNot'_ev, eAndV_ev, eOrV_ev, eNotV_ev, eIf_ev, sNil_sv, sSeq_sv, sAsg_sv, sIf_sv, sRet_sv, sDrop_sv, sSetL_sv, sApp_sv, eIxM_ev, eLenM_ev, iT_ev, iL_ev, iR1_ev, iR2_ev, gN_put, gs0_put, gs1_put, gT_put, sAsgG_sv, tYes'_ev, eIs_ev, sRaise_sv, sTry_sv, sNever_sv, sPar_sv, o0_ev, o1_ev, eSlT_ev, sSetD_sv, eIxD_ev, eGetD_ev, eSortD_ev, eDict_ev, eNegC_ev, eRevT_ev, eOrD_ev, eRepM_ev, sAugI_sv, iItemsD_ev, iZip_ev, sRaiseF_sv, eIsX_ev, eFldX_ev, eCatM_ev, eSortIt_ev, sAugAdd, sAugSub, eIntOf, eRep01, eStrOf, eTupOf, eLstOf, eCatT, eInt, eStr, eBl, eNon, eAdd, eSub, eMul, eMulW, eMod, eDiv, ePow, eLt, eLe, eGt, eGe, eEq, eNe, eIxL, eIxT, eLen, eMax2, eMin2, eAll, eAny, eSum, eIsTy, R.bindD_ok, gI, R.bindD_ok, R.bindD_exc, R.bind_ok, R.bind_exc, R.bind_bad, R.of, R.flow, evV, evD, dat, pull, push, callOn, left, begun, List.length_cons, List.length_nil, List.getElem?_cons_zero, List.getElem?_cons_succ, List.set_cons_zero, List.set_cons_succ, if_true, if_false, ite_t, ite_f, Nat.reduceAdd, Nat.reduceLT, Nat.reduceSub, Nat.reduceEqDiff, Nat.reduceLeDiff, List.map_cons, List.map_nil, List.replicate, List.append_nil, List.nil_append, List.cons_append, and_self, true_and, and_true, Bool.not_true, Bool.not_false, Bool.false_eq_true, reduceIte, Nat.zero_add, Nat.lt_add_left_iff_pos, p1, t4, t5]
      rfl
    generalize pl [(1 + g, 1 + m)] = GG at *
    generalize pl (heapP xs) = XX at *
    generalize pl (heapP zs) = ZZ at *
    refine ⟨d6, some (.d GG), ?_⟩
    unfold bd_fin
    refine seq_nx (ρ' := [some (.d s), some (.d t), none, some (.ml [.int d4]), some (.d k), some (.d XX), some (.d ZZ), a7]) (by simp only [eV_ev, eC_ev, eOp_ev, eUn_ev, eIsN_ev, eNotN_ev, aNil_ev, aCons_ev, aM_ev, eTup_ev, eLst_ev, eLstM_ev, eCall_ev, eCB_ev, tV_ev, tV'_ev, tAnd'_ev, tOr'_ev, tNot'_ev, eAndV_ev, eOrV_ev, eNotV_ev, eIf_ev, sNil_sv, sSeq_sv, sAsg_sv, sIf_sv, sRet_sv, sDrop_sv, sSetL_sv, sApp_sv, eIxM_ev, eLenM_ev, iT_ev, iL_ev, iR1_ev, iR2_ev, gN_put, gs0_put, gs1_put, gT_put, sAsgG_sv, tYes'_ev, eIs_ev, sRaise_sv, sTry_sv, sNever_sv, sPar_sv, o0_ev, o1_ev, eSlT_ev, sSetD_sv, eIxD_ev, eGetD_ev, eSortD_ev, eDict_ev, eNegC_ev, eRevT_ev, eOrD_ev, eRepM_ev, sAugI_sv, iItemsD_ev, iZip_ev, sRaiseF_sv, eIsX_ev, eFldX_ev, eCatM_ev, eSortIt_ev, sAugAdd, sAugSub, eIntOf, eRep01, eStrOf, eTupOf, eLstOf, eCatT, eInt, eStr, eBl, eNon, eAdd, eSub, eMul, eMulW, eMod, eDiv, ePow, eLt, eLe, eGt, eGe, eEq, eNe, eIxL, eIxT, eLen, eMax2, eMin2, eAll, eAny, eSum, eIsTy, R.bindD_ok, gI, R.bindD_ok, R.bindD_exc, R.bind_ok, R.bind_exc, R.bind_bad, R.of, R.flow, evV, evD, dat, pull, push, callOn, left, begun, List.length_cons, List.length_nil, List.getElem?_cons_zero, List.getElem?_cons_succ, List.set_cons_zero, List.set_cons_succ, if_true, if_false, ite_t, ite_f, Nat.reduceAdd, Nat.reduceLT, Nat.reduceSub, Nat.reduceEqDiff, Nat.reduceLeDiff, List.map_cons, List.map_nil, List.replicate, List.append_nil, List.nil_append, List.cons_append, and_self, true_and, and_true, Bool.not_true, Bool.not_false, Bool.false_eq_true, reduceIte, Nat.zero_add, Nat.lt_add_left_iff_pos, g1, g2, g3]) ?_
    refine seq_nx (asg_of tp (by simp)) ?_
    refine seq_nx (ρ' := [some (.d s), some (.d t), none, some (.ml [.int d6]), some (.d k), some (.d XX), some (.d ZZ), some (.d GG)]) (by simp only [eV_ev, eC_ev, eOp_ev, eUn_ev, eIsN_ev, eNotN_ev, aNil_ev, aCons_ev, aM_ev, eTup_ev, eLst_ev, eLstM_ev, eCall_ev, eCB_ev, tV_ev, tV'_ev, tAnd'_ev, tOr'_ev, tNot'_ev, eAndV_ev, eOrV_ev, eNotV_ev, eIf_ev, sNil_sv, sSeq_sv, sAsg_sv, sIf_sv, sRet_sv, sDrop_sv, sSetL_sv, sApp_sv, eIxM_ev, eLenM_ev, iT_ev, iL_ev, iR1_ev, iR2_ev, gN_put, gs0_put, gs1_put, gT_put, sAsgG_sv, tYes'_ev, eIs_ev, sRaise_sv, sTry_sv, sNever_sv, sPar_sv, o0_ev, o1_ev, eSlT_ev, sSetD_sv, eIxD_ev, eGetD_ev, eSortD_ev, eDict_ev, eNegC_ev, eRevT_ev, eOrD_ev, eRepM_ev, sAugI_sv, iItemsD_ev, iZip_ev, sRaiseF_sv, eIsX_ev, eFldX_ev, eCatM_ev, eSortIt_ev, sAugAdd, sAugSub, eIntOf, eRep01, eStrOf, eTupOf, eLstOf, eCatT, eInt, eStr, eBl, eNon, eAdd, eSub, eMul, eMulW, eMod, eDiv, ePow, eLt, eLe, eGt, eGe, eEq, eNe, eIxL, eIxT, eLen, eMax2, eMin2, eAll, eAny, eSum, eIsTy, R.bindD_ok, gI, R.bindD_ok, R.bindD_exc, R.bind_ok, R.bind_exc, R.bind_bad, R.of, R.flow, evV, evD, dat, pull, push, callOn, left, begun, List.length_cons, List.length_nil, List.getElem?_cons_zero, List.getElem?_cons_succ, List.set_cons_zero, List.set_cons_succ, if_true, if_false, ite_t, ite_f, Nat.reduceAdd, Nat.reduceLT, Nat.reduceSub, Nat.reduceEqDiff, Nat.reduceLeDiff, List.map_cons, List.map_nil, List.replicate, List.append_nil, List.nil_append, List.cons_append, and_self, true_and, and_true, Bool.not_true, Bool.not_false, Bool.false_eq_true, reduceIte, Nat.zero_add, Nat.lt_add_left_iff_pos, o1, u1, nb, o2, u2]) ?_
    rfl
  unfold bd_in
  by_cases hz : z = 0
  · rw [show (z == 0) = true by rw [hz]; rfl] at ge
    obtain ⟨d4, zs, e4, l4, h4⟩ := v_pile T d3 12 (by omega) (by omega)
    obtain ⟨d', b7, f⟩ := fin d4 zs ⟨by omega, fun x hx => by have := h4 x hx; omega⟩
    refine ⟨d', some (.d (pl (heapP xs))), some (.d (pl (heapP zs))), b7, ?_⟩
    refine seq_nx (ρ' := [some (.d s), some (.d t), none, some (.ml [.int d1]), some (.d k), some (.d (pl (heapP xs))), a6, a7]) (by simp only [eV_ev, eC_ev, eOp_ev, eUn_ev, eIsN_ev, eNotN_ev, aNil_ev, aCons_ev, aM_ev, eTup_ev, eLst_ev, eLstM_ev, eCall_ev, eCB_ev, tV_ev, tV'_ev, tAnd'_ev, tOr'_ev, tNot'_ev, eAndV_ev, eOrV_ev, eNotV_ev, eIf_ev, sNil_sv, sSeq_sv, sAsg_sv, sIf_sv, sRet_sv, sDrop_sv, sSetL_sv, sApp_sv, eIxM_ev, eLenM_ev, iT_ev, iL_ev, iR1_ev, iR2_ev, gN_put, gs0_put, gs1_put, gT_put, sAsgG_sv, tYes'_ev, eIs_ev, sRaise_sv, sTry_sv, sNever_sv, sPar_sv, o0_ev, o1_ev, eSlT_ev, sSetD_sv, eIxD_ev, eGetD_ev, eSortD_ev, eDict_ev, eNegC_ev, eRevT_ev, eOrD_ev, eRepM_ev, sAugI_sv, iItemsD_ev, iZip_ev, sRaiseF_sv, eIsX_ev, eFldX_ev, eCatM_ev, eSortIt_ev, sAugAdd, sAugSub, eIntOf, eRep01, eStrOf, eTupOf, eLstOf, eCatT, eInt, eStr, eBl, eNon, eAdd, eSub, eMul, eMulW, eMod, eDiv, ePow, eLt, eLe, eGt, eGe, eEq, eNe, eIxL, eIxT, eLen, eMax2, eMin2, eAll, eAny, eSum, eIsTy, R.bindD_ok, gI, R.bindD_ok, R.bindD_exc, R.bind_ok, R.bind_exc, R.bind_bad, R.of, R.flow, evV, evD, dat, pull, push, callOn, left, begun, List.length_cons, List.length_nil, List.getElem?_cons_zero, List.getElem?_cons_succ, List.set_cons_zero, List.set_cons_succ, if_true, if_false, ite_t, ite_f, Nat.reduceAdd, Nat.reduceLT, Nat.reduceSub, Nat.reduceEqDiff, Nat.reduceLeDiff, List.map_cons, List.map_nil, List.replicate, List.append_nil, List.nil_append, List.cons_append, and_self, true_and, and_true, Bool.not_true, Bool.not_false, Bool.false_eq_true, reduceIte, Nat.zero_add, Nat.lt_add_left_iff_pos, e1]) ?_
    refine seq_nx (ρ' := [some (.d s), some (.d t), none, some (.ml [.int d2]), some (.d k), some (.d (pl (heapP xs))), some (.d (pl (heapP ys))), a7]) (by simp only [eV_ev, eC_ev, eOp_ev, eUn_ev, eIsN_ev, eNotN_ev, aNil_ev, aCons_ev, aM_ev, eTup_ev, eLst_ev, eLstM_ev, eCall_ev, eCB_ev, tV_ev, tV'_ev, tAnd'_ev, tOr'_ev, tNot'_ev, eAndV_ev, eOrV_ev, eNotV_ev, eIf_ev, sNil_sv, sSeq_sv, sAsg_sv, sIf_sv, sRet_sv, sDrop_sv, sSetL_sv, sApp_sv, eIxM_ev, eLenM_ev, iT_ev, iL_ev, iR1_ev, iR2_ev, gN_put, gs0_put, gs1_put, gT_put, sAsgG_sv, tYes'_ev, eIs_ev, sRaise_sv, sTry_sv, sNever_sv, sPar_sv, o0_ev, o1_ev, eSlT_ev, sSetD_sv, eIxD_ev, eGetD_ev, eSortD_ev, eDict_ev, eNegC_ev, eRevT_ev, eOrD_ev, eRepM_ev, sAugI_sv, iItemsD_ev, iZip_ev, sRaiseF_sv, eIsX_ev, eFldX_ev, eCatM_ev, eSortIt_ev, sAugAdd, sAugSub, eIntOf, eRep01, eStrOf, eTupOf, eLstOf, eCatT, eInt, eStr, eBl, eNon, eAdd, eSub, eMul, eMulW, eMod, eDiv, ePow, eLt, eLe, eGt, eGe, eEq, eNe, eIxL, eIxT, eLen, eMax2, eMin2, eAll, eAny, eSum, eIsTy, R.bindD_ok, gI, R.bindD_ok, R.bindD_exc, R.bind_ok, R.bind_exc, R.bind_bad, R.of, R.flow, evV, evD, dat, pull, push, callOn, left, begun, List.length_cons, List.length_nil, List.getElem?_cons_zero, List.getElem?_cons_succ, List.set_cons_zero, List.set_cons_succ, if_true, if_false, ite_t, ite_f, Nat.reduceAdd, Nat.reduceLT, Nat.reduceSub, Nat.reduceEqDiff, Nat.reduceLeDiff, List.map_cons, List.map_nil, List.replicate, List.append_nil, List.nil_append, List.cons_append, and_self, true_and, and_true, Bool.not_true, Bool.not_false, Bool.false_eq_true, reduceIte, Nat.zero_add, Nat.lt_add_left_iff_pos, e2]) ?_
    refine seq_nx (ρ' := [some (.d s), some (.d t), none, some (.ml [.int d4]), some (.d k), some (.d (pl (heapP xs))), some (.d (pl (heapP zs))), a7]) (by simp only [eV_ev, eC_ev, eOp_ev, eUn_ev, eIsN_ev, eNotN_ev, aNil_ev, aCons_ev, aM_ev, eTup_ev, eLst_ev, eLstM_ev, eCall_ev, eCB_ev, tV_ev, tV'_ev, tAnd'_ev, tOr'_ev, tNot'_ev, eAndV_ev, eOrV_ev, eNotV_ev, eIf_ev, sNil_sv, sSeq_sv, sAsg_sv, sIf_sv, sRet_sv, sDrop_sv, sSetL_sv, sApp_sv, eIxM_ev, eLenM_ev, iT_ev, iL_ev, iR1_ev, iR2_ev, gN_put, gs0_put, gs1_put, gT_put, sAsgG_sv, tYes'_ev, eIs_ev, sRaise_sv, sTry_sv, sNever_sv, sPar_sv, o0_ev, o1_ev, eSlT_ev, sSetD_sv, eIxD_ev, eGetD_ev, eSortD_ev, eDict_ev, eNegC_ev, eRevT_ev, eOrD_ev, eRepM_ev, sAugI_sv, iItemsD_ev, iZip_ev, sRaiseF_sv, eIsX_ev, eFldX_ev, eCatM_ev, eSortIt_ev, sAugAdd, sAugSub, eIntOf, eRep01, eStrOf, eTupOf, eLstOf, eCatT, eInt, eStr, eBl, eNon, eAdd, eSub, eMul, eMulW, eMod, eDiv, ePow, eLt, eLe, eGt, eGe, eEq, eNe, eIxL, eIxT, eLen, eMax2, eMin2, eAll, eAny, eSum, eIsTy, R.bindD_ok, gI, R.bindD_ok, R.bindD_exc, R.bind_ok, R.bind_exc, R.bind_bad, R.of, R.flow, evV, evD, dat, pull, push, callOn, left, begun, List.length_cons, List.length_nil, List.getElem?_cons_zero, List.getElem?_cons_succ, List.set_cons_zero, List.set_cons_succ, if_true, if_false, ite_t, ite_f, Nat.reduceAdd, Nat.reduceLT, Nat.reduceSub, Nat.reduceEqDiff, Nat.reduceLeDiff, List.map_cons, List.map_nil, List.replicate, List.append_nil, List.nil_append, List.cons_append, and_self, true_and, and_true, Bool.not_true, Bool.not_false, Bool.false_eq_true, reduceIte, Nat.zero_add, Nat.lt_add_left_iff_pos, t3, ge, e4]) ?_
    exact f
  · rw [show (z == 0) = false by simpa using hz] at ge
    obtain ⟨d', b7, f⟩ := fin d3 ys hy
    refine ⟨d', some (.d (pl (heapP xs))), some (.d (pl (heapP ys))), b7, ?_⟩
    refine seq_nx (ρ' := [some (.d s), some (.d t), none, some (.ml [.int d1]), some (.d k), some (.d (pl (heapP xs))), a6, a7]) (by simp only [eV_ev, eC_ev, eOp_ev, eUn_ev, eIsN_ev, eNotN_ev, aNil_ev, aCons_ev, aM_ev, eTup_ev, eLst_ev, eLstM_ev, eCall_ev, eCB_ev, tV_ev, tV'_ev, tAnd'_ev, tOr'_ev, tNot'_ev, eAndV_ev, eOrV_ev, eNotV_ev, eIf_ev, sNil_sv, sSeq_sv, sAsg_sv, sIf_sv, sRet_sv, sDrop_sv, sSetL_sv, sApp_sv, eIxM_ev, eLenM_ev, iT_ev, iL_ev, iR1_ev, iR2_ev, gN_put, gs0_put, gs1_put, gT_put, sAsgG_sv, tYes'_ev, eIs_ev, sRaise_sv, sTry_sv, sNever_sv, sPar_sv, o0_ev, o1_ev, eSlT_ev, sSetD_sv, eIxD_ev, eGetD_ev, eSortD_ev, eDict_ev, eNegC_ev, eRevT_ev, eOrD_ev, eRepM_ev, sAugI_sv, iItemsD_ev, iZip_ev, sRaiseF_sv, eIsX_ev, eFldX_ev, eCatM_ev, eSortIt_ev, sAugAdd, sAugSub, eIntOf, eRep01, eStrOf, eTupOf, eLstOf, eCatT, eInt, eStr, eBl, eNon, eAdd, eSub, eMul, eMulW, eMod, eDiv, ePow, eLt, eLe, eGt, eGe, eEq, eNe, eIxL, eIxT, eLen, eMax2, eMin2, eAll, eAny, eSum, eIsTy, R.bindD_ok, gI, R.bindD_ok, R.bindD_exc, R.bind_ok, R.bind_exc, R.bind_bad, R.of, R.flow, evV, evD, dat, pull, push, callOn, left, begun, List.length_cons, List.length_nil, List.getElem?_cons_zero, List.getElem?_cons_succ, List.set_cons_zero, List.set_cons_succ, if_true, if_false, ite_t, ite_f, Nat.reduceAdd, Nat.reduceLT, Nat.reduceSub, Nat.reduceEqDiff, Nat.reduceLeDiff, List.map_cons, List.map_nil, List.replicate, List.append_nil, List.nil_append, List.cons_append, and_self, true_and, and_true, Bool.not_true, Bool.not_false, Bool.false_eq_true, reduceIte, Nat.zero_add, Nat.lt_add_left_iff_pos, e1]) ?_
    refine seq_nx (ρ' := [some (.d s), some (.d t), none, some (.ml [.int d2]), some (.d k), some (.d (pl (heapP xs))), some (.d (pl (heapP ys))), a7]) (by simp only [eV_ev, eC_ev, eOp_ev, eUn_ev, eIsN_ev, eNotN_ev, aNil_ev, aCons_ev, aM_ev, eTup_ev, eLst_ev, eLstM_ev, eCall_ev, eCB_ev, tV_ev, tV'_ev, tAnd'_ev, tOr'_ev, tNot'_ev, eAndV_ev, eOrV_ev, eNotV_ev, eIf_ev, sNil_sv, sSeq_sv, sAsg_sv, sIf_sv, sRet_sv, sDrop_sv, sSetL_sv, sApp_sv, eIxM_ev, eLenM_ev, iT_ev, iL_ev, iR1_ev, iR2_ev, gN_put, gs0_put, gs1_put, gT_put, sAsgG_sv, tYes'_ev, eIs_ev, sRaise_sv, sTry_sv, sNever_sv, sPar_sv, o0_ev, o1_ev, eSlT_ev, sSetD_sv, eIxD_ev, eGetD_ev, eSortD_ev, eDict_ev, eNegC_ev, eRevT_ev, eOrD_ev, eRepM_ev, sAugI_sv, iItemsD_ev, iZip_ev, sRaiseF_sv, eIsX_ev, eFldX_ev, eCatM_ev, eSortIt_ev, sAugAdd, sAugSub, eIntOf, eRep01, eStrOf, eTupOf, eLstOf, eCatT, eInt, eStr, eBl, eNon, eAdd, eSub, eMul, eMulW, eMod, eDiv, ePow, eLt, eLe, eGt, eGe, eEq, eNe, eIxL, eIxT, eLen, eMax2, eMin2, eAll, eAny, eSum, eIsTy, R.bindD_ok, gI, R.bindD_ok, R.bindD_exc, R.bind_ok, R.bind_exc, R.bind_bad, R.of, R.flow, evV, evD, dat, pull, push, callOn, left, begun, List.length_cons, List.length_nil, List.getElem?_cons_zero, List.getElem?_cons_succ, List.set_cons_zero, List.set_cons_succ, if_true, if_false, ite_t, ite_f, Nat.reduceAdd, Nat.reduceLT, Nat.reduceSub, Nat.reduceEqDiff, Nat.reduceLeDiff, List.map_cons, List.map_nil, List.replicate, List.append_nil, List.nil_append, List.cons_append, and_self, true_and, and_true, Bool.not_true, Bool.not_false, Bool.false_eq_true, reduceIte, Nat.zero_add, Nat.lt_add_left_iff_pos, e2]) ?_
    refine seq_nx (ρ' := [some (.d s), some (.d t), none, some (.ml [.int d3]), some (.d k), some (.d (pl (heapP xs))), some (.d (pl (heapP ys))), a7]) (by simp only [eV_ev, eC_ev, eOp_ev, eUn_ev, eIsN_ev, eNotN_ev, aNil_ev, aCons_ev, aM_ev, eTup_ev, eLst_ev, eLstM_ev, eCall_ev, eCB_ev, tV_ev, tV'_ev, tAnd'_ev, tOr'_ev, tNot'_ev, eAndV_ev, eOrV_ev, eNotV_ev, eIf_ev, sNil_sv, sSeq_sv, sAsg_sv, sIf_sv, sRet_sv, sDrop_sv, sSetL_sv, sApp_sv, eIxM_ev, eLenM_ev, iT_ev, iL_ev, iR1_ev, iR2_ev, gN_put, gs0_put, gs1_put, gT_put, sAsgG_sv, tYes'_ev, eIs_ev, sRaise_sv, sTry_sv, sNever_sv, sPar_sv, o0_ev, o1_ev, eSlT_ev, sSetD_sv, eIxD_ev, eGetD_ev, eSortD_ev, eDict_ev, eNegC_ev, eRevT_ev, eOrD_ev, eRepM_ev, sAugI_sv, iItemsD_ev, iZip_ev, sRaiseF_sv, eIsX_ev, eFldX_ev, eCatM_ev, eSortIt_ev, sAugAdd, sAugSub, eIntOf, eRep01, eStrOf, eTupOf, eLstOf, eCatT, eInt, eStr, eBl, eNon, eAdd, eSub, eMul, eMulW, eMod, eDiv, ePow, eLt, eLe, eGt, eGe, eEq, eNe, eIxL, eIxT, eLen, eMax2, eMin2, eAll, eAny, eSum, eIsTy, R.bindD_ok, gI, R.bindD_ok, R.bindD_exc, R.bind_ok, R.bind_exc, R.bind_bad, R.of, R.flow, evV, evD, dat, pull, push, callOn, left, begun, List.length_cons, List.length_nil, List.getElem?_cons_zero, List.getElem?_cons_succ, List.set_cons_zero, List.set_cons_succ, if_true, if_false, ite_t, ite_f, Nat.reduceAdd, Nat.reduceLT, Nat.reduceSub, Nat.reduceEqDiff, Nat.reduceLeDiff, List.map_cons, List.map_nil, List.replicate, List.append_nil, List.nil_append, List.cons_append, and_self, true_and, and_true, Bool.not_true, Bool.not_false, Bool.false_eq_true, reduceIte, Nat.zero_add, Nat.lt_add_left_iff_pos, t3, ge]) ?_
    exact f
theorem in_loop (T : Tx K κ mg) (s t : D) : ∀ (r : List D) (d : Int) (a4 a5 a6 a7 : Option W), ∃ d' b4 b5 b6 b7, loopS (gN (K := K) (κ := κ) 4).put (bd_in T).sv r [some (.d s), some (.d t), none, some (.ml [.int d]), a4, a5, a6, a7] = .ok .nx [some (.d s), some (.d t), none, some (.ml [.int d']), b4, b5, b6, b7] := by
  intro r
  induction r with
  | nil => intro d a4 a5 a6 a7; exact ⟨d, a4, a5, a6, a7, rfl⟩
  | cons k r ih =>
    intro d a4 a5 a6 a7
    obtain ⟨d1, b5, b6, b7, e⟩ := in_step T s t k d a5 a6 a7
    obtain ⟨d', c4, c5, c6, c7, f⟩ := ih d1 (some (.d k)) b5 b6 b7
    exact ⟨d', c4, c5, c6, c7, (loop_nx (ρ1 := [some (.d s), some (.d t), none, some (.ml [.int d]), some (.d k), a5, a6, a7]) rfl e).trans f⟩
def forIn (T : Tx K κ mg) : SS K κ := sFor (iR1 (eInt 3)) (gN 4) (bd_in T)
def bd_turn (T : Tx K κ mg) : SS K κ := sSeq (sAsg 3 (eLstM (aCons (eCall 2 (f_l_cell T) (aCons (eV 0) (aCons (eV 1) (aNil)))) (aNil)))) (sSeq (forIn T) (sNil))
def forT (T : Tx K κ mg) : SS K κ := sFor (iR1 (eMax2 (aCons (eMin2 (aCons (eLen (aCons (eV 0) (aNil))) (aCons (eInt 6) (aNil)))) (aCons (eInt 1) (aNil))))) (gN 1) (bd_turn T)
theorem turn_loop (T : Tx K κ mg) (ns : List Int) : ∀ (r : List D) (a1 a3 a4 a5 a6 a7 : Option W), (∀ y ∈ r, ∃ i : Int, y = .int i ∧ 0 ≤ i) → ∃ b1 b3 b4 b5 b6 b7, loopS (gN (K := K) (κ := κ) 1).put (bd_turn T).sv r [some (.d (.lst (ns.map .int))), a1, none, a3, a4, a5, a6, a7] = .ok .nx [some (.d (.lst (ns.map .int))), b1, none, b3, b4, b5, b6, b7] := by
  intro r
  induction r with
  | nil => intro a1 a3 a4 a5 a6 a7 _; exact ⟨_, _, _, _, _, _, rfl⟩
  | cons y r ih =>
    intro a1 a3 a4 a5 a6 a7 h
    obtain ⟨i, rfl, hi⟩ := h y (by simp)
    obtain ⟨c, hc⟩ := v_cell T ns i hi
    obtain ⟨d', c4, c5, c6, c7, f⟩ := in_loop T (.lst (ns.map .int)) (.int i) (nums 0 3) c a4 a5 a6 a7
    have g : (forIn T).sv [some (.d (.lst (ns.map .int))), some (.d (.int i)), none, some (.ml [.int c]), a4, a5, a6, a7] = _ := for_of (ρ1 := [some (.d (.lst (ns.map .int))), some (.d (.int i)), none, some (.ml [.int c]), a4, a5, a6, a7]) (xs := nums 0 3) rfl f
    obtain ⟨b1, b3, b4, b5, b6, b7, e⟩ := ih (some (.d (.int i))) (some (.ml [.int d'])) c4 c5 c6 c7 fun y hy => h y (by simp [hy])
    refine ⟨b1, b3, b4, b5, b6, b7, (loop_nx (ρ1 := [some (.d (.lst (ns.map .int))), some (.d (.int i)), none, a3, a4, a5, a6, a7]) rfl ?_).trans e⟩
    unfold bd_turn
    refine seq_nx (ρ' := [some (.d (.lst (ns.map .int))), some (.d (.int i)), none, some (.ml [.int c]), a4, a5, a6, a7]) ?_ ?_
    · generalize D.lst (ns.map .int) = S at *
      simp only [eV_ev, eC_ev, eOp_ev, eUn_ev, eIsN_ev, eNotN_ev, aNil_ev, aCons_ev, aM_ev, eTup_ev, eLst_ev, eLstM_ev, eCall_ev, eCB_ev, tV_ev, tV'_ev, tAnd'_ev, tOr'_ev, tNot'_ev, eAndV_ev, eOrV_ev, eNotV_ev, eIf_ev, sNil_sv, sSeq_sv, sAsg_sv, sIf_sv, sRet_sv, sDrop_sv, sSetL_sv, sApp_sv, eIxM_ev, eLenM_ev, iT_ev, iL_ev, iR1_ev, iR2_ev, gN_put, gs0_put, gs1_put, gT_put, sAsgG_sv, tYes'_ev, eIs_ev, sRaise_sv, sTry_sv, sNever_sv, sPar_sv, o0_ev, o1_ev, eSlT_ev, sSetD_sv, eIxD_ev, eGetD_ev, eSortD_ev, eDict_ev, eNegC_ev, eRevT_ev, eOrD_ev, eRepM_ev, sAugI_sv, iItemsD_ev, iZip_ev, sRaiseF_sv, eIsX_ev, eFldX_ev, eCatM_ev, eSortIt_ev, sAugAdd, sAugSub, eIntOf, eRep01, eStrOf, eTupOf, eLstOf, eCatT, eInt, eStr, eBl, eNon, eAdd, eSub, eMul, eMulW, eMod, eDiv, ePow, eLt, eLe, eGt, eGe, eEq, eNe, eIxL, eIxT, eLen, eMax2, eMin2, eAll, eAny, eSum, eIsTy, R.bindD_ok, gI, R.bindD_ok, R.bindD_exc, R.bind_ok, R.bind_exc, R.bind_bad, R.of, R.flow, evV, evD, dat, pull, push, callOn, left, begun, List.length_cons, List.length_nil, List.getElem?_cons_zero, List.getElem?_cons_succ, List.set_cons_zero, List.set_cons_succ, if_true, if_false, ite_t, ite_f, Nat.reduceAdd, Nat.reduceLT, Nat.reduceSub, Nat.reduceEqDiff, Nat.reduceLeDiff, List.map_cons, List.map_nil, List.replicate, List.append_nil, List.nil_append, List.cons_append, and_self, true_and, and_true, Bool.not_true, Bool.not_false, Bool.false_eq_true, reduceIte, Nat.zero_add, Nat.lt_add_left_iff_pos, hc]
    · exact seq_nx g rfl
theorem pil1 {w n : Int} (h : 1 ≤ w ∧ w ≤ 200) (h' : 1 ≤ n ∧ n ≤ 200) : P01.Pil 1 200 [(w, n)] := ⟨⟨by show (0 : Int) < w; omega, h'.1, trivial⟩, by simp, fun p hp => by
  rw [List.mem_singleton] at hp
  subst hp
  exact ⟨by show w < _; omega, h'.2⟩⟩
theorem law_true (T : Tx K κ mg) (ns : List Int) : f_law T [.d (.lst (ns.map .int))] = .ok (.d (.bl true)) [.d (.lst (ns.map .int))] := by
  obtain ⟨m, hm⟩ : ∃ m : Int, m = (if (1 : Int) > (if (6 : Int) < ((ns.map D.int).length : Int) then 6 else ((ns.map D.int).length : Int)) then 1 else (if (6 : Int) < ((ns.map D.int).length : Int) then 6 else ((ns.map D.int).length : Int))) := ⟨_, rfl⟩
  have m5 : -(2 ^ 62) ≤ m ∧ m < 2 ^ 62 := by
    rw [hm]
    split <;> split <;> omega
  obtain ⟨b1, b3, b4, b5, b6, b7, e2⟩ := turn_loop T ns (nums 0 m.toNat) none none none none none none (by
    intro y hy
    simp only [nums, List.mem_map, List.mem_range] at hy
    obtain ⟨i, hi, rfl⟩ := hy
    exact ⟨_, rfl, by omega⟩)
  have f2 : (forT T).sv [some (.d (.lst (ns.map .int))), none, none, none, none, none, none, none] = _ := for_of (ρ1 := [some (.d (.lst (ns.map .int))), none, none, none, none, none, none, none]) (xs := nums 0 m.toNat) (by
    have gl : gLen [.lst (ns.map .int)] = some (.int (ns.map D.int).length) := rfl
    have g1 : gMin2 [.int ((ns.map D.int).length : Int), .int 6] = some (.int (if (6 : Int) < ((ns.map D.int).length : Int) then 6 else ((ns.map D.int).length : Int))) := rfl
    have g2 : gMax2 [.int (if (6 : Int) < ((ns.map D.int).length : Int) then 6 else ((ns.map D.int).length : Int)), .int 1] = some (.int m) := by rw [hm]; rfl
    simp only [eV_ev, eC_ev, eOp_ev, eUn_ev, eIsN_ev, eNotN_ev, aNil_ev, aCons_ev, aM_ev, eTup_ev, eLst_ev, eLstM_ev, eCall_ev, eCB_ev, tV_ev, tV'_ev, tAnd'_ev, tOr'_ev, tNot'_ev, eAndV_ev, eOrV_ev, eNotV_ev, eIf_ev, sNil_sv, sSeq_sv, sAsg_sv, sIf_sv, sRet_sv, sDrop_sv, sSetL_sv, sApp_sv, eIxM_ev, eLenM_ev, iT_ev, iL_ev, iR1_ev, iR2_ev, gN_put, gs0_put, gs1_put, gT_put, sAsgG_sv, tYes'_ev, eIs_ev, sRaise_sv, sTry_sv, sNever_sv, sPar_sv, o0_ev, o1_ev, eSlT_ev, sSetD_sv, eIxD_ev, eGetD_ev, eSortD_ev, eDict_ev, eNegC_ev, eRevT_ev, eOrD_ev, eRepM_ev, sAugI_sv, iItemsD_ev, iZip_ev, sRaiseF_sv, eIsX_ev, eFldX_ev, eCatM_ev, eSortIt_ev, sAugAdd, sAugSub, eIntOf, eRep01, eStrOf, eTupOf, eLstOf, eCatT, eInt, eStr, eBl, eNon, eAdd, eSub, eMul, eMulW, eMod, eDiv, ePow, eLt, eLe, eGt, eGe, eEq, eNe, eIxL, eIxT, eLen, eMax2, eMin2, eAll, eAny, eSum, eIsTy, R.bindD_ok, gI, R.bindD_ok, R.bindD_exc, R.bind_ok, R.bind_exc, R.bind_bad, R.of, R.flow, evV, evD, dat, pull, push, callOn, left, begun, List.length_cons, List.length_nil, List.getElem?_cons_zero, List.getElem?_cons_succ, List.set_cons_zero, List.set_cons_succ, if_true, if_false, ite_t, ite_f, Nat.reduceAdd, Nat.reduceLT, Nat.reduceSub, Nat.reduceEqDiff, Nat.reduceLeDiff, List.map_cons, List.map_nil, List.replicate, List.append_nil, List.nil_append, List.cons_append, and_self, true_and, and_true, Bool.not_true, Bool.not_false, Bool.false_eq_true, reduceIte, Nat.zero_add, Nat.lt_add_left_iff_pos, gl, g1, g2, if_pos m5]) e2
  have g1 := v_good T (pil1 (w := 2) (n := 100) (by omega) (by omega)) (pil1 (w := 1) (n := 200) (by omega) (by omega)) (by omega) (by omega) (by decide) (by decide)
  have g2 := v_good T (pil1 (w := 1) (n := 200) (by omega) (by omega)) (pil1 (w := 200) (n := 1) (by omega) (by omega)) (by omega) (by omega) (by decide) (by decide)
  have p1 : Pil [(1, 1), (2, 1), (4, 1)] := ⟨by simp [Up], by simp, by simp⟩
  have p2 : Pil [(1, 1), (2, 3)] := ⟨by simp [Up], by simp, by simp⟩
  have o1 := v_outdoes T p1 p2
  have o2 := v_outdoes T p2 p1
  have d1 : dueB [(1, 1), (2, 1), (4, 1)] [(1, 1), (2, 3)] = false := by decide
  have d2 : dueB [(1, 1), (2, 3)] [(1, 1), (2, 1), (4, 1)] = true := by decide
  rw [d1] at o1
  rw [d2] at o2
  simp only [pl, pr, List.map_cons, List.map_nil] at g1 g2 o1 o2
  obtain ⟨x, hx⟩ : ∃ x, D.lst (ns.map .int) = x := ⟨_, rfl⟩
  rw [hx] at f2 ⊢
  have b : b_law T = sSeq (forT T) (sSeq (sIf (tOr' (tNot' (tV (eCall 2 (f_l_good T) (aCons (eTup (aCons (eTup (aCons (eInt 2) (aCons (eInt 100) (aNil)))) (aNil))) (aCons (eTup (aCons (eTup (aCons (eInt 1) (aCons (eInt 200) (aNil)))) (aNil))) (aNil)))))) (tNot' (tV (eCall 2 (f_l_good T) (aCons (eTup (aCons (eTup (aCons (eInt 1) (aCons (eInt 200) (aNil)))) (aNil))) (aCons (eTup (aCons (eTup (aCons (eInt 200) (aCons (eInt 1) (aNil)))) (aNil))) (aNil))))))) (sSeq (sRet (eBl false))
    (sNil)) (sNil))
    (sSeq (sAsg 2 (eLst (aCons (eTup (aCons (eTup (aCons (eInt 1) (aCons (eInt 1) (aNil)))) (aCons (eTup (aCons (eInt 2) (aCons (eInt 1) (aNil)))) (aCons (eTup (aCons (eInt 4) (aCons (eInt 1) (aNil)))) (aNil))))) (aCons (eTup (aCons (eTup (aCons (eInt 1) (aCons (eInt 1) (aNil)))) (aCons (eTup (aCons (eInt 2) (aCons (eInt 3) (aNil)))) (aNil)))) (aNil)))))
    (sSeq (sRet (eAndV (eNotV (eCall 2 (f_outdoes T) (aCons (eIxL (eV 2) (eInt 0)) (aCons (eIxL (eV 2) (eInt 1)) (aNil))))) (eCall 2 (f_outdoes T) (aCons (eIxL (eV 2) (eInt 1)) (aCons (eIxL (eV 2) (eInt 0)) (aNil))))))
    (sNil)))) := rfl
  obtain ⟨A, hA⟩ : ∃ A, D.tup [.tup [.int 1, .int 1], .tup [.int 2, .int 1], .tup [.int 4, .int 1]] = A := ⟨_, rfl⟩
  obtain ⟨B, hB⟩ : ∃ B, D.tup [.tup [.int 1, .int 1], .tup [.int 2, .int 3]] = B := ⟨_, rfl⟩
  have asg : (sAsg (K := K) (κ := κ) 2 (eLst (aCons (eTup (aCons (eTup (aCons (eInt 1) (aCons (eInt 1) (aNil)))) (aCons (eTup (aCons (eInt 2) (aCons (eInt 1) (aNil)))) (aCons (eTup (aCons (eInt 4) (aCons (eInt 1) (aNil)))) (aNil))))) (aCons (eTup (aCons (eTup (aCons (eInt 1) (aCons (eInt 1) (aNil)))) (aCons (eTup (aCons (eInt 2) (aCons (eInt 3) (aNil)))) (aNil)))) (aNil))))).sv [some (.d x), b1, none, b3, b4, b5, b6, b7] = .ok .nx [some (.d x), b1, some (.d (.lst [A, B])), b3, b4, b5, b6, b7] := by
    rw [← hA, ← hB]
    rfl
  rw [hA, hB] at o1 o2
  have i0 : gIxL (.lst [A, B]) (.int 0) = some A := by kernel_rfl
  have i1 : gIxL (.lst [A, B]) (.int 1) = some B := by kernel_rfl
  refine fn_rt (ρ := [some (.d x), b1, some (.d (.lst [A, B])), b3, b4, b5, b6, b7]) ?_ rfl
  rw [b]
  refine seq_nx f2 ?_
  generalize f_l_good T = fg at *
  generalize f_outdoes T = fo at *
  refine seq_nx (ρ' := [some (.d x), b1, none, b3, b4, b5, b6, b7]) (by simp only [eV_ev, eC_ev, eOp_ev, eUn_ev, eIsN_ev, eNotN_ev, aNil_ev, aCons_ev, aM_ev, eTup_ev, eLst_ev, eLstM_ev, eCall_ev, eCB_ev, tV_ev, tV'_ev, tAnd'_ev, tOr'_ev, tNot'_ev, eAndV_ev, eOrV_ev, eNotV_ev, eIf_ev, sNil_sv, sSeq_sv, sAsg_sv, sIf_sv, sRet_sv, sDrop_sv, sSetL_sv, sApp_sv, eIxM_ev, eLenM_ev, iT_ev, iL_ev, iR1_ev, iR2_ev, gN_put, gs0_put, gs1_put, gT_put, sAsgG_sv, tYes'_ev, eIs_ev, sRaise_sv, sTry_sv, sNever_sv, sPar_sv, o0_ev, o1_ev, eSlT_ev, sSetD_sv, eIxD_ev, eGetD_ev, eSortD_ev, eDict_ev, eNegC_ev, eRevT_ev, eOrD_ev, eRepM_ev, sAugI_sv, iItemsD_ev, iZip_ev, sRaiseF_sv, eIsX_ev, eFldX_ev, eCatM_ev, eSortIt_ev, sAugAdd, sAugSub, eIntOf, eRep01, eStrOf, eTupOf, eLstOf, eCatT, eInt, eStr, eBl, eNon, eAdd, eSub, eMul, eMulW, eMod, eDiv, ePow, eLt, eLe, eGt, eGe, eEq, eNe, eIxL, eIxT, eLen, eMax2, eMin2, eAll, eAny, eSum, eIsTy, R.bindD_ok, gI, R.bindD_ok, R.bindD_exc, R.bind_ok, R.bind_exc, R.bind_bad, R.of, R.flow, evV, evD, dat, pull, push, callOn, left, begun, List.length_cons, List.length_nil, List.getElem?_cons_zero, List.getElem?_cons_succ, List.set_cons_zero, List.set_cons_succ, if_true, if_false, ite_t, ite_f, Nat.reduceAdd, Nat.reduceLT, Nat.reduceSub, Nat.reduceEqDiff, Nat.reduceLeDiff, List.map_cons, List.map_nil, List.replicate, List.append_nil, List.nil_append, List.cons_append, and_self, true_and, and_true, Bool.not_true, Bool.not_false, Bool.false_eq_true, reduceIte, Nat.zero_add, Nat.lt_add_left_iff_pos, g1, g2]) ?_
  refine seq_nx asg ?_
  exact seq_rt (by simp only [eV_ev, eC_ev, eOp_ev, eUn_ev, eIsN_ev, eNotN_ev, aNil_ev, aCons_ev, aM_ev, eTup_ev, eLst_ev, eLstM_ev, eCall_ev, eCB_ev, tV_ev, tV'_ev, tAnd'_ev, tOr'_ev, tNot'_ev, eAndV_ev, eOrV_ev, eNotV_ev, eIf_ev, sNil_sv, sSeq_sv, sAsg_sv, sIf_sv, sRet_sv, sDrop_sv, sSetL_sv, sApp_sv, eIxM_ev, eLenM_ev, iT_ev, iL_ev, iR1_ev, iR2_ev, gN_put, gs0_put, gs1_put, gT_put, sAsgG_sv, tYes'_ev, eIs_ev, sRaise_sv, sTry_sv, sNever_sv, sPar_sv, o0_ev, o1_ev, eSlT_ev, sSetD_sv, eIxD_ev, eGetD_ev, eSortD_ev, eDict_ev, eNegC_ev, eRevT_ev, eOrD_ev, eRepM_ev, sAugI_sv, iItemsD_ev, iZip_ev, sRaiseF_sv, eIsX_ev, eFldX_ev, eCatM_ev, eSortIt_ev, sAugAdd, sAugSub, eIntOf, eRep01, eStrOf, eTupOf, eLstOf, eCatT, eInt, eStr, eBl, eNon, eAdd, eSub, eMul, eMulW, eMod, eDiv, ePow, eLt, eLe, eGt, eGe, eEq, eNe, eIxL, eIxT, eLen, eMax2, eMin2, eAll, eAny, eSum, eIsTy, R.bindD_ok, gI, R.bindD_ok, R.bindD_exc, R.bind_ok, R.bind_exc, R.bind_bad, R.of, R.flow, evV, evD, dat, pull, push, callOn, left, begun, List.length_cons, List.length_nil, List.getElem?_cons_zero, List.getElem?_cons_succ, List.set_cons_zero, List.set_cons_succ, if_true, if_false, ite_t, ite_f, Nat.reduceAdd, Nat.reduceLT, Nat.reduceSub, Nat.reduceEqDiff, Nat.reduceLeDiff, List.map_cons, List.map_nil, List.replicate, List.append_nil, List.nil_append, List.cons_append, and_self, true_and, and_true, Bool.not_true, Bool.not_false, Bool.false_eq_true, reduceIte, Nat.zero_add, Nat.lt_add_left_iff_pos, i0, i1, o1, o2])
end
end K49

set_option maxRecDepth 100000
set_option maxHeartbeats 4000000
namespace K49
open PySem PySem.Spec PyProof.Rows L2 Pv
def kls : Pv.Cls := ⟨fun _ => 0, fun _ => "", 0⟩
/-- the law's promise -/
def spK (K : PySem.W.Frag) : Sp := fun vs H Q _ => ∃ (a : Addr) (ns : List Int), vs = [.ref a] ∧ SqL K H a (ns.map V.int) ∧ ∀ H', Q (.bl true) H'
theorem spK_of {K : PySem.W.Frag} {κ : Pv.Cls} {F : Fn} (h : ∀ ns : List Int, F [.d (.lst (ns.map .int))] = .ok (.d (.bl true)) [.d (.lst (ns.map .int))]) (vs : List V) (H : Hp) (Q : VK) (E : XK) (q : spK K vs H Q E) : spF K κ 1 F vs H Q E := by
  obtain ⟨a, ns, rfl, hs, k⟩ := q
  refine ⟨H, [], [.d (.lst (ns.map .int))], rfl, Evl.Ex.refl H, ⟨[], [], rfl, ⟨rfl, .lst hs (ints_ok ns)⟩, rfl⟩, List.nodup_nil, ?_⟩
  rw [h ns]
  intro v G' H' Lw L' st rs rw nd
  obtain ⟨rfl, r⟩ := rw
  cases r
  exact k H'
theorem law_end {l : PySem.W.OpenLaw} {n k : Nat} {q : Program} {loose : List Str} {XP : (Str → Option Value) → Heap → Prop} {YP : World → Heap → Prop} {d : DefRec} {K : Params → PySem.W.Frag} {x : Str}
    (hn : l.most = some n) (hn2 : n ≤ sizeLine) (hdf : d.params.defaults = []) (hr : Room k callerA) (hY : ∀ (w : World) (h : Heap), YP w h → (K w.params).In h)
    (F : ∀ (w : World) (mg : Str → Option Value) (fa : Addr) (h : Heap), (K w.params).In h → h.Ns mainGlobals mg → mg d.name = some (.ref fa) →
      ∃ fd : FuncData, (∀ (s : Shared) (u : Value), BindsTo s fd ⟨[u], []⟩ [(x, u)]) ∧ ∀ base : Heap, (K w.params).In base → base.Ns mainGlobals mg → FnG l.prog w (K w.params) mg base k fa fd [x] (spK (K w.params))) :
    PySem.W.WalkO q loose XP YP l.row.toRowW d [] (fun f vs => PySem.call f vs) :=
  law_walk (sp := fun w => spK (K w.params)) hn hn2 hdf hr hY F fun w H a ns _ _ hs => ⟨a, ns, rfl, hs, fun _ => rfl⟩

theorem all_mk {P : Program} {w : World} {K : PySem.W.Frag} {h : Heap} {mg : Str → Option Value} {fa f0 f1 f2 f3 f4 f5 f6 f7 f8 f9 f10 f11 f12 f13 f14 f15 f16 f17 f18 f19 f20 f21 f22 f23 f24 f25 f26 f27 f28 f29 : Addr} (X : K.In h) (G : h.Ns mainGlobals mg) (hfa : mg "law" = some (.ref fa))
    {od0 an0 od1 an1 od2 an2 od3 an3 od4 an4 od5 an5 od6 an6 od7 an7 od8 an8 od9 an9 od10 an10 od11 an11 od12 an12 od13 an13 od14 an14 od15 an15 od16 an16 od17 an17 od18 an18 od19 an19 od20 an20 od21 an21 od22 an22 od23 an23 od24 an24 od25 an25 od26 an26 od27 an27 od28 an28 od29 an29 : Option Addr} {sl0 sl1 sl2 sl3 sl4 sl5 sl6 sl7 sl8 sl9 sl10 sl11 sl12 sl13 sl14 sl15 sl16 sl17 sl18 sl19 sl20 sl21 sl22 sl23 sl24 sl25 sl26 sl27 sl28 sl29 : Array (Option Value)} {oc0 dc0 pm0 cd0 ct0 kv0 oc1 dc1 pm1 cd1 ct1 kv1 oc2 dc2 pm2 cd2 ct2 kv2 oc3 dc3 pm3 cd3 ct3 kv3 oc4 dc4 pm4 cd4 ct4 kv4 oc5 dc5 pm5 cd5 ct5 kv5 oc6 dc6 pm6 cd6 ct6 kv6 oc7 dc7 pm7 cd7 ct7 kv7 oc8 dc8 pm8 cd8 ct8 kv8 oc9 dc9 pm9 cd9 ct9 kv9 oc10 dc10 pm10 cd10 ct10 kv10 oc11 dc11 pm11 cd11 ct11 kv11 oc12 dc12 pm12 cd12 ct12 kv12 oc13 dc13 pm13 cd13 ct13 kv13 oc14 dc14 pm14 cd14 ct14 kv14 oc15 dc15 pm15 cd15 ct15 kv15 oc16 dc16 pm16 cd16 ct16 kv16 oc17 dc17 pm17 cd17 ct17 kv17 oc18 dc18 pm18 cd18 ct18 kv18 oc19 dc19 pm19 cd19 ct19 kv19 oc20 dc20 pm20 cd20 ct20 kv20 oc21 dc21 pm21 cd21 ct21 kv21 oc22 dc22 pm22 cd22 ct22 kv22 oc23 dc23 pm23 cd23 ct23 kv23 oc24 dc24 pm24 cd24 ct24 kv24 oc25 dc25 pm25 cd25 ct25 kv25 oc26 dc26 pm26 cd26 ct26 kv26 oc27 dc27 pm27 cd27 ct27 kv27 oc28 dc28 pm28 cd28 ct28 kv28 oc29 dc29 pm29 cd29 ct29 kv29 : Value} {tk_SMALL : Tok}
    (z_all : PySem.W.nsIn K mainGlobals "all" = some none)
    (z_bool : PySem.W.nsIn K mainGlobals "bool" = some none)
    (z_dict : PySem.W.nsIn K mainGlobals "dict" = some none)
    (z_int : PySem.W.nsIn K mainGlobals "int" = some none)
    (z_isinstance : PySem.W.nsIn K mainGlobals "isinstance" = some none)
    (z_len : PySem.W.nsIn K mainGlobals "len" = some none)
    (z_max : PySem.W.nsIn K mainGlobals "max" = some none)
    (z_min : PySem.W.nsIn K mainGlobals "min" = some none)
    (z_range : PySem.W.nsIn K mainGlobals "range" = some none)
    (z_set : PySem.W.nsIn K mainGlobals "set" = some none)
    (z_sorted : PySem.W.nsIn K mainGlobals "sorted" = some none)
    (z_str : PySem.W.nsIn K mainGlobals "str" = some none)
    (z_sum : PySem.W.nsIn K mainGlobals "sum" = some none)
    (z_tuple : PySem.W.nsIn K mainGlobals "tuple" = some none)
    (z_zip : PySem.W.nsIn K mainGlobals "zip" = some none)
    (s_SMALL : PySem.W.nsIn K mainGlobals "SMALL" = some (some (.int 200 tk_SMALL)))
    (a_0 : PySem.W.nsIn K mainGlobals "_law_mixed" = some (some (.ref f0)))
    (l_0 : K.lookup f0 = some ⟨oc0, od0, .func (PySem.W.fnOf "_law_mixed" "_law_mixed" (defArgs s_l_mixed) (defBody s_l_mixed) (defScope s_l_mixed) .none kv0 dc0 pm0 an0 cd0 ct0), sl0⟩)
    (c_0 : PySem.W.codeIn K cd0 "_law_mixed" = true)
    (k_0 : PySem.W.keepIn K (.ref f0) = true)
    (a_1 : PySem.W.nsIn K mainGlobals "_law_cell" = some (some (.ref f1)))
    (l_1 : K.lookup f1 = some ⟨oc1, od1, .func (PySem.W.fnOf "_law_cell" "_law_cell" (defArgs s_l_cell) (defBody s_l_cell) (defScope s_l_cell) .none kv1 dc1 pm1 an1 cd1 ct1), sl1⟩)
    (c_1 : PySem.W.codeIn K cd1 "_law_cell" = true)
    (k_1 : PySem.W.keepIn K (.ref f1) = true)
    (a_2 : PySem.W.nsIn K mainGlobals "_law_coins" = some (some (.ref f2)))
    (l_2 : K.lookup f2 = some ⟨oc2, od2, .func (PySem.W.fnOf "_law_coins" "_law_coins" (defArgs s_l_coins) (defBody s_l_coins) (defScope s_l_coins) .none kv2 dc2 pm2 an2 cd2 ct2), sl2⟩)
    (c_2 : PySem.W.codeIn K cd2 "_law_coins" = true)
    (k_2 : PySem.W.keepIn K (.ref f2) = true)
    (a_3 : PySem.W.nsIn K mainGlobals "_law_heap" = some (some (.ref f3)))
    (l_3 : K.lookup f3 = some ⟨oc3, od3, .func (PySem.W.fnOf "_law_heap" "_law_heap" (defArgs s_l_heap) (defBody s_l_heap) (defScope s_l_heap) .none kv3 dc3 pm3 an3 cd3 ct3), sl3⟩)
    (c_3 : PySem.W.codeIn K cd3 "_law_heap" = true)
    (k_3 : PySem.W.keepIn K (.ref f3) = true)
    (a_4 : PySem.W.nsIn K mainGlobals "_law_take" = some (some (.ref f4)))
    (l_4 : K.lookup f4 = some ⟨oc4, od4, .func (PySem.W.fnOf "_law_take" "_law_take" (defArgs s_l_take) (defBody s_l_take) (defScope s_l_take) .none kv4 dc4 pm4 an4 cd4 ct4), sl4⟩)
    (c_4 : PySem.W.codeIn K cd4 "_law_take" = true)
    (k_4 : PySem.W.keepIn K (.ref f4) = true)
    (a_5 : PySem.W.nsIn K mainGlobals "_law_changed" = some (some (.ref f5)))
    (l_5 : K.lookup f5 = some ⟨oc5, od5, .func (PySem.W.fnOf "_law_changed" "_law_changed" (defArgs s_l_changed) (defBody s_l_changed) (defScope s_l_changed) .none kv5 dc5 pm5 an5 cd5 ct5), sl5⟩)
    (c_5 : PySem.W.codeIn K cd5 "_law_changed" = true)
    (k_5 : PySem.W.keepIn K (.ref f5) = true)
    (a_6 : PySem.W.nsIn K mainGlobals "_law_under" = some (some (.ref f6)))
    (l_6 : K.lookup f6 = some ⟨oc6, od6, .func (PySem.W.fnOf "_law_under" "_law_under" (defArgs s_l_under) (defBody s_l_under) (defScope s_l_under) .none kv6 dc6 pm6 an6 cd6 ct6), sl6⟩)
    (c_6 : PySem.W.codeIn K cd6 "_law_under" = true)
    (k_6 : PySem.W.keepIn K (.ref f6) = true)
    (a_7 : PySem.W.nsIn K mainGlobals "_law_due" = some (some (.ref f7)))
    (l_7 : K.lookup f7 = some ⟨oc7, od7, .func (PySem.W.fnOf "_law_due" "_law_due" (defArgs s_l_due) (defBody s_l_due) (defScope s_l_due) .none kv7 dc7 pm7 an7 cd7 ct7), sl7⟩)
    (c_7 : PySem.W.codeIn K cd7 "_law_due" = true)
    (k_7 : PySem.W.keepIn K (.ref f7) = true)
    (a_8 : PySem.W.nsIn K mainGlobals "_law_sum" = some (some (.ref f8)))
    (l_8 : K.lookup f8 = some ⟨oc8, od8, .func (PySem.W.fnOf "_law_sum" "_law_sum" (defArgs s_l_sum) (defBody s_l_sum) (defScope s_l_sum) .none kv8 dc8 pm8 an8 cd8 ct8), sl8⟩)
    (c_8 : PySem.W.codeIn K cd8 "_law_sum" = true)
    (k_8 : PySem.W.keepIn K (.ref f8) = true)
    (a_9 : PySem.W.nsIn K mainGlobals "_law_top" = some (some (.ref f9)))
    (l_9 : K.lookup f9 = some ⟨oc9, od9, .func (PySem.W.fnOf "_law_top" "_law_top" (defArgs s_l_top) (defBody s_l_top) (defScope s_l_top) .none kv9 dc9 pm9 an9 cd9 ct9), sl9⟩)
    (c_9 : PySem.W.codeIn K cd9 "_law_top" = true)
    (k_9 : PySem.W.keepIn K (.ref f9) = true)
    (a_10 : PySem.W.nsIn K mainGlobals "_law_holds" = some (some (.ref f10)))
    (l_10 : K.lookup f10 = some ⟨oc10, od10, .func (PySem.W.fnOf "_law_holds" "_law_holds" (defArgs s_l_holds) (defBody s_l_holds) (defScope s_l_holds) .none kv10 dc10 pm10 an10 cd10 ct10), sl10⟩)
    (c_10 : PySem.W.codeIn K cd10 "_law_holds" = true)
    (k_10 : PySem.W.keepIn K (.ref f10) = true)
    (a_11 : PySem.W.nsIn K mainGlobals "_law_whole_from" = some (some (.ref f11)))
    (l_11 : K.lookup f11 = some ⟨oc11, od11, .func (PySem.W.fnOf "_law_whole_from" "_law_whole_from" (defArgs s_l_whole_from) (defBody s_l_whole_from) (defScope s_l_whole_from) .none kv11 dc11 pm11 an11 cd11 ct11), sl11⟩)
    (c_11 : PySem.W.codeIn K cd11 "_law_whole_from" = true)
    (k_11 : PySem.W.keepIn K (.ref f11) = true)
    (a_12 : PySem.W.nsIn K mainGlobals "_law_is_pile" = some (some (.ref f12)))
    (l_12 : K.lookup f12 = some ⟨oc12, od12, .func (PySem.W.fnOf "_law_is_pile" "_law_is_pile" (defArgs s_l_is_pile) (defBody s_l_is_pile) (defScope s_l_is_pile) .none kv12 dc12 pm12 an12 cd12 ct12), sl12⟩)
    (c_12 : PySem.W.codeIn K cd12 "_law_is_pile" = true)
    (k_12 : PySem.W.keepIn K (.ref f12) = true)
    (a_13 : PySem.W.nsIn K mainGlobals "_law_tag" = some (some (.ref f13)))
    (l_13 : K.lookup f13 = some ⟨oc13, od13, .func (PySem.W.fnOf "_law_tag" "_law_tag" (defArgs s_l_tag) (defBody s_l_tag) (defScope s_l_tag) .none kv13 dc13 pm13 an13 cd13 ct13), sl13⟩)
    (c_13 : PySem.W.codeIn K cd13 "_law_tag" = true)
    (k_13 : PySem.W.keepIn K (.ref f13) = true)
    (a_14 : PySem.W.nsIn K mainGlobals "_law_formed" = some (some (.ref f14)))
    (l_14 : K.lookup f14 = some ⟨oc14, od14, .func (PySem.W.fnOf "_law_formed" "_law_formed" (defArgs s_l_formed) (defBody s_l_formed) (defScope s_l_formed) .none kv14 dc14 pm14 an14 cd14 ct14), sl14⟩)
    (c_14 : PySem.W.codeIn K cd14 "_law_formed" = true)
    (k_14 : PySem.W.keepIn K (.ref f14) = true)
    (a_15 : PySem.W.nsIn K mainGlobals "_law_names" = some (some (.ref f15)))
    (l_15 : K.lookup f15 = some ⟨oc15, od15, .func (PySem.W.fnOf "_law_names" "_law_names" (defArgs s_l_names) (defBody s_l_names) (defScope s_l_names) .none kv15 dc15 pm15 an15 cd15 ct15), sl15⟩)
    (c_15 : PySem.W.codeIn K cd15 "_law_names" = true)
    (k_15 : PySem.W.keepIn K (.ref f15) = true)
    (a_16 : PySem.W.nsIn K mainGlobals "_law_is_right" = some (some (.ref f16)))
    (l_16 : K.lookup f16 = some ⟨oc16, od16, .func (PySem.W.fnOf "_law_is_right" "_law_is_right" (defArgs s_l_is_right) (defBody s_l_is_right) (defScope s_l_is_right) .none kv16 dc16 pm16 an16 cd16 ct16), sl16⟩)
    (c_16 : PySem.W.codeIn K cd16 "_law_is_right" = true)
    (k_16 : PySem.W.keepIn K (.ref f16) = true)
    (a_17 : PySem.W.nsIn K mainGlobals "_law_together" = some (some (.ref f17)))
    (l_17 : K.lookup f17 = some ⟨oc17, od17, .func (PySem.W.fnOf "_law_together" "_law_together" (defArgs s_l_together) (defBody s_l_together) (defScope s_l_together) .none kv17 dc17 pm17 an17 cd17 ct17), sl17⟩)
    (c_17 : PySem.W.codeIn K cd17 "_law_together" = true)
    (k_17 : PySem.W.keepIn K (.ref f17) = true)
    (a_18 : PySem.W.nsIn K mainGlobals "_outdone_at" = some (some (.ref f18)))
    (l_18 : K.lookup f18 = some ⟨oc18, od18, .func (PySem.W.fnOf "_outdone_at" "_outdone_at" (defArgs s__outdone_at) (defBody s__outdone_at) (defScope s__outdone_at) .none kv18 dc18 pm18 an18 cd18 ct18), sl18⟩)
    (c_18 : PySem.W.codeIn K cd18 "_outdone_at" = true)
    (k_18 : PySem.W.keepIn K (.ref f18) = true)
    (a_19 : PySem.W.nsIn K mainGlobals "is_number" = some (some (.ref f19)))
    (l_19 : K.lookup f19 = some ⟨oc19, od19, .func (PySem.W.fnOf "is_number" "is_number" (defArgs s_is_number) (defBody s_is_number) (defScope s_is_number) .none kv19 dc19 pm19 an19 cd19 ct19), sl19⟩)
    (c_19 : PySem.W.codeIn K cd19 "is_number" = true)
    (k_19 : PySem.W.keepIn K (.ref f19) = true)
    (a_20 : PySem.W.nsIn K mainGlobals "_is_lot" = some (some (.ref f20)))
    (l_20 : K.lookup f20 = some ⟨oc20, od20, .func (PySem.W.fnOf "_is_lot" "_is_lot" (defArgs s__is_lot) (defBody s__is_lot) (defScope s__is_lot) .none kv20 dc20 pm20 an20 cd20 ct20), sl20⟩)
    (c_20 : PySem.W.codeIn K cd20 "_is_lot" = true)
    (k_20 : PySem.W.keepIn K (.ref f20) = true)
    (a_21 : PySem.W.nsIn K mainGlobals "is_pile" = some (some (.ref f21)))
    (l_21 : K.lookup f21 = some ⟨oc21, od21, .func (PySem.W.fnOf "is_pile" "is_pile" (defArgs s_is_pile) (defBody s_is_pile) (defScope s_is_pile) .none kv21 dc21 pm21 an21 cd21 ct21), sl21⟩)
    (c_21 : PySem.W.codeIn K cd21 "is_pile" = true)
    (k_21 : PySem.W.keepIn K (.ref f21) = true)
    (a_22 : PySem.W.nsIn K mainGlobals "check_pile" = some (some (.ref f22)))
    (l_22 : K.lookup f22 = some ⟨oc22, od22, .func (PySem.W.fnOf "check_pile" "check_pile" (defArgs s_check_pile) (defBody s_check_pile) (defScope s_check_pile) .none kv22 dc22 pm22 an22 cd22 ct22), sl22⟩)
    (c_22 : PySem.W.codeIn K cd22 "check_pile" = true)
    (k_22 : PySem.W.keepIn K (.ref f22) = true)
    (a_23 : PySem.W.nsIn K mainGlobals "outdoes" = some (some (.ref f23)))
    (l_23 : K.lookup f23 = some ⟨oc23, od23, .func (PySem.W.fnOf "outdoes" "outdoes" (defArgs s_outdoes) (defBody s_outdoes) (defScope s_outdoes) .none kv23 dc23 pm23 an23 cd23 ct23), sl23⟩)
    (c_23 : PySem.W.codeIn K cd23 "outdoes" = true)
    (k_23 : PySem.W.keepIn K (.ref f23) = true)
    (a_24 : PySem.W.nsIn K mainGlobals "sum_of" = some (some (.ref f24)))
    (l_24 : K.lookup f24 = some ⟨oc24, od24, .func (PySem.W.fnOf "sum_of" "sum_of" (defArgs s_sum_of) (defBody s_sum_of) (defScope s_sum_of) .none kv24 dc24 pm24 an24 cd24 ct24), sl24⟩)
    (c_24 : PySem.W.codeIn K cd24 "sum_of" = true)
    (k_24 : PySem.W.keepIn K (.ref f24) = true)
    (a_25 : PySem.W.nsIn K mainGlobals "check_small_pile" = some (some (.ref f25)))
    (l_25 : K.lookup f25 = some ⟨oc25, od25, .func (PySem.W.fnOf "check_small_pile" "check_small_pile" (defArgs s_check_small_pile) (defBody s_check_small_pile) (defScope s_check_small_pile) .none kv25 dc25 pm25 an25 cd25 ct25), sl25⟩)
    (c_25 : PySem.W.codeIn K cd25 "check_small_pile" = true)
    (k_25 : PySem.W.keepIn K (.ref f25) = true)
    (a_26 : PySem.W.nsIn K mainGlobals "telling_company" = some (some (.ref f26)))
    (l_26 : K.lookup f26 = some ⟨oc26, od26, .func (PySem.W.fnOf "telling_company" "telling_company" (defArgs s_telling_company) (defBody s_telling_company) (defScope s_telling_company) .none kv26 dc26 pm26 an26 cd26 ct26), sl26⟩)
    (c_26 : PySem.W.codeIn K cd26 "telling_company" = true)
    (k_26 : PySem.W.keepIn K (.ref f26) = true)
    (a_27 : PySem.W.nsIn K mainGlobals "_law_good" = some (some (.ref f27)))
    (l_27 : K.lookup f27 = some ⟨oc27, od27, .func (PySem.W.fnOf "_law_good" "_law_good" (defArgs s_l_good) (defBody s_l_good) (defScope s_l_good) .none kv27 dc27 pm27 an27 cd27 ct27), sl27⟩)
    (c_27 : PySem.W.codeIn K cd27 "_law_good" = true)
    (k_27 : PySem.W.keepIn K (.ref f27) = true)
    (a_28 : PySem.W.nsIn K mainGlobals "_law_pile" = some (some (.ref f28)))
    (l_28 : K.lookup f28 = some ⟨oc28, od28, .func (PySem.W.fnOf "_law_pile" "_law_pile" (defArgs s_l_pile) (defBody s_l_pile) (defScope s_l_pile) .none kv28 dc28 pm28 an28 cd28 ct28), sl28⟩)
    (c_28 : PySem.W.codeIn K cd28 "_law_pile" = true)
    (k_28 : PySem.W.keepIn K (.ref f28) = true)
    (a_29 : PySem.W.nsIn K mainGlobals "law" = some (some (.ref f29)))
    (l_29 : K.lookup f29 = some ⟨oc29, od29, .func (PySem.W.fnOf "law" "law" (defArgs s_law) (defBody s_law) (defScope s_law) .none kv29 dc29 pm29 an29 cd29 ct29), sl29⟩)
    (c_29 : PySem.W.codeIn K cd29 "law" = true)
    (k_29 : PySem.W.keepIn K (.ref f29) = true)
    (hlaw : ∀ (κ : Pv.Cls) (T : Tx K κ mg) (ns : List Int), f_law T [.d (.lst (ns.map .int))] = .ok (.d (.bl true)) [.d (.lst (ns.map .int))]) :
    ∃ fd : FuncData, (∀ (s : Shared) (u : Value), BindsTo s fd ⟨[u], []⟩ [("_law_script", u)]) ∧ ∀ base : Heap, K.In base → base.Ns mainGlobals mg → FnG P w K mg base 7 fa fd ["_law_script"] (spK K) := by
  have e := hfa.symm.trans (PySem.W.mg_of X G a_29)
  cases e
  have T : Tx K kls mg :=
    { z_all := PySem.W.mg_none_of X G z_all, z_bool := PySem.W.mg_none_of X G z_bool, z_dict := PySem.W.mg_none_of X G z_dict, z_int := PySem.W.mg_none_of X G z_int, z_isinstance := PySem.W.mg_none_of X G z_isinstance, z_len := PySem.W.mg_none_of X G z_len, z_max := PySem.W.mg_none_of X G z_max, z_min := PySem.W.mg_none_of X G z_min, z_range := PySem.W.mg_none_of X G z_range, z_set := PySem.W.mg_none_of X G z_set, z_sorted := PySem.W.mg_none_of X G z_sorted, z_str := PySem.W.mg_none_of X G z_str, z_sum := PySem.W.mg_none_of X G z_sum, z_tuple := PySem.W.mg_none_of X G z_tuple, z_zip := PySem.W.mg_none_of X G z_zip, c_SMALL := ⟨_, PySem.W.mg_of X G s_SMALL⟩ }
  have F0 := fun_mk (st := s_l_mixed) l_0 c_0 k_0
  have b0 := F0.binds (ps := p_l_mixed) fun _ _ _ _ _ _ us hl => match us, hl with | [_, _], _ => rfl
  have F1 := fun_mk (st := s_l_cell) l_1 c_1 k_1
  have b1 := F1.binds (ps := p_l_cell) fun _ _ _ _ _ _ us hl => match us, hl with | [_, _], _ => rfl
  have F2 := fun_mk (st := s_l_coins) l_2 c_2 k_2
  have b2 := F2.binds (ps := p_l_coins) fun _ _ _ _ _ _ us hl => match us, hl with | [_], _ => rfl
  have F3 := fun_mk (st := s_l_heap) l_3 c_3 k_3
  have b3 := F3.binds (ps := p_l_heap) fun _ _ _ _ _ _ us hl => match us, hl with | [_], _ => rfl
  have F4 := fun_mk (st := s_l_take) l_4 c_4 k_4
  have b4 := F4.binds (ps := p_l_take) fun _ _ _ _ _ _ us hl => match us, hl with | [_, _], _ => rfl
  have F5 := fun_mk (st := s_l_changed) l_5 c_5 k_5
  have b5 := F5.binds (ps := p_l_changed) fun _ _ _ _ _ _ us hl => match us, hl with | [_, _], _ => rfl
  have F6 := fun_mk (st := s_l_under) l_6 c_6 k_6
  have b6 := F6.binds (ps := p_l_under) fun _ _ _ _ _ _ us hl => match us, hl with | [_, _], _ => rfl
  have F7 := fun_mk (st := s_l_due) l_7 c_7 k_7
  have b7 := F7.binds (ps := p_l_due) fun _ _ _ _ _ _ us hl => match us, hl with | [_, _], _ => rfl
  have F8 := fun_mk (st := s_l_sum) l_8 c_8 k_8
  have b8 := F8.binds (ps := p_l_sum) fun _ _ _ _ _ _ us hl => match us, hl with | [_], _ => rfl
  have F9 := fun_mk (st := s_l_top) l_9 c_9 k_9
  have b9 := F9.binds (ps := p_l_top) fun _ _ _ _ _ _ us hl => match us, hl with | [_, _], _ => rfl
  have F10 := fun_mk (st := s_l_holds) l_10 c_10 k_10
  have b10 := F10.binds (ps := p_l_holds) fun _ _ _ _ _ _ us hl => match us, hl with | [_, _], _ => rfl
  have F11 := fun_mk (st := s_l_whole_from) l_11 c_11 k_11
  have b11 := F11.binds (ps := p_l_whole_from) fun _ _ _ _ _ _ us hl => match us, hl with | [_, _], _ => rfl
  have F12 := fun_mk (st := s_l_is_pile) l_12 c_12 k_12
  have b12 := F12.binds (ps := p_l_is_pile) fun _ _ _ _ _ _ us hl => match us, hl with | [_], _ => rfl
  have F13 := fun_mk (st := s_l_tag) l_13 c_13 k_13
  have b13 := F13.binds (ps := p_l_tag) fun _ _ _ _ _ _ us hl => match us, hl with | [_], _ => rfl
  have F14 := fun_mk (st := s_l_formed) l_14 c_14 k_14
  have b14 := F14.binds (ps := p_l_formed) fun _ _ _ _ _ _ us hl => match us, hl with | [_, _], _ => rfl
  have F15 := fun_mk (st := s_l_names) l_15 c_15 k_15
  have b15 := F15.binds (ps := p_l_names) fun _ _ _ _ _ _ us hl => match us, hl with | [_], _ => rfl
  have F16 := fun_mk (st := s_l_is_right) l_16 c_16 k_16
  have b16 := F16.binds (ps := p_l_is_right) fun _ _ _ _ _ _ us hl => match us, hl with | [_], _ => rfl
  have F17 := fun_mk (st := s_l_together) l_17 c_17 k_17
  have b17 := F17.binds (ps := p_l_together) fun _ _ _ _ _ _ us hl => match us, hl with | [_, _], _ => rfl
  have F18 := fun_mk (st := s__outdone_at) l_18 c_18 k_18
  have b18 := F18.binds (ps := p__outdone_at) fun _ _ _ _ _ _ us hl => match us, hl with | [_, _], _ => rfl
  have F19 := fun_mk (st := s_is_number) l_19 c_19 k_19
  have b19 := F19.binds (ps := p_is_number) fun _ _ _ _ _ _ us hl => match us, hl with | [_, _], _ => rfl
  have F20 := fun_mk (st := s__is_lot) l_20 c_20 k_20
  have b20 := F20.binds (ps := p__is_lot) fun _ _ _ _ _ _ us hl => match us, hl with | [_], _ => rfl
  have F21 := fun_mk (st := s_is_pile) l_21 c_21 k_21
  have b21 := F21.binds (ps := p_is_pile) fun _ _ _ _ _ _ us hl => match us, hl with | [_], _ => rfl
  have F22 := fun_mk (st := s_check_pile) l_22 c_22 k_22
  have b22 := F22.binds (ps := p_check_pile) fun _ _ _ _ _ _ us hl => match us, hl with | [_], _ => rfl
  have F23 := fun_mk (st := s_outdoes) l_23 c_23 k_23
  have b23 := F23.binds (ps := p_outdoes) fun _ _ _ _ _ _ us hl => match us, hl with | [_, _], _ => rfl
  have F24 := fun_mk (st := s_sum_of) l_24 c_24 k_24
  have b24 := F24.binds (ps := p_sum_of) fun _ _ _ _ _ _ us hl => match us, hl with | [_], _ => rfl
  have F25 := fun_mk (st := s_check_small_pile) l_25 c_25 k_25
  have b25 := F25.binds (ps := p_check_small_pile) fun _ _ _ _ _ _ us hl => match us, hl with | [_], _ => rfl
  have F26 := fun_mk (st := s_telling_company) l_26 c_26 k_26
  have b26 := F26.binds (ps := p_telling_company) fun _ _ _ _ _ _ us hl => match us, hl with | [_, _], _ => rfl
  have F27 := fun_mk (st := s_l_good) l_27 c_27 k_27
  have b27 := F27.binds (ps := p_l_good) fun _ _ _ _ _ _ us hl => match us, hl with | [_, _], _ => rfl
  have F28 := fun_mk (st := s_l_pile) l_28 c_28 k_28
  have b28 := F28.binds (ps := p_l_pile) fun _ _ _ _ _ _ us hl => match us, hl with | [_, _], _ => rfl
  have F29 := fun_mk (st := s_law) l_29 c_29 k_29
  exact ⟨PySem.W.fnOf "law" "law" (defArgs s_law) (defBody s_law) (defScope s_law) .none kv29 dc29 pm29 an29 cd29 ct29, fun s us => .of_eq rfl, fun base _ _ => by
    have D_l_mixed : Def P w K kls mg base "_law_mixed" 1 p_l_mixed (f_l_mixed T) := def_of F0 (PySem.W.mg_of X G a_0) b0 (ok_l_mixed T F0 )
    have D_l_cell : Def P w K kls mg base "_law_cell" 2 p_l_cell (f_l_cell T) := def_of F1 (PySem.W.mg_of X G a_1) b1 (ok_l_cell T F1 D_l_mixed)
    have D_l_coins : Def P w K kls mg base "_law_coins" 1 p_l_coins (f_l_coins T) := def_of F2 (PySem.W.mg_of X G a_2) b2 (ok_l_coins T F2 )
    have D_l_heap : Def P w K kls mg base "_law_heap" 1 p_l_heap (f_l_heap T) := def_of F3 (PySem.W.mg_of X G a_3) b3 (ok_l_heap T F3 )
    have D_l_take : Def P w K kls mg base "_law_take" 1 p_l_take (f_l_take T) := def_of F4 (PySem.W.mg_of X G a_4) b4 (ok_l_take T F4 )
    have D_l_changed : Def P w K kls mg base "_law_changed" 2 p_l_changed (f_l_changed T) := def_of F5 (PySem.W.mg_of X G a_5) b5 (ok_l_changed T F5 D_l_coins D_l_heap D_l_take)
    have D_l_under : Def P w K kls mg base "_law_under" 1 p_l_under (f_l_under T) := def_of F6 (PySem.W.mg_of X G a_6) b6 (ok_l_under T F6 )
    have D_l_due : Def P w K kls mg base "_law_due" 2 p_l_due (f_l_due T) := def_of F7 (PySem.W.mg_of X G a_7) b7 (ok_l_due T F7 D_l_under)
    have D_l_sum : Def P w K kls mg base "_law_sum" 1 p_l_sum (f_l_sum T) := def_of F8 (PySem.W.mg_of X G a_8) b8 (ok_l_sum T F8 )
    have D_l_top : Def P w K kls mg base "_law_top" 1 p_l_top (f_l_top T) := def_of F9 (PySem.W.mg_of X G a_9) b9 (ok_l_top T F9 )
    have D_l_holds : Def P w K kls mg base "_law_holds" 2 p_l_holds (f_l_holds T) := def_of F10 (PySem.W.mg_of X G a_10) b10 (ok_l_holds T F10 D_l_sum D_l_top D_l_under)
    have D_l_whole_from : Def P w K kls mg base "_law_whole_from" 1 p_l_whole_from (f_l_whole_from T) := def_of F11 (PySem.W.mg_of X G a_11) b11 (ok_l_whole_from T F11 )
    have D_l_is_pile : Def P w K kls mg base "_law_is_pile" 2 p_l_is_pile (f_l_is_pile T) := def_of F12 (PySem.W.mg_of X G a_12) b12 (ok_l_is_pile T F12 D_l_whole_from)
    have D_l_tag : Def P w K kls mg base "_law_tag" 1 p_l_tag (f_l_tag T) := def_of F13 (PySem.W.mg_of X G a_13) b13 (ok_l_tag T F13 )
    have D_l_formed : Def P w K kls mg base "_law_formed" 2 p_l_formed (f_l_formed T) := def_of F14 (PySem.W.mg_of X G a_14) b14 (ok_l_formed T F14 D_l_tag D_l_whole_from)
    have D_l_names : Def P w K kls mg base "_law_names" 1 p_l_names (f_l_names T) := def_of F15 (PySem.W.mg_of X G a_15) b15 (ok_l_names T F15 )
    have D_l_is_right : Def P w K kls mg base "_law_is_right" 3 p_l_is_right (f_l_is_right T) := def_of F16 (PySem.W.mg_of X G a_16) b16 (ok_l_is_right T F16 D_l_formed D_l_names)
    have D_l_together : Def P w K kls mg base "_law_together" 1 p_l_together (f_l_together T) := def_of F17 (PySem.W.mg_of X G a_17) b17 (ok_l_together T F17 )
    have D__outdone_at : Def P w K kls mg base "_outdone_at" 1 p__outdone_at (f__outdone_at T) := def_of F18 (PySem.W.mg_of X G a_18) b18 (ok__outdone_at T F18 )
    have D_is_number : Def P w K kls mg base "is_number" 1 p_is_number (f_is_number T) := def_of F19 (PySem.W.mg_of X G a_19) b19 (ok_is_number T F19 )
    have D__is_lot : Def P w K kls mg base "_is_lot" 2 p__is_lot (f__is_lot T) := def_of F20 (PySem.W.mg_of X G a_20) b20 (ok__is_lot T F20 D_is_number)
    have D_is_pile : Def P w K kls mg base "is_pile" 3 p_is_pile (f_is_pile T) := def_of F21 (PySem.W.mg_of X G a_21) b21 (ok_is_pile T F21 D__is_lot)
    have D_check_pile : Def P w K kls mg base "check_pile" 4 p_check_pile (f_check_pile T) := def_of F22 (PySem.W.mg_of X G a_22) b22 (ok_check_pile T F22 D_is_pile)
    have D_outdoes : Def P w K kls mg base "outdoes" 5 p_outdoes (f_outdoes T) := def_of F23 (PySem.W.mg_of X G a_23) b23 (ok_outdoes T F23 D__outdone_at D_check_pile)
    have D_sum_of : Def P w K kls mg base "sum_of" 1 p_sum_of (f_sum_of T) := def_of F24 (PySem.W.mg_of X G a_24) b24 (ok_sum_of T F24 )
    have D_check_small_pile : Def P w K kls mg base "check_small_pile" 2 p_check_small_pile (f_check_small_pile T) := def_of F25 (PySem.W.mg_of X G a_25) b25 (ok_check_small_pile T F25 D_sum_of)
    have D_telling_company : Def P w K kls mg base "telling_company" 5 p_telling_company (f_telling_company T) := def_of F26 (PySem.W.mg_of X G a_26) b26 (ok_telling_company T F26 D__outdone_at D_check_pile D_check_small_pile)
    have D_l_good : Def P w K kls mg base "_law_good" 6 p_l_good (f_l_good T) := def_of F27 (PySem.W.mg_of X G a_27) b27 (ok_l_good T F27 D_l_due D_l_holds D_l_is_pile D_l_is_right D_l_together D_outdoes D_telling_company)
    have D_l_pile : Def P w K kls mg base "_law_pile" 2 p_l_pile (f_l_pile T) := def_of F28 (PySem.W.mg_of X G a_28) b28 (ok_l_pile T F28 D_l_heap D_l_take)
    exact FnG.imp (ok_law T F29 D_l_cell D_l_changed D_l_due D_l_good D_l_pile D_l_take D_outdoes) (spK_of (hlaw _ T))⟩
end K49

open PySem PySem.W PyProof.Rows
set_option maxRecDepth 100000 in
set_option maxHeartbeats 0 in
theorem PySem.Challenge.cw_blindtill_k49_tills_in_every_company_holds : PySem.Challenge.rw_blindtill_k49_tills_in_every_company.Holds := by
  w_on; o_law; k_head; (case hw => w_witness2)
  k_fill
  refine K49.law_end (l := PySem.Challenge.rw_blindtill_k49_tills_in_every_company) (n := 63) (k := 7) (x := "_law_script") rfl (by decide) rfl ⟨rfl, by decide, by decide⟩ (fun w h Y => PySem.W.kIn_of Y) ?F
  case F =>
    intro w mg fa h KX G hmg
    refine' K49.all_mk KX G hmg ?z_all ?z_bool ?z_dict ?z_int ?z_isinstance ?z_len ?z_max ?z_min ?z_range ?z_set ?z_sorted ?z_str ?z_sum ?z_tuple ?z_zip ?s_SMALL ?a_0 ?l_0 ?c_0 ?k_0 ?a_1 ?l_1 ?c_1 ?k_1 ?a_2 ?l_2 ?c_2 ?k_2 ?a_3 ?l_3 ?c_3 ?k_3 ?a_4 ?l_4 ?c_4 ?k_4 ?a_5 ?l_5 ?c_5 ?k_5 ?a_6 ?l_6 ?c_6 ?k_6 ?a_7 ?l_7 ?c_7 ?k_7 ?a_8 ?l_8 ?c_8 ?k_8 ?a_9 ?l_9 ?c_9 ?k_9 ?a_10 ?l_10 ?c_10 ?k_10 ?a_11 ?l_11 ?c_11 ?k_11 ?a_12 ?l_12 ?c_12 ?k_12 ?a_13 ?l_13 ?c_13 ?k_13 ?a_14 ?l_14 ?c_14 ?k_14 ?a_15 ?l_15 ?c_15 ?k_15 ?a_16 ?l_16 ?c_16 ?k_16 ?a_17 ?l_17 ?c_17 ?k_17 ?a_18 ?l_18 ?c_18 ?k_18 ?a_19 ?l_19 ?c_19 ?k_19 ?a_20 ?l_20 ?c_20 ?k_20 ?a_21 ?l_21 ?c_21 ?k_21 ?a_22 ?l_22 ?c_22 ?k_22 ?a_23 ?l_23 ?c_23 ?k_23 ?a_24 ?l_24 ?c_24 ?k_24 ?a_25 ?l_25 ?c_25 ?k_25 ?a_26 ?l_26 ?c_26 ?k_26 ?a_27 ?l_27 ?c_27 ?k_27 ?a_28 ?l_28 ?c_28 ?k_28 ?a_29 ?l_29 ?c_29 ?k_29 (fun κ T ns => K49.law_true T ns)
    (case z_all => k_is)
    (case z_bool => k_is)
    (case z_dict => k_is)
    (case z_int => k_is)
    (case z_isinstance => k_is)
    (case z_len => k_is)
    (case z_max => k_is)
    (case z_min => k_is)
    (case z_range => k_is)
    (case z_set => k_is)
    (case z_sorted => k_is)
    (case z_str => k_is)
    (case z_sum => k_is)
    (case z_tuple => k_is)
    (case z_zip => k_is)
    (case s_SMALL => k_is)
    (case a_0 => k_is)
    (case l_0 => k_is)
    (case c_0 => k_is)
    (case k_0 => k_is)
    (case a_1 => k_is)
    (case l_1 => k_is)
    (case c_1 => k_is)
    (case k_1 => k_is)
    (case a_2 => k_is)
    (case l_2 => k_is)
    (case c_2 => k_is)
    (case k_2 => k_is)
    (case a_3 => k_is)
    (case l_3 => k_is)
    (case c_3 => k_is)
    (case k_3 => k_is)
    (case a_4 => k_is)
    (case l_4 => k_is)
    (case c_4 => k_is)
    (case k_4 => k_is)
    (case a_5 => k_is)
    (case l_5 => k_is)
    (case c_5 => k_is)
    (case k_5 => k_is)
    (case a_6 => k_is)
    (case l_6 => k_is)
    (case c_6 => k_is)
    (case k_6 => k_is)
    (case a_7 => k_is)
    (case l_7 => k_is)
    (case c_7 => k_is)
    (case k_7 => k_is)
    (case a_8 => k_is)
    (case l_8 => k_is)
    (case c_8 => k_is)
    (case k_8 => k_is)
    (case a_9 => k_is)
    (case l_9 => k_is)
    (case c_9 => k_is)
    (case k_9 => k_is)
    (case a_10 => k_is)
    (case l_10 => k_is)
    (case c_10 => k_is)
    (case k_10 => k_is)
    (case a_11 => k_is)
    (case l_11 => k_is)
    (case c_11 => k_is)
    (case k_11 => k_is)
    (case a_12 => k_is)
    (case l_12 => k_is)
    (case c_12 => k_is)
    (case k_12 => k_is)
    (case a_13 => k_is)
    (case l_13 => k_is)
    (case c_13 => k_is)
    (case k_13 => k_is)
    (case a_14 => k_is)
    (case l_14 => k_is)
    (case c_14 => k_is)
    (case k_14 => k_is)
    (case a_15 => k_is)
    (case l_15 => k_is)
    (case c_15 => k_is)
    (case k_15 => k_is)
    (case a_16 => k_is)
    (case l_16 => k_is)
    (case c_16 => k_is)
    (case k_16 => k_is)
    (case a_17 => k_is)
    (case l_17 => k_is)
    (case c_17 => k_is)
    (case k_17 => k_is)
    (case a_18 => k_is)
    (case l_18 => k_is)
    (case c_18 => k_is)
    (case k_18 => k_is)
    (case a_19 => k_is)
    (case l_19 => k_is)
    (case c_19 => k_is)
    (case k_19 => k_is)
    (case a_20 => k_is)
    (case l_20 => k_is)
    (case c_20 => k_is)
    (case k_20 => k_is)
    (case a_21 => k_is)
    (case l_21 => k_is)
    (case c_21 => k_is)
    (case k_21 => k_is)
    (case a_22 => k_is)
    (case l_22 => k_is)
    (case c_22 => k_is)
    (case k_22 => k_is)
    (case a_23 => k_is)
    (case l_23 => k_is)
    (case c_23 => k_is)
    (case k_23 => k_is)
    (case a_24 => k_is)
    (case l_24 => k_is)
    (case c_24 => k_is)
    (case k_24 => k_is)
    (case a_25 => k_is)
    (case l_25 => k_is)
    (case c_25 => k_is)
    (case k_25 => k_is)
    (case a_26 => k_is)
    (case l_26 => k_is)
    (case c_26 => k_is)
    (case k_26 => k_is)
    (case a_27 => k_is)
    (case l_27 => k_is)
    (case c_27 => k_is)
    (case k_27 => k_is)
    (case a_28 => k_is)
    (case l_28 => k_is)
    (case c_28 => k_is)
    (case k_28 => k_is)
    (case a_29 => k_is)
    (case l_29 => k_is)
    (case c_29 => k_is)
    (case k_29 => k_is)
