import PyProof.Rows.All
import HandS.ForMost
import HandS.ForExc
import HandS.Evl
import HandS.Wide
import HandS.IsInst
import HandS.Small
import HandS.Flow
import HandS.Conv
import HandS.TupAny
import HandS.ExcValue
import HandS.ExcField
import HandS.ExcIs
import HandS.Rev
import HandS.Zip
import HandS.SortInts
import HandS.ListItems
import HandS.ExcInit
import HandS.AnyAll
import KE.KDictCopyH
import PyProof.ReprRoads
import HandS.HeadEnd
import KE.KDictPairs
import HandS.More
import HandS.Style
import HandS.TupMul
import KE.GoesMore
import KE.GoesZip
import HandS.Defaults
import HandS.MakeKwOnly
import HandS.WordsExc
import HandS.DictTup
import HandS.SortOrd
import HandS.SortRule
import HandS.SortKw
import KE.KMinKey
import KE.DataEq
import HandS.Text
import HandS.Strs
import PyProof.Rows.SetFrom
import PyProof.EqAt
import KE.KDictZip
import KE.SortData
import KE.KExcIs
import HandS.Iter
import HandS.DictComp
import PySem.Challenge.RW_blindtill_k33_covers_of_calls_alone
import KE.KNestM
set_option Elab.async false
set_option linter.all false
set_option maxRecDepth 100000
set_option maxHeartbeats 2000000
namespace Pv
open PySem PySem.Spec PyProof.Rows L2
/-- data: exc k is an exception of the k-th class, excF k x one with a field; tupW: a tuple of which nothing more is known, as iterators yield them; dic: a dict whose keys are None and whole numbers, its keys, its values -/
inductive D where
  | non | bl (b : Bool) | int (i : Int) | str (s : Str) | tup (xs : List D) | lst (xs : List D) | exc (k : Nat) | excF (k : Nat) (x : D) | tupW (xs : List D) | dic (ks : List (Option Int)) (xs : List D)
/-- what a slot holds: data, or what it owns: a list, a dict, a list of owned lists -/
inductive W where
  | d (x : D) | ml (xs : List D) | md (kvs : List (Key × D)) | mm (xss : List (List D))
abbrev St := L2.St
abbrev Env := List (Option W)
/-- how a piece ends, with the state S behind it -/
inductive R (S : Type) (α : Type) where
  | ok (a : α) (s : S) | exc (k : Nat) (f : Option D) (s : S) | bad
/-- what a program's classes of exceptions are: where they stand, their field's name -/
structure Cls where
  at_ : Nat → Addr
  fld : Nat → Str
  /-- the class above all of them -/
  top : Addr
  /-- the tables of defs' codes, which may grow -/
  tabs : List Addr
/-- an exception object, held as a value -/
def ExV (cls : Value) (d : Option Addr) (a : Addr) : HO := .ext fun h => ∃ oe vs, h.get? a = some oe ∧ Zc cls d oe ∧ oe.data = .fields vs
/-- a key that is None or a whole number -/
def lfN : Option Int → Leaf
  | none => .none
  | some i => .num i
/-- a dict of such keys, by what is true of its object -/
def NdHO (a : Addr) (ks : List (Option Int)) (vs : List V) : HO := .ext fun h => (a == sysModules) = false ∧ vs.length = ks.length ∧ ks.length ≤ sizeLine ∧ ∃ (P : Program) (w : World) (us : List Value), Vals vs us ∧ h.DictOf (leafKind P w) a ((ks.map lfN).zip us)
/-- a tuple that is plain: known to its object, which has no dict of its own -/
def Tp (K : PySem.W.Frag) (G : Hp) (a : Addr) (vs : List V) : Prop := (∃ o, G a = some (.frz o (.tup vs)) ∧ o.dict = none) ∨
  ∃ (o : Obj) (its : Array Value) (n : Nat), K.lookup a = some o ∧ o.cls = .type "tuple" ∧ o.data = .seq its n ∧ its.size ≤ sizeLine ∧ Vals vs its.toList ∧ o.dict = none
theorem Tp.sq {K : PySem.W.Frag} {G : Hp} {a : Addr} {vs : List V} (h : Tp K G a vs) : SqT K G a vs := by
  rcases h with ⟨o, h, _⟩ | ⟨o, its, n, h1, h2, h3, h4, h5, _⟩
  · exact .inl (.inr ⟨o, h⟩)
  · exact .inr ⟨o, its, n, h1, h2, h3, h4, h5⟩
theorem Tp.new {K : PySem.W.Frag} {G : Hp} {a : Addr} {vs : List V} {o : Obj} (h : o.dict = none) : Tp K (upd G a (.frz o (.tup vs))) a vs := .inl ⟨o, upd_same, h⟩
theorem Tp.mono {K : PySem.W.Frag} {G G' : Hp} {a : Addr} {vs : List V} (e : Evl.Ex G G') (h : Tp K G a vs) : Tp K G' a vs := by
  rcases h with ⟨o, h, d⟩ | h
  · exact .inl ⟨o, e _ _ h, d⟩
  · exact .inr h
section
variable (K : PySem.W.Frag) (κ : Cls)
mutual
inductive Rp (G : Hp) : V → D → Prop
  | non : Rp G .non .non
  | bl (b : Bool) : Rp G (.bl b) (.bl b)
  | int (i : Int) : Rp G (.int i) (.int i)
  | str (x : Str) : Rp G (.str x) (.str x)
  | tup {a : Addr} {vs : List V} {xs : List D} : Tp K G a vs → RpAll G vs xs → Rp G (.ref a) (.tup xs)
  | lst {a : Addr} {vs : List V} {xs : List D} : SqL K G a vs → RpAll G vs xs → Rp G (.ref a) (.lst xs)
  | tupW {a : Addr} {vs : List V} {xs : List D} : SqT K G a vs → RpAll G vs xs → Rp G (.ref a) (.tupW xs)
  | exc {a : Addr} {k : Nat} : G a = some (ExV (.ref (κ.at_ k)) none a) → Rp G (.ref a) (.exc k)
  | excF {a p : Addr} {k : Nat} {v : V} {x : D} : G a = some (ExV (.ref (κ.at_ k)) (some p) a) → G p = some (.xd [(κ.fld k, v)]) → Rp G v x → Rp G (.ref a) (.excF k x)
  | dic {a : Addr} {ks : List (Option Int)} {vs : List V} {xs : List D} : G a = some (NdHO a ks vs) → RpAll G vs xs → Rp G (.ref a) (.dic ks xs)
inductive RpAll (G : Hp) : List V → List D → Prop
  | nil : RpAll G [] []
  | cons {v : V} {vs : List V} {x : D} {xs : List D} : Rp G v x → RpAll G vs xs → RpAll G (v :: vs) (x :: xs)
end
end
abbrev Ex := Evl.Ex
theorem ex_l {K : PySem.W.Frag} {H H' : Hp} {a : Addr} {xs : List V} (e : Ex H H') (h : SqL K H a xs) : SqL K H' a xs := Evl.ex_l e h
theorem ex_t {K : PySem.W.Frag} {H H' : Hp} {a : Addr} {xs : List V} (e : Ex H H') (h : SqT K H a xs) : SqT K H' a xs := Evl.ex_t e h
section
variable {K : PySem.W.Frag} {κ : Cls} {G H G' H' : Hp}
mutual
theorem Rp.mono (e : Ex G G') : ∀ {v : V} {x : D}, Rp K κ G v x → Rp K κ G' v x
  | _, _, .non => .non
  | _, _, .bl b => .bl b
  | _, _, .int i => .int i
  | _, _, .str x => .str x
  | _, _, .tup h r => .tup (h.mono e) (RpAll.mono e r)
  | _, _, .lst h r => .lst (ex_l e h) (RpAll.mono e r)
  | _, _, .exc h => .exc (e _ _ h)
  | _, _, .excF h h2 r => .excF (e _ _ h) (e _ _ h2) (Rp.mono e r)
  | _, _, .tupW h r => .tupW (ex_t e h) (RpAll.mono e r)
  | _, _, .dic h r => .dic (e _ _ h) (RpAll.mono e r)
theorem RpAll.mono (e : Ex G G') : ∀ {vs : List V} {xs : List D}, RpAll K κ G vs xs → RpAll K κ G' vs xs
  | _, _, .nil => .nil
  | _, _, .cons h r => .cons (Rp.mono e h) (RpAll.mono e r)
end
theorem RpAll.length : ∀ {vs : List V} {xs : List D}, RpAll K κ G vs xs → vs.length = xs.length
  | _, _, .nil => rfl
  | _, _, .cons _ r => congrArg (· + 1) (RpAll.length r)
theorem RpAll.get : ∀ {vs : List V} {xs : List D} {i : Nat} {x : D}, RpAll K κ G vs xs → xs[i]? = some x → ∃ v, vs[i]? = some v ∧ Rp K κ G v x
  | _, _, 0, _, .cons h r, e => by
    simp only [List.getElem?_cons_zero, Option.some.injEq] at e
    subst e
    exact ⟨_, rfl, h⟩
  | _, _, i + 1, x, .cons h r, e => by
    simp only [List.getElem?_cons_succ] at e
    obtain ⟨v, e', q⟩ := RpAll.get r e
    exact ⟨v, by simpa using e', q⟩
theorem RpAll.get' : ∀ {vs : List V} {xs : List D} {i : Nat} {v : V}, RpAll K κ G vs xs → vs[i]? = some v → ∃ x, xs[i]? = some x ∧ Rp K κ G v x
  | _, _, 0, _, .cons h r, e => by
    simp only [List.getElem?_cons_zero, Option.some.injEq] at e
    subst e
    exact ⟨_, rfl, h⟩
  | _, _, i + 1, x, .cons h r, e => by
    simp only [List.getElem?_cons_succ] at e
    obtain ⟨v, e', q⟩ := RpAll.get' r e
    exact ⟨v, by simpa using e', q⟩
theorem RpAll.append : ∀ {vs us : List V} {xs ys : List D}, RpAll K κ G vs xs → RpAll K κ G us ys → RpAll K κ G (vs ++ us) (xs ++ ys)
  | _, _, _, _, .nil, s => s
  | _, _, _, _, .cons h r, s => .cons h (RpAll.append r s)
theorem RpAll.take : ∀ {vs : List V} {xs : List D} (n : Nat), RpAll K κ G vs xs → RpAll K κ G (vs.take n) (xs.take n)
  | _, _, 0, _ => .nil
  | _, _, _ + 1, .nil => .nil
  | _, _, n + 1, .cons h r => .cons h (RpAll.take n r)
theorem RpAll.drop : ∀ {vs : List V} {xs : List D} (n : Nat), RpAll K κ G vs xs → RpAll K κ G (vs.drop n) (xs.drop n)
  | _, _, 0, r => r
  | _, _, _ + 1, .nil => .nil
  | _, _, n + 1, .cons _ r => RpAll.drop n r
theorem RpAll.set {v : V} {x : D} (h : Rp K κ G v x) : ∀ {vs : List V} {xs : List D} (n : Nat), RpAll K κ G vs xs → RpAll K κ G (vs.set n v) (xs.set n x)
  | _, _, _, .nil => .nil
  | _, _, 0, .cons _ r => .cons h r
  | _, _, n + 1, .cons q r => .cons q (RpAll.set h n r)
theorem RpAll.eraseIdx : ∀ {vs : List V} {xs : List D} (n : Nat), RpAll K κ G vs xs → RpAll K κ G (vs.eraseIdx n) (xs.eraseIdx n)
  | _, _, _, .nil => .nil
  | _, _, 0, .cons _ r => r
  | _, _, n + 1, .cons q r => .cons q (RpAll.eraseIdx n r)
theorem RpAll.reverse {vs : List V} {xs : List D} (r : RpAll K κ G vs xs) : RpAll K κ G vs.reverse xs.reverse := by
  induction vs generalizing xs with
  | nil => cases r; exact .nil
  | cons v vs ih =>
    cases r with
    | cons h r =>
      rw [List.reverse_cons, List.reverse_cons]
      exact (ih r).append (.cons h .nil)
end
/-- the pairs of an owned dict -/
def KvAll (K : PySem.W.Frag) (κ : Cls) (G : Hp) : List (Key × V) → List (Key × D) → Prop
  | [], [] => True
  | (k, v) :: ks, (j, x) :: kvs => k = j ∧ Rp K κ G v x ∧ KvAll K κ G ks kvs
  | _, _ => False
/-- lists of one's own, one at each address -/
def MLs (K : PySem.W.Frag) (κ : Cls) (G H : Hp) : List (List D) → List Addr → Prop
  | [], [] => True
  | xs :: xss, b :: bs => (G b = none ∧ ∃ vs, H b = some (.lst vs) ∧ RpAll K κ G vs xs) ∧ MLs K κ G H xss bs
  | _, _ => False
/-- a slot's value stands for w; L: the addresses that it owns -/
def Rw (K : PySem.W.Frag) (κ : Cls) (G H : Hp) : W → V → List Addr → Prop
  | .d x, v, L => L = [] ∧ Rp K κ G v x
  | .ml xs, v, L => ∃ a vs, v = .ref a ∧ L = [a] ∧ G a = none ∧ H a = some (.lst vs) ∧ RpAll K κ G vs xs
  | .md kvs, v, L => ∃ a ks, v = .ref a ∧ L = [a] ∧ G a = none ∧ H a = some (.dK ks) ∧ KvAll K κ G ks kvs
  | .mm xss, v, L => ∃ a bs, v = .ref a ∧ L = a :: bs ∧ G a = none ∧ H a = some (.lst (bs.map V.ref)) ∧ MLs K κ G H xss bs
/-- the tables of code stand, and are no data -/
def Tb (κ : Cls) (G H : Hp) : Prop := ∀ P ∈ κ.tabs, GxR.TabG H P ∧ G P = none
def NoTab (o : HO) : Prop := ∀ ps, o ≠ .tbl ps
theorem ntL {us : List V} : NoTab (.lst us) := fun ps z => by cases z
def EnvR (K : PySem.W.Frag) (κ : Cls) (G H : Hp) : Env → St → List Addr → Prop
  | [], [], L => L = [] ∧ Tb κ G H
  | none :: ρ, _ :: σ, L => EnvR K κ G H ρ σ L
  | some w :: ρ, some v :: σ, L => ∃ L1 L2, L = L1 ++ L2 ∧ Rw K κ G H w v L1 ∧ EnvR K κ G H ρ σ L2
  | _, _, _ => False
def RwAll (K : PySem.W.Frag) (κ : Cls) (G H : Hp) : List W → List V → List Addr → Prop
  | [], [], L => L = []
  | w :: ws, v :: vs, L => ∃ L1 L2, L = L1 ++ L2 ∧ Rw K κ G H w v L1 ∧ RwAll K κ G H ws vs L2
  | _, _, _ => False
/-- from (G, H, L) to (G', H', L'): G the known part, L what is owned -/
structure Stp (G H : Hp) (L : List Addr) (G' H' : Hp) (L' : List Addr) : Prop where
  g : Ex G G'
  h : ∀ a o, H a = some o → a ∉ L → NoTab o → H' a = some o
  t : ∀ a, H' a = none → H a = none
  gn : ∀ a, H a ≠ none → a ∉ L → G a = none → G' a = none
  ln : ∀ a ∈ L', a ∈ L ∨ H a = none
  gh : Ex G' H'
  tb : ∀ P, GxR.TabG H P → GxR.TabG H' P
section
variable {K : PySem.W.Frag} {κ : Cls} {G H G' H' G1 H1 G2 H2 : Hp} {L L' L1 L2 A B C : List Addr} {ρ ρ' : Env} {σ σ' : St}
theorem Stp.refl (e : Ex G H) : Stp G H L G H L := ⟨Evl.Ex.refl G, fun _ _ h _ _ => h, fun _ h => h, fun _ _ _ h => h, fun _ h => .inl h, e, fun _ h => h⟩
theorem Stp.trans (s : Stp G H L G1 H1 L1) (u : Stp G1 H1 L1 G2 H2 L2) : Stp G H L G2 H2 L2 where
  g := s.g.trans u.g
  h := fun a o e n nt => u.h a o (s.h a o e n nt) (fun z => (s.ln a z).elim n fun q => by rw [e] at q; cases q) nt
  t := fun a e => s.t a (u.t a e)
  gn := fun a e n q => by
    have n1 : a ∉ L1 := fun z => (s.ln a z).elim n e
    refine u.gn a ?_ n1 (s.gn a e n q)
    intro z
    exact e (s.t a z)
  ln := fun a z => (u.ln a z).elim (fun q => s.ln a q) fun q => .inr (s.t a q)
  gh := u.gh
  tb := fun P h => u.tb P (s.tb P h)
theorem Stp.sub (u : Stp G H L G' H' L') (h : ∀ a ∈ L2, a ∈ L') : Stp G H L G' H' L2 := ⟨u.g, u.h, u.t, u.gn, fun a z => u.ln a (h a z), u.gh, u.tb⟩
/-- what a part that is not touched holds stays -/
theorem KvAll.mono (e : Ex G G') : ∀ {ks : List (Key × V)} {kvs : List (Key × D)}, KvAll K κ G ks kvs → KvAll K κ G' ks kvs
  | [], [], _ => trivial
  | (_, _) :: _, (_, _) :: _, ⟨a, b, c⟩ => ⟨a, b.mono e, KvAll.mono e c⟩
theorem MLs.there : ∀ {xss : List (List D)} {bs : List Addr}, MLs K κ G H xss bs → ∀ b ∈ bs, H b ≠ none ∧ G b = none
  | [], [], _, _, z => by cases z
  | xs :: xss, c :: bs, ⟨⟨g, vs, h, _⟩, m⟩, b, z => by
    rcases List.mem_cons.mp z with rfl | z
    · exact ⟨by rw [h]; exact Option.some_ne_none _, g⟩
    · exact MLs.there m b z
theorem MLs.keep : ∀ {xss : List (List D)} {bs : List Addr}, MLs K κ G H xss bs → Ex G G' → (∀ b ∈ bs, G' b = none) → (∀ b ∈ bs, ∀ o, H b = some o → H' b = some o) → MLs K κ G' H' xss bs
  | [], [], _, _, _, _ => trivial
  | xs :: xss, c :: bs, ⟨⟨g, vs, p, r⟩, m⟩, e, h, k => ⟨⟨h c (by simp), vs, k c (by simp) _ p, r.mono e⟩, MLs.keep m e (fun b z => h b (by simp [z])) fun b z => k b (by simp [z])⟩
theorem MLs.len : ∀ {xss : List (List D)} {bs : List Addr}, MLs K κ G H xss bs → xss.length = bs.length
  | [], [], _ => rfl
  | _ :: _, _ :: _, ⟨_, m⟩ => congrArg (· + 1) (MLs.len m)
theorem MLs.at : ∀ {xss : List (List D)} {bs : List Addr} {n : Nat} {b : Addr}, MLs K κ G H xss bs → bs[n]? = some b → ∃ xs vs, xss[n]? = some xs ∧ G b = none ∧ H b = some (.lst vs) ∧ RpAll K κ G vs xs
  | [], [], n, b, _, e => by simp at e
  | xs :: xss, c :: bs, 0, b, ⟨⟨g, vs, h, r⟩, m⟩, e => by
    simp only [List.getElem?_cons_zero, Option.some.injEq] at e
    subst e
    exact ⟨xs, vs, rfl, g, h, r⟩
  | xs :: xss, c :: bs, n + 1, b, ⟨_, m⟩, e => by
    obtain ⟨ys, vs, q, r⟩ := MLs.at m (by simpa using e)
    exact ⟨ys, vs, by simpa using q, r⟩
/-- one of them changed -/
theorem MLs.put : ∀ {xss : List (List D)} {bs : List Addr} {n : Nat} {b : Addr} {vs : List V} {ys : List D}, MLs K κ G H xss bs → bs.Nodup → bs[n]? = some b → RpAll K κ G vs ys → MLs K κ G (upd H b (.lst vs)) (xss.set n ys) bs
  | [], [], n, b, _, _, _, _, e, _ => by simp at e
  | xs :: xss, c :: bs, 0, b, ws, ys, ⟨⟨g, vs, h, r⟩, m⟩, nd, e, ra => by
    simp only [List.getElem?_cons_zero, Option.some.injEq] at e
    subst e
    have n1 := List.nodup_cons.mp nd
    exact ⟨⟨g, ws, upd_same, ra⟩, m.keep (Evl.Ex.refl G) (fun d z => (m.there d z).2) fun d z o q => by rw [upd_ne (fun w => n1.1 (by rw [← w]; exact z))]; exact q⟩
  | xs :: xss, c :: bs, n + 1, b, ws, ys, ⟨⟨g, vs, h, r⟩, m⟩, nd, e, ra => by
    have n1 := List.nodup_cons.mp nd
    have e : bs[n]? = some b := by simpa using e
    have hb : b ∈ bs := List.mem_of_getElem? e
    exact ⟨⟨g, vs, by rw [upd_ne (fun w => n1.1 (by rw [w]; exact hb))]; exact h, r⟩, MLs.put m n1.2 e ra⟩
theorem MLs.snoc : ∀ {xss : List (List D)} {bs : List Addr} {b : Addr} {vs : List V} {ys : List D}, MLs K κ G H xss bs → G b = none → H b = some (.lst vs) → RpAll K κ G vs ys → MLs K κ G H (xss ++ [ys]) (bs ++ [b])
  | [], [], b, vs, ys, _, g, h, r => ⟨⟨g, vs, h, r⟩, trivial⟩
  | _ :: _, _ :: _, _, _, _, ⟨x, m⟩, g, h, r => ⟨x, MLs.snoc m g h r⟩
theorem MLs.ntb : ∀ {xss : List (List D)} {bs : List Addr}, MLs K κ G H xss bs → ∀ b ∈ bs, ∀ o, H b = some o → NoTab o
  | [], [], _, _, z => by cases z
  | xs :: xss, c :: bs, ⟨⟨g, vs, h, _⟩, m⟩, b, z => by
    rcases List.mem_cons.mp z with rfl | z
    · intro o e ps q
      rw [h, q] at e
      cases e
    · exact MLs.ntb m b z
theorem Rw.ntb {w : W} {v : V} (r : Rw K κ G H w v L) : ∀ a ∈ L, ∀ o, H a = some o → NoTab o := by
  cases w with
  | d x => obtain ⟨rfl, _⟩ := r; intro a z; cases z
  | ml xs =>
    obtain ⟨a, vs, _, rfl, g, h, _⟩ := r
    intro b z o e ps q
    simp only [List.mem_singleton] at z
    subst z
    rw [h, q] at e
    cases e
  | md xs =>
    obtain ⟨a, vs, _, rfl, g, h, _⟩ := r
    intro b z o e ps q
    simp only [List.mem_singleton] at z
    subst z
    rw [h, q] at e
    cases e
  | mm xss =>
    obtain ⟨a, bs, _, rfl, g, h, m⟩ := r
    intro b z o e ps q
    rcases List.mem_cons.mp z with rfl | z
    · rw [h, q] at e
      cases e
    · exact m.ntb b z o e ps q
theorem Tb.stp (t : Tb κ G H) (u : Stp G H B G' H' C) (n : ∀ P ∈ κ.tabs, P ∉ B) : Tb κ G' H' := fun P hP => by
  obtain ⟨⟨ps, h1, h2⟩, g⟩ := t P hP
  exact ⟨u.tb P ⟨ps, h1, h2⟩, u.gn P (by rw [h1]; exact Option.some_ne_none _) (n P hP) g⟩
theorem Tb.both (t : Tb κ G H) (g : ∀ P ∈ κ.tabs, G P = none → G' P = none) (h : ∀ P ∈ κ.tabs, GxR.TabG H P → GxR.TabG H' P) : Tb κ G' H' := fun P hP => ⟨h P hP (t P hP).1, g P hP (t P hP).2⟩
theorem Rw.there {w : W} {v : V} (r : Rw K κ G H w v L) : ∀ a ∈ L, H a ≠ none ∧ G a = none := by
  cases w with
  | d x => obtain ⟨rfl, _⟩ := r; intro a z; cases z
  | ml xs =>
    obtain ⟨a, vs, _, rfl, g, h, _⟩ := r
    intro b z
    simp only [List.mem_singleton] at z
    subst z
    exact ⟨by rw [h]; exact Option.some_ne_none _, g⟩
  | md xs =>
    obtain ⟨a, vs, _, rfl, g, h, _⟩ := r
    intro b z
    simp only [List.mem_singleton] at z
    subst z
    exact ⟨by rw [h]; exact Option.some_ne_none _, g⟩
  | mm xss =>
    obtain ⟨a, bs, _, rfl, g, h, m⟩ := r
    intro b z
    rcases List.mem_cons.mp z with rfl | z
    · exact ⟨by rw [h]; exact Option.some_ne_none _, g⟩
    · exact m.there b z
theorem Rw.keep {w : W} {v : V} (r : Rw K κ G H w v A) (g : Ex G G') (h : ∀ a ∈ A, G' a = none) (k : ∀ a ∈ A, ∀ o, H a = some o → H' a = some o) : Rw K κ G' H' w v A := by
  cases w with
  | d x => exact ⟨r.1, r.2.mono g⟩
  | ml xs =>
    obtain ⟨a, vs, e, rfl, q, p, z⟩ := r
    exact ⟨a, vs, e, rfl, h a (by simp), k a (by simp) _ p, z.mono g⟩
  | md xs =>
    obtain ⟨a, vs, e, rfl, q, p, z⟩ := r
    exact ⟨a, vs, e, rfl, h a (by simp), k a (by simp) _ p, KvAll.mono g z⟩
  | mm xss =>
    obtain ⟨a, bs, e, rfl, q, p, m⟩ := r
    exact ⟨a, bs, e, rfl, h a (by simp), k a (by simp) _ p, m.keep g (fun b z => h b (List.mem_cons_of_mem _ z)) fun b z => k b (List.mem_cons_of_mem _ z)⟩
theorem Rw.stp {w : W} {v : V} (r : Rw K κ G H w v A) (u : Stp G H B G' H' C) (n : ∀ a ∈ A, a ∉ B) : Rw K κ G' H' w v A :=
  r.keep u.g (fun a z => u.gn a (r.there a z).1 (n a z) (r.there a z).2) fun a z o e => u.h a o e (n a z) (r.ntb a z o e)
theorem EnvR.tb : ∀ {ρ : Env} {σ : St} {L : List Addr}, EnvR K κ G H ρ σ L → Tb κ G H
  | [], [], L, r => r.2
  | none :: ρ, _ :: σ, L, r => EnvR.tb (ρ := ρ) (σ := σ) r
  | some w :: ρ, some v :: σ, L, ⟨L1, L2, e, h, q⟩ => EnvR.tb q
theorem EnvR.ntb : ∀ {ρ : Env} {σ : St} {L : List Addr}, EnvR K κ G H ρ σ L → ∀ a ∈ L, ∀ o, H a = some o → NoTab o
  | [], [], L, r => by
    have e : L = [] := r.1
    subst e
    intro a z; cases z
  | none :: ρ, _ :: σ, L, r => EnvR.ntb (ρ := ρ) (σ := σ) r
  | some w :: ρ, some v :: σ, L, ⟨L1, L2, e, h, q⟩ => by
    subst e
    intro a z
    exact (List.mem_append.mp z).elim (h.ntb a) (EnvR.ntb q a)
theorem EnvR.there : ∀ {ρ : Env} {σ : St} {L : List Addr}, EnvR K κ G H ρ σ L → ∀ a ∈ L, H a ≠ none ∧ G a = none
  | [], [], L, r => by
    have e : L = [] := r.1
    subst e
    intro a z; cases z
  | none :: ρ, _ :: σ, L, r => EnvR.there (ρ := ρ) (σ := σ) r
  | some w :: ρ, some v :: σ, L, ⟨L1, L2, e, h, q⟩ => by
    subst e
    intro a z
    exact (List.mem_append.mp z).elim (h.there a) (EnvR.there q a)
theorem EnvR.keep : ∀ {ρ : Env} {σ : St} {A : List Addr}, EnvR K κ G H ρ σ A → Ex G G' → (∀ a ∈ A, G' a = none) → (∀ a ∈ A, ∀ o, H a = some o → H' a = some o) → (Tb κ G H → Tb κ G' H') → EnvR K κ G' H' ρ σ A
  | [], [], L, r, _, _, _, t => ⟨r.1, t r.2⟩
  | none :: ρ, _ :: σ, L, r, g, h, k, t => EnvR.keep (ρ := ρ) (σ := σ) r g h k t
  | some w :: ρ, some v :: σ, L, ⟨L1, L2, e, r, q⟩, g, h, k, t => by
    subst e
    exact ⟨L1, L2, rfl, r.keep g (fun a z => h a (List.mem_append_left _ z)) fun a z => k a (List.mem_append_left _ z), q.keep g (fun a z => h a (List.mem_append_right _ z)) (fun a z => k a (List.mem_append_right _ z)) t⟩
theorem EnvR.stp (r : EnvR K κ G H ρ σ A) (u : Stp G H B G' H' C) (n : ∀ a ∈ A, a ∉ B) (m : ∀ P ∈ κ.tabs, P ∉ B) : EnvR K κ G' H' ρ σ A :=
  r.keep u.g (fun a z => u.gn a (r.there a z).1 (n a z) (r.there a z).2) (fun a z o e => u.h a o e (n a z) (r.ntb a z o e)) fun t => t.stp u m
theorem EnvR.length : ∀ {ρ : Env} {σ : St} {L : List Addr}, EnvR K κ G H ρ σ L → ρ.length = σ.length
  | [], [], _, _ => rfl
  | none :: ρ, _ :: σ, _, r => congrArg (· + 1) (EnvR.length (ρ := ρ) (σ := σ) r)
  | some w :: ρ, some v :: σ, _, ⟨_, _, _, _, q⟩ => congrArg (· + 1) (EnvR.length q)
/-- a slot: what it holds, and anything else put there (same address or not) -/
theorem EnvR.at : ∀ {ρ : Env} {σ : St} {L : List Addr} {i : Nat} {w : W}, EnvR K κ G H ρ σ L → ρ[i]? = some (some w) →
    ∃ v A B C, σ[i]? = some (some v) ∧ L = A ++ B ++ C ∧ Rw K κ G H w v B ∧
      ∀ G' H' w' v' B', Ex G G' → (∀ a ∈ A ++ C, G' a = none) → (∀ a ∈ A ++ C, ∀ o, H a = some o → H' a = some o) → (Tb κ G H → Tb κ G' H') → Rw K κ G' H' w' v' B' → EnvR K κ G' H' (ρ.set i (some w')) (σ.set i (some v')) (A ++ B' ++ C)
  | none :: ρ, v :: σ, L, i + 1, w, r, e => by
    obtain ⟨u, A, B, C, h1, h2, h3, h4⟩ := EnvR.at (ρ := ρ) (σ := σ) (i := i) r (by simpa using e)
    exact ⟨u, A, B, C, by simpa using h1, h2, h3, fun G' H' w' v' B' g a k t q => h4 G' H' w' v' B' g a k t q⟩
  | some x :: ρ, some v :: σ, L, 0, w, ⟨L1, L2, e', r, q⟩, e => by
    have e1 : x = w := by simpa using e
    subst e1
    subst e'
    refine ⟨v, [], L1, L2, rfl, rfl, r, fun G' H' w' v' B' g a k t r' => ?_⟩
    exact ⟨B', L2, rfl, r', q.keep g (fun b z => a b (by simpa using z)) (fun b z => k b (by simpa using z)) t⟩
  | some x :: ρ, some v :: σ, L, i + 1, w, ⟨L1, L2, e', r, q⟩, e => by
    subst e'
    obtain ⟨u, A, B, C, h1, h2, h3, h4⟩ := EnvR.at q (i := i) (by simpa using e)
    subst h2
    refine ⟨u, L1 ++ A, B, C, by simpa using h1, by simp only [List.append_assoc], h3, fun G' H' w' v' B' g a k t r' => ?_⟩
    refine ⟨L1, A ++ B' ++ C, by simp only [List.append_assoc], r.keep g (fun b z => a b (by simp [z])) (fun b z => k b (by simp [z])), h4 G' H' w' v' B' g (fun b z => a b ?_) (fun b z => k b ?_) t r'⟩
    · rcases List.mem_append.mp z with z | z <;> simp [z]
    · rcases List.mem_append.mp z with z | z <;> simp [z]
/-- any slot stored anew, what it held forgotten -/
theorem EnvR.put : ∀ {ρ : Env} {σ : St} {L : List Addr} (i : Nat) {w : W} {v : V} {B : List Addr}, EnvR K κ G H ρ σ L → Rw K κ G H w v B → (B ++ L).Nodup → i < ρ.length →
    ∃ L', EnvR K κ G H (ρ.set i (some w)) (σ.set i (some v)) L' ∧ L'.Nodup ∧ ∀ a ∈ L', a ∈ B ++ L
  | none :: ρ, u :: σ, L, 0, w, v, B, r, q, nd, _ => ⟨B ++ L, ⟨B, L, rfl, q, r⟩, nd, fun _ z => z⟩
  | some x :: ρ, some u :: σ, L, 0, w, v, B, ⟨L1, L2, e, _, r⟩, q, nd, _ => by
    subst e
    refine ⟨B ++ L2, ⟨B, L2, rfl, q, r⟩, nd.sublist (List.Sublist.append_left (List.sublist_append_right _ _) _), fun a z => ?_⟩
    rcases List.mem_append.mp z with z | z <;> simp [z]
  | none :: ρ, u :: σ, L, i + 1, w, v, B, r, q, nd, hi => by
    obtain ⟨L', h1, h2, h3⟩ := EnvR.put (ρ := ρ) (σ := σ) i r q nd (by simpa using hi)
    exact ⟨L', h1, h2, h3⟩
  | some x :: ρ, some u :: σ, L, i + 1, w, v, B, ⟨L1, L2, e, rx, r⟩, q, nd, hi => by
    subst e
    have nd2 : (B ++ L2).Nodup := nd.sublist (List.Sublist.append_left (List.sublist_append_right _ _) _)
    obtain ⟨L', h1, h2, h3⟩ := EnvR.put (ρ := ρ) (σ := σ) i r q nd2 (by simpa using hi)
    have nda := List.nodup_append.mp nd
    have ndb := List.nodup_append.mp nda.2.1
    refine ⟨L1 ++ L', ⟨L1, L', rfl, rx, h1⟩, List.nodup_append.mpr ⟨ndb.1, h2, fun a ha b hb e => ?_⟩, fun a z => ?_⟩
    · subst e
      rcases List.mem_append.mp (h3 a hb) with z | z
      · exact nda.2.2 a z a (List.mem_append_left _ ha) rfl
      · exact ndb.2.2 a ha a z rfl
    · rcases List.mem_append.mp z with z | z
      · simp [z]
      · rcases List.mem_append.mp (h3 a z) with z | z <;> simp [z]
theorem EnvR.forget : ∀ {ρ : Env} {σ : St} {L : List Addr} (i : Nat) (u : Option V), EnvR K κ G H ρ σ L → L.Nodup → ∃ L', EnvR K κ G H (ρ.set i none) (σ.set i u) L' ∧ L'.Nodup ∧ ∀ a ∈ L', a ∈ L
  | [], [], L, i, u, r, nd => ⟨L, by simpa using r, nd, fun _ z => z⟩
  | none :: ρ, x :: σ, L, 0, u, r, nd => ⟨L, r, nd, fun _ z => z⟩
  | some x :: ρ, some y :: σ, L, 0, u, ⟨L1, L2, e, _, r⟩, nd => by
    subst e
    exact ⟨L2, r, (List.nodup_append.mp nd).2.1, fun a z => List.mem_append_right _ z⟩
  | none :: ρ, x :: σ, L, i + 1, u, r, nd => by
    obtain ⟨L', h1, h2, h3⟩ := EnvR.forget (ρ := ρ) (σ := σ) i u r nd
    exact ⟨L', h1, h2, h3⟩
  | some x :: ρ, some y :: σ, L, i + 1, u, ⟨L1, L2, e, rx, r⟩, nd => by
    subst e
    have nda := List.nodup_append.mp nd
    obtain ⟨L', h1, h2, h3⟩ := EnvR.forget (ρ := ρ) (σ := σ) i u r nda.2.1
    refine ⟨L1 ++ L', ⟨L1, L', rfl, rx, h1⟩, List.nodup_append.mpr ⟨nda.1, h2, fun a ha b hb e => ?_⟩, fun a z => ?_⟩
    · subst e
      exact nda.2.2 a ha a (h3 a hb) rfl
    · rcases List.mem_append.mp z with z | z
      · simp [z]
      · simp [h3 a z]
end
end Pv
set_option maxRecDepth 100000
set_option maxHeartbeats 2000000
namespace Pv
open PySem PySem.Spec PyProof.Rows L2
theorem laid_tup {X : Cx} {pins : List (Addr × Obj)} {σ : St} {H : Hp} {s : Shared} (I : Inv X pins σ H s) {us : List Value} {vs : List V} (r : Vals vs us) (z : vs.length ≤ sizeLine) :
    Inv X pins σ (upd H s.heap.objs.size (.frz { cls := .type "tuple", data := .seq us.toArray } (.tup vs))) { s with heap := s.heap.push { cls := .type "tuple", data := .seq us.toArray } } :=
  I.laid (t' := s.toks) (fun b u e => Heap.get?_push_of_some _ e) (Nat.le_refl _) ⟨Heap.get?_push_size _ rfl, z, us, r, IsTup.new _ _⟩
theorem free_tup {X : Cx} {pins : List (Addr × Obj)} {σ : St} {H : Hp} {s : Shared} (I : Inv X pins σ H s) : H s.heap.objs.size = none := I.hok.fresh (Nat.le_refl _)
/-- what follows behind a new tuple -/
def NewT (vs : List V) (H : Hp) (Q : VK) : Prop := ∀ (p : Addr) (o : Obj), H p = none → o.dict = none → Q (.ref p) (upd H p (.frz o (.tup vs)))
def tTupP (t : TA) : TE := fun σ H Q => t σ H fun xs H1 => xs.length ≤ sizeLine ∧ NewT xs H1 Q
theorem pe_tupP {X : Cx} {es : List Expr} {t : TA} {pos : Pos} {x1} (h : PA X es t) : PE X (.Tuple es x1 pos) (tTupP t) := ⟨fun pins s σ H Q I hq =>
  wpAny_Tuple_spliced (thn (h.run pos pins s σ H _ I hq) fun us s1 ⟨vs, H1, I1, r, z, q⟩ => ⟨by rw [← r.length]; exact z, .ref s1.heap.objs.size, _, laid_tup I1 r z, rfl, q _ _ (free_tup I1) rfl⟩)⟩
def rTupOfP (K : PySem.W.Frag) : List V → Hp → VK → Prop := fun xs H Q => ∃ p ys, xs = [.ref p] ∧ ((SqL K H p ys ∧ NewT ys H Q) ∨ (SqT K H p ys ∧ Q (.ref p) H))
theorem call_tupP {X : Cx} : CallR X (.type "tuple") (rTupOfP X.K) := by
  intro pins s σ H xs us Q I r h
  obtain ⟨p, ys, rfl, ⟨hq, q⟩ | ⟨hq, q⟩⟩ := h
  · cases r with
    | cons r1 r =>
      cases r
      cases r1
      obtain ⟨its, vals, plain, z⟩ := I.list hq
      refine call_tuple_list plain.isList (fun h' kept => ?_) (by rw [List.size_toArray, ← vals.length]; exact z)
      have J : Inv X pins σ H { s with heap := h' } := I.kept (t' := s.toks) kept
      exact ⟨.ref h'.objs.size, _, laid_tup J vals z, rfl, q _ _ (free_tup J) rfl⟩
  · cases r with
    | cons r1 r =>
      cases r
      cases r1
      obtain ⟨its, _, plain, _⟩ := I.tuple hq
      exact call_tuple_same plain ⟨.ref p, H, I, rfl, q⟩
def rCatP (K : PySem.W.Frag) : R2 := fun x y H Q => ∃ a b xs ys, x = .ref a ∧ y = .ref b ∧ SqT K H a xs ∧ SqT K H b ys ∧ xs.length + ys.length ≤ sizeLine ∧
  (xs = [] → Q (.ref b) H) ∧ (xs ≠ [] → ys = [] → Q (.ref a) H) ∧ (xs ≠ [] → ys ≠ [] → NewT (xs ++ ys) H Q)
theorem op_catP {X : Cx} : OpR X (binaryOp .Add) (rCatP X.K) := by
  intro pins s σ H x y v u Q I rx ry h
  obtain ⟨a, b, xs, ys, rfl, rfl, ha, hb, hz, q0, q1, q2⟩ := h
  by_cases hx : xs = []
  · exact L2.op_catA pins s σ H _ _ v u Q I rx ry ⟨a, b, xs, ys, rfl, rfl, ha, hb, hz, q0, fun z => absurd hx z, fun z => absurd hx z⟩
  · by_cases hy : ys = []
    · exact L2.op_catA pins s σ H _ _ v u Q I rx ry ⟨a, b, xs, ys, rfl, rfl, ha, hb, hz, q0, q1, fun _ z => absurd hy z⟩
    · cases rx
      cases ry
      obtain ⟨its, r1, p1, _⟩ := I.tuple ha
      obtain ⟨its2, r2, p2, _⟩ := I.tuple hb
      refine HT.cat_tup p1 p2 (fun z => hx (r1.nil_iff.mp z)) (fun z => absurd (r2.nil_iff.mp z) hy) (fun z => ?_) (by rw [← r1.length, ← r2.length]; exact hz)
      exact ⟨.ref s.heap.objs.size, _, laid_tup I (r1.append r2) (by rw [List.length_append]; exact hz), rfl, q2 hx hy _ _ (free_tup I) rfl⟩
def rSlP (K : PySem.W.Frag) : V → Option Int → Option Int → Hp → VK → Prop := fun x lo hi H Q => ∃ a xs, x = .ref a ∧ SqT K H a xs ∧
  (HT.sIx xs.length 0 lo = 0 ∧ HT.sIx xs.length xs.length hi = xs.length → Q (.ref a) H) ∧ (¬ (HT.sIx xs.length 0 lo = 0 ∧ HT.sIx xs.length xs.length hi = xs.length) → NewT (cutV xs lo hi) H Q)
theorem sl_tupP {X : Cx} : SlR X (rSlP X.K) := by
  intro pins s σ H x v vl vu lo hi sl Q I rx hs pl pu h
  obtain ⟨a, xs, rfl, hx, q1, q2⟩ := h
  by_cases hw : HT.sIx xs.length 0 lo = 0 ∧ HT.sIx xs.length xs.length hi = xs.length
  · exact L2.sl_tupA pins s σ H _ v vl vu lo hi sl Q I rx hs pl pu ⟨a, xs, rfl, hx, q1, fun z => absurd hw z⟩
  · cases rx
    obtain ⟨its, r, ht, hz⟩ := I.tuple hx
    have size : its.toArray.size = xs.length := by rw [List.size_toArray]; exact r.length.symm
    refine ⟨"tuple", _, PyProof.Rows.slot_tuple_getitem.lookup, ht.typeIs, ?_⟩
    refine HT.getItem_tuple_cut ht hs pl pu (by rw [size]; exact hw) ?_ (by rw [size]; exact hz)
    rw [size]
    exact ⟨.ref s.heap.objs.size, _, laid_tup I ((r.drop (HT.sIx xs.length 0 lo)).take (HT.sIx xs.length xs.length hi - HT.sIx xs.length 0 lo)) (Nat.le_trans (cutV_length xs lo hi) hz), rfl, q2 hw _ _ (free_tup I) rfl⟩
end Pv
set_option maxRecDepth 100000
set_option maxHeartbeats 2000000
namespace Pv
open PySem PySem.Spec PyProof.Rows L2
abbrev Fn := List W → R (List W) W
inductive Flow where
  | nx | rt (w : W) | bk | ct
/-- an argument: data, or the thing that slot i owns -/
inductive Arg where
  | a (x : D) | m (i : Nat)
section
variable {β γ : Type}
def R.bindD (r : R Env W) (k : D → Env → R Env β) : R Env β := match r with
  | .ok (.d x) ρ => k x ρ
  | .ok _ _ => .bad
  | .exc c f ρ => .exc c f ρ
  | .bad => .bad
def R.bind (r : R Env γ) (k : γ → Env → R Env β) : R Env β := match r with
  | .ok x ρ => k x ρ
  | .exc c f ρ => .exc c f ρ
  | .bad => .bad
@[simp] theorem R.bindD_ok (x : D) (ρ : Env) (k : D → Env → R Env β) : R.bindD (.ok (.d x) ρ) k = k x ρ := rfl
@[simp] theorem R.bindD_exc (c : Nat) (f : Option D) (ρ : Env) (k : D → Env → R Env β) : R.bindD (.exc c f ρ) k = .exc c f ρ := rfl
@[simp] theorem R.bind_ok (x : γ) (ρ : Env) (k : γ → Env → R Env β) : R.bind (.ok x ρ) k = k x ρ := rfl
@[simp] theorem R.bind_exc (c : Nat) (f : Option D) (ρ : Env) (k : γ → Env → R Env β) : R.bind (.exc c f ρ : R Env γ) k = .exc c f ρ := rfl
@[simp] theorem R.bind_bad (k : γ → Env → R Env β) : R.bind (.bad : R Env γ) k = .bad := rfl
end
def R.of (o : Option D) (ρ : Env) : R Env W := match o with
  | some x => .ok (.d x) ρ
  | none => .bad
section
variable (K : PySem.W.Frag) (κ : Cls)
def ExF (G : Hp) (k : Nat) : Option D → Option Addr → Prop
  | none, dd => dd = none
  | some x, dd => ∃ p v, dd = some p ∧ G p = some (.xd [(κ.fld k, v)]) ∧ Rp K κ G v x
/-- what is wanted behind a piece that starts at (G, H, L): by the way it ends -/
def Post {β ν : Type} (Rel : Hp → Hp → β → ν → List Addr → Prop) (Wx : WX) (σ : St) (G H : Hp) (L : List Addr) (r : R Env β) (Q : ν → Hp → Prop) : Prop := match r with
  | .ok b ρ' => ∀ v G' H' Lw L', Stp G H L G' H' (Lw ++ L') → EnvR K κ G' H' ρ' σ L' → Rel G' H' b v Lw → (Lw ++ L').Nodup → Q v H'
  | .exc k f ρ' => ∀ dd G' H' L', Stp G H L G' H' L' → EnvR K κ G' H' ρ' σ L' → L'.Nodup → ExF K κ G' k f dd → Wx (.ref (κ.at_ k)) dd σ H'
  | .bad => False
def Snd {β ν : Type} (Rel : Hp → Hp → β → ν → List Addr → Prop) (te : WX → St → Hp → (ν → Hp → Prop) → Prop) (ev : Env → R Env β) : Prop :=
  ∀ (Wx : WX) (G H : Hp) (ρ : Env) (σ : St) (L : List Addr) (Q : ν → Hp → Prop), Ex G H → EnvR K κ G H ρ σ L → L.Nodup → Post K κ Rel Wx σ G H L (ev ρ) Q → te Wx σ H Q
abbrev SndE (te : WX → TE) (ev : Env → R Env W) : Prop := Snd K κ (Rw K κ) te ev
abbrev RelT : Hp → Hp → Bool → Bool → List Addr → Prop := fun _ _ b c L => L = [] ∧ b = c
abbrev SndT (tt : WX → TT) (ev : Env → R Env Bool) : Prop := Snd K κ RelT tt ev
/-- Keep: the slots that a statement doesn't store -/
def Keep (asg : List Nat) (σ σ' : St) : Prop := σ'.length = σ.length ∧ ∀ i, i ∉ asg → σ'[i]? = σ[i]?
def PostS (Wx : WX) (σ : St) (asg : List Nat) (G H : Hp) (L : List Addr) (r : R Env Flow) (E : Ends) : Prop := match r with
  | .ok .nx ρ' => ∀ σ' G' H' L', Stp G H L G' H' L' → EnvR K κ G' H' ρ' σ' L' → L'.Nodup → Keep asg σ σ' → E.nx σ' H'
  | .ok .bk ρ' => ∀ σ' G' H' L', Stp G H L G' H' L' → EnvR K κ G' H' ρ' σ' L' → L'.Nodup → Keep asg σ σ' → E.bk σ' H'
  | .ok .ct ρ' => ∀ σ' G' H' L', Stp G H L G' H' L' → EnvR K κ G' H' ρ' σ' L' → L'.Nodup → Keep asg σ σ' → E.ct σ' H'
  | .ok (.rt w) ρ' => ∀ v σ' G' H' Lw L', Stp G H L G' H' (Lw ++ L') → EnvR K κ G' H' ρ' σ' L' → Rw K κ G' H' w v Lw → (Lw ++ L').Nodup → Keep asg σ σ' → E.rt v H'
  | .exc k f ρ' => ∀ dd σ' G' H' L', Stp G H L G' H' L' → EnvR K κ G' H' ρ' σ' L' → L'.Nodup → Keep asg σ σ' → ExF K κ G' k f dd → Wx (.ref (κ.at_ k)) dd σ' H'
  | .bad => False
def SndS (ts : WX → TS) (sv : Env → R Env Flow) (asg : List Nat) : Prop :=
  ∀ (Wx : WX) (G H : Hp) (ρ : Env) (σ : St) (L : List Addr) (E : Ends), Ex G H → EnvR K κ G H ρ σ L → L.Nodup → PostS K κ Wx σ asg G H L (sv ρ) E → ts Wx E σ H
structure SE where
  te : WX → TE
  ev : Env → R Env W
  ok : SndE K κ te ev
structure ST where
  tt : WX → TT
  ev : Env → R Env Bool
  ok : SndT K κ tt ev
structure SS where
  ts : WX → TS
  sv : Env → R Env Flow
  asg : List Nat
  ok : SndS K κ ts sv asg
/-- arguments: V's that stand for the Args, slot i's value for m i -/
def ArgsR (σ : St) (G : Hp) : List Arg → List V → Prop
  | [], [] => True
  | .a x :: as, v :: vs => Rp K κ G v x ∧ ArgsR σ G as vs
  | .m j :: as, v :: vs => σ[j]? = some (some v) ∧ ArgsR σ G as vs
  | _, _ => False
def RelA (σ : St) : Hp → Hp → List Arg → List V → List Addr → Prop := fun G _ as vs L => L = [] ∧ ArgsR K κ σ G as vs
def SndA (ta : WX → TA) (ev : Env → R Env (List Arg)) : Prop :=
  ∀ (Wx : WX) (G H : Hp) (ρ : Env) (σ : St) (L : List Addr) (Q : List V → Hp → Prop), Ex G H → EnvR K κ G H ρ σ L → L.Nodup → Post K κ (RelA K κ σ) Wx σ G H L (ev ρ) Q → ta Wx σ H Q
structure SA where
  ta : WX → TA
  ev : Env → R Env (List Arg)
  ok : SndA K κ ta ev
end
section
variable {K : PySem.W.Frag} {κ : Cls} {G H G' H' G1 H1 G2 H2 : Hp} {L L' L1 L2 A B C : List Addr} {ρ ρ' ρ1 : Env} {σ σ' : St} {β γ ν : Type} {Rel : Hp → Hp → β → ν → List Addr → Prop} {Wx : WX} {Q : ν → Hp → Prop}
theorem Post.trans {r : R Env β} (p : Post K κ Rel Wx σ G H L r Q) (u : Stp G H L G1 H1 L1) : Post K κ Rel Wx σ G1 H1 L1 r Q := by
  cases r with
  | ok b ρ' => exact fun v G' H' Lw L' s e q n => p v G' H' Lw L' (u.trans s) e q n
  | exc k f ρ' => exact fun dd G' H' L' s e n x => p dd G' H' L' (u.trans s) e n x
  | bad => exact p
theorem PostS.trans {r : R Env Flow} {asg : List Nat} {E : Ends} (p : PostS K κ Wx σ asg G H L r E) (u : Stp G H L G1 H1 L1) : PostS K κ Wx σ asg G1 H1 L1 r E := by
  cases r with
  | ok b ρ' =>
    cases b with
    | nx => exact fun σ' G' H' L' s e n k => p σ' G' H' L' (u.trans s) e n k
    | bk => exact fun σ' G' H' L' s e n k => p σ' G' H' L' (u.trans s) e n k
    | ct => exact fun σ' G' H' L' s e n k => p σ' G' H' L' (u.trans s) e n k
    | rt w => exact fun v σ' G' H' Lw L' s e q n k => p v σ' G' H' Lw L' (u.trans s) e q n k
  | exc k f ρ' => exact fun dd σ' G' H' L' s e n kp x => p dd σ' G' H' L' (u.trans s) e n kp x
  | bad => exact p
/-- an expression for data, then the rest -/
theorem SndE.then {te : WX → TE} {ev : Env → R Env W} (s : SndE K κ te ev) {k : D → Env → R Env β} {q : VK} (hG : Ex G H) (hE : EnvR K κ G H ρ σ L) (hN : L.Nodup) (p : Post K κ Rel Wx σ G H L (R.bindD (ev ρ) k) Q)
    (go : ∀ x v ρ1 G1 H1 L1, Stp G H L G1 H1 L1 → EnvR K κ G1 H1 ρ1 σ L1 → L1.Nodup → Rp K κ G1 v x → Post K κ Rel Wx σ G1 H1 L1 (k x ρ1) Q → q v H1) : te Wx σ H q := by
  refine s Wx G H ρ σ L q hG hE hN ?_
  cases h : ev ρ with
  | ok w ρ1 =>
    rw [h] at p
    cases w with
    | d x =>
      intro v G1 H1 Lw L1 st e r nd
      obtain ⟨rfl, r⟩ := r
      exact go x v ρ1 G1 H1 L1 st e nd r (p.trans st)
    | ml _ => exact p.elim
    | md _ => exact p.elim
    | mm _ => exact p.elim
  | exc c f ρ1 => rw [h] at p; exact p
  | bad => rw [h] at p; exact p.elim
theorem SndE.thenS {te : WX → TE} {ev : Env → R Env W} (s : SndE K κ te ev) {k : D → Env → R Env Flow} {q : VK} {asg : List Nat} {E : Ends} (hG : Ex G H) (hE : EnvR K κ G H ρ σ L) (hN : L.Nodup) (p : PostS K κ Wx σ asg G H L (R.bindD (ev ρ) k) E)
    (go : ∀ x v ρ1 G1 H1 L1, Stp G H L G1 H1 L1 → EnvR K κ G1 H1 ρ1 σ L1 → L1.Nodup → Rp K κ G1 v x → PostS K κ Wx σ asg G1 H1 L1 (k x ρ1) E → q v H1) : te Wx σ H q := by
  refine s Wx G H ρ σ L q hG hE hN ?_
  cases h : ev ρ with
  | ok w ρ1 =>
    rw [h] at p
    cases w with
    | d x =>
      intro v G1 H1 Lw L1 st e r nd
      obtain ⟨rfl, r⟩ := r
      exact go x v ρ1 G1 H1 L1 st e nd r (p.trans st)
    | ml _ => exact p.elim
    | md _ => exact p.elim
    | mm _ => exact p.elim
  | exc c f ρ1 =>
    rw [h] at p
    exact fun dd G' H' L' st e n x => p dd σ G' H' L' st e n ⟨rfl, fun _ _ => rfl⟩ x
  | bad => rw [h] at p; exact p.elim
/-- any expression, then the rest of a statement -/
theorem SndE.thenW {te : WX → TE} {ev : Env → R Env W} (s : SndE K κ te ev) {k : W → Env → R Env Flow} {q : VK} {asg : List Nat} {E : Ends} (hG : Ex G H) (hE : EnvR K κ G H ρ σ L) (hN : L.Nodup) (p : PostS K κ Wx σ asg G H L (R.bind (ev ρ) k) E)
    (go : ∀ w v ρ1 G1 H1 Lw L1, Stp G H L G1 H1 (Lw ++ L1) → EnvR K κ G1 H1 ρ1 σ L1 → (Lw ++ L1).Nodup → Rw K κ G1 H1 w v Lw → PostS K κ Wx σ asg G H L (k w ρ1) E → q v H1) : te Wx σ H q := by
  refine s Wx G H ρ σ L q hG hE hN ?_
  cases h : ev ρ with
  | ok w ρ1 =>
    rw [h] at p
    intro v G1 H1 Lw L1 st e r nd
    exact go w v ρ1 G1 H1 Lw L1 st e nd r p
  | exc c f ρ1 =>
    rw [h] at p
    exact fun dd G' H' L' st e n x => p dd σ G' H' L' st e n ⟨rfl, fun _ _ => rfl⟩ x
  | bad => rw [h] at p; exact p.elim
theorem SndT.then {tt : WX → TT} {ev : Env → R Env Bool} (s : SndT K κ tt ev) {k : Bool → Env → R Env β} {q : Bool → Hp → Prop} (hG : Ex G H) (hE : EnvR K κ G H ρ σ L) (hN : L.Nodup) (p : Post K κ Rel Wx σ G H L (R.bind (ev ρ) k) Q)
    (go : ∀ b ρ1 G1 H1 L1, Stp G H L G1 H1 L1 → EnvR K κ G1 H1 ρ1 σ L1 → L1.Nodup → Post K κ Rel Wx σ G1 H1 L1 (k b ρ1) Q → q b H1) : tt Wx σ H q := by
  refine s Wx G H ρ σ L q hG hE hN ?_
  cases h : ev ρ with
  | ok b ρ1 =>
    rw [h] at p
    intro v G1 H1 Lw L1 st e r nd
    obtain ⟨rfl, rfl⟩ := r
    exact go b ρ1 G1 H1 L1 st e nd (p.trans st)
  | exc c f ρ1 => rw [h] at p; exact p
  | bad => rw [h] at p; exact p.elim
theorem SndT.thenS {tt : WX → TT} {ev : Env → R Env Bool} (s : SndT K κ tt ev) {k : Bool → Env → R Env Flow} {q : Bool → Hp → Prop} {asg : List Nat} {E : Ends} (hG : Ex G H) (hE : EnvR K κ G H ρ σ L) (hN : L.Nodup) (p : PostS K κ Wx σ asg G H L (R.bind (ev ρ) k) E)
    (go : ∀ b ρ1 G1 H1 L1, Stp G H L G1 H1 L1 → EnvR K κ G1 H1 ρ1 σ L1 → L1.Nodup → PostS K κ Wx σ asg G1 H1 L1 (k b ρ1) E → q b H1) : tt Wx σ H q := by
  refine s Wx G H ρ σ L q hG hE hN ?_
  cases h : ev ρ with
  | ok b ρ1 =>
    rw [h] at p
    intro v G1 H1 Lw L1 st e r nd
    obtain ⟨rfl, rfl⟩ := r
    exact go b ρ1 G1 H1 L1 st e nd (p.trans st)
  | exc c f ρ1 =>
    rw [h] at p
    exact fun dd G' H' L' st e n x => p dd σ G' H' L' st e n ⟨rfl, fun _ _ => rfl⟩ x
  | bad => rw [h] at p; exact p.elim
/-- data as an answer -/
theorem Post.ret {x : D} {v : V} {q : VK} (p : Post K κ (Rw K κ) Wx σ G H L (.ok (.d x) ρ) q) (u : Stp G H L G' H' L') (e : EnvR K κ G' H' ρ σ L') (n : L'.Nodup) (r : Rp K κ G' v x) : q v H' := p v G' H' [] L' u e ⟨rfl, r⟩ n
theorem Post.of {o : Option D} {v : V} {x : D} {q : VK} (p : Post K κ (Rw K κ) Wx σ G H L (R.of o ρ) q) (h : o = some x) (u : Stp G H L G' H' L') (e : EnvR K κ G' H' ρ σ L') (n : L'.Nodup) (r : Rp K κ G' v x) : q v H' := by
  subst h
  exact Post.ret p u e n r
theorem Post.some {o : Option D} {q : VK} (p : Post K κ (Rw K κ) Wx σ G H L (R.of o ρ) q) : ∃ x, o = some x := by
  cases o with
  | none => exact p.elim
  | some x => exact ⟨x, rfl⟩
theorem fresh {H : Hp} {p : Addr} (e : Ex G H) (h : H p = none) : G p = none := Evl.fresh_back e h
theorem Stp.new {p : Addr} {o : HO} (e : Ex G H) (h : H p = none) : Stp G H L (upd G p o) (upd H p o) L where
  g := Evl.Ex.new (fresh e h)
  h := fun a u q _ _ => Evl.Ex.new h a u q
  t := fun a q => by
    by_cases z : a = p
    · rw [z, upd_same] at q; cases q
    · rw [upd_ne z] at q; exact q
  gn := fun a q _ n => by
    have z : a ≠ p := fun z => q (by rw [z]; exact h)
    rw [upd_ne z]; exact n
  ln := fun _ z => .inl z
  gh := fun a u q => by
    by_cases z : a = p
    · rw [z, upd_same] at q ⊢; exact q
    · rw [upd_ne z] at q ⊢; exact e a u q
  tb := fun P ⟨ps, q, r⟩ => ⟨ps, Evl.Ex.new h P _ q, r⟩
theorem Stp.own {p : Addr} {o : HO} (e : Ex G H) (h : H p = none) : Stp G H L G (upd H p o) ([p] ++ L) where
  g := Evl.Ex.refl G
  h := fun a u q _ _ => Evl.Ex.new h a u q
  t := fun a q => by
    by_cases z : a = p
    · rw [z, upd_same] at q; cases q
    · rw [upd_ne z] at q; exact q
  gn := fun _ _ _ n => n
  ln := fun a z => by
    rcases List.mem_append.mp z with z | z
    · simp only [List.mem_singleton] at z
      exact .inr (by rw [z]; exact h)
    · exact .inl z
  gh := fun a u q => Evl.Ex.new h a u (e a u q)
  tb := fun P ⟨ps, q, r⟩ => ⟨ps, Evl.Ex.new h P _ q, r⟩
/-- a new address is no table's -/
theorem Tb.fresh {p : Addr} {o : HO} (h : H p = none) (t : Tb κ G H) : Tb κ G (upd H p o) := t.both (fun _ _ g => g) fun P _ ⟨ps, q, r⟩ => ⟨ps, Evl.Ex.new h P _ q, r⟩
theorem Tb.new {p : Addr} {o o' : HO} (h : H p = none) (t : Tb κ G H) : Tb κ (upd G p o) (upd H p o') := fun P hP => by
  obtain ⟨⟨ps, q, r⟩, g⟩ := t P hP
  have z : P ≠ p := fun z => by rw [z, h] at q; cases q
  exact ⟨⟨ps, Evl.Ex.new h P _ q, r⟩, by rw [upd_ne z]; exact g⟩
/-- what is no table, written or given away -/
theorem Tb.put {a : Addr} {o : HO} (h : ∀ ps, H a ≠ some (.tbl ps)) (t : Tb κ G H) : Tb κ G (upd H a o) := t.both (fun _ _ g => g) fun P _ ⟨ps, q, r⟩ => ⟨ps, by rw [upd_ne fun z => h ps (by rw [← z]; exact q)]; exact q, r⟩
theorem Tb.give {a : Addr} {o : HO} (h : ∀ ps, H a ≠ some (.tbl ps)) (t : Tb κ G H) : Tb κ (upd G a o) H := fun P hP => by
  obtain ⟨⟨ps, q, r⟩, g⟩ := t P hP
  exact ⟨⟨ps, q, r⟩, by rw [upd_ne fun z => h ps (by rw [← z]; exact q)]; exact g⟩
theorem tab_put {a : Addr} {o : HO} (h : ∀ ps, H a ≠ some (.tbl ps)) : ∀ P, GxR.TabG H P → GxR.TabG (upd H a o) P := fun P ⟨ps, q, r⟩ => ⟨ps, by rw [upd_ne fun z => h ps (by rw [← z]; exact q)]; exact q, r⟩
theorem EnvR.new {p : Addr} {o : HO} (e : Ex G H) (h : H p = none) (r : EnvR K κ G H ρ σ L) : EnvR K κ (upd G p o) (upd H p o) ρ σ L :=
  r.keep (Evl.Ex.new (fresh e h)) (fun a z => by
    have q : a ≠ p := fun q => (r.there a z).1 (by rw [q]; exact h)
    rw [upd_ne q]; exact (r.there a z).2) (fun a z u q => Evl.Ex.new h a u q) fun t => t.new h
theorem EnvR.ownNew {p : Addr} {o : HO} (h : H p = none) (r : EnvR K κ G H ρ σ L) : EnvR K κ G (upd H p o) ρ σ L :=
  r.keep (Evl.Ex.refl G) (fun a z => (r.there a z).2) (fun a z u q => Evl.Ex.new h a u q) fun t => t.fresh h
theorem own_nodup {p : Addr} (h : H p = none) (r : EnvR K κ G H ρ σ L) (n : L.Nodup) : ([p] ++ L).Nodup := by
  refine List.nodup_append.mpr ⟨by simp, n, fun a ha b hb e => ?_⟩
  simp only [List.mem_singleton] at ha
  subst ha e
  exact (r.there a hb).1 h
/-- an owned object written: i's -/
theorem EnvR.data {i : Nat} {x : D} (r : EnvR K κ G H ρ σ L) (e : ρ[i]? = some (some (.d x))) : ∃ v, σ[i]? = some (some v) ∧ Rp K κ G v x := by
  obtain ⟨v, A, B, C, h1, _, h3, _⟩ := r.at e
  exact ⟨v, h1, h3.2⟩
/-- an owned list of slot i, as it stands; changed; given away -/
theorem EnvR.list {i : Nat} {xs : List D} (hG : Ex G H) (r : EnvR K κ G H ρ σ L) (nd : L.Nodup) (e : ρ[i]? = some (some (.ml xs))) :
    ∃ a vs, σ[i]? = some (some (.ref a)) ∧ G a = none ∧ H a = some (.lst vs) ∧ RpAll K κ G vs xs ∧ a ∈ L ∧
      (∀ us ys, RpAll K κ G us ys → Stp G H L G (upd H a (.lst us)) L ∧ EnvR K κ G (upd H a (.lst us)) (ρ.set i (some (.ml ys))) σ L) ∧
      (∃ L', Stp G H L (upd G a (.lst vs)) H L' ∧ EnvR K κ (upd G a (.lst vs)) H (ρ.set i (some (.d (.lst xs)))) σ L' ∧ L'.Nodup) := by
  obtain ⟨v, A, B, C, h1, h2, h3, h4⟩ := r.at e
  obtain ⟨a, vs, rfl, rfl, g, h, q⟩ := h3
  subst h2
  have hi : σ.set i (some (.ref a)) = σ := by
    obtain ⟨hl, e1⟩ := List.getElem?_eq_some_iff.mp h1
    rw [← e1]; exact List.set_getElem_self hl
  have nd1 := List.nodup_append.mp nd
  have nd2 := List.nodup_append.mp nd1.1
  have ne : ∀ b ∈ A ++ C, b ≠ a := fun b hb z => by
    subst z
    rcases List.mem_append.mp hb with hb | hb
    · exact nd2.2.2 b hb b (by simp) rfl
    · exact nd1.2.2 b (by simp) b hb rfl
  have there := r.there
  have nt : ∀ ps, H a ≠ some (.tbl ps) := fun ps z => by rw [h] at z; cases z
  refine ⟨a, vs, h1, g, h, q, by simp, fun us ys qu => ⟨⟨Evl.Ex.refl G, fun b o p n _ => ?_, fun b p => ?_, fun _ _ _ n => n, fun _ z => .inl z, fun b o p => ?_, tab_put nt⟩, ?_⟩, A ++ C, ⟨Evl.Ex.new g, fun _ _ p _ _ => p, fun _ p => p, fun b p n z => ?_, fun b z => ?_, fun b o p => ?_, fun _ z => z⟩, ?_, ?_⟩
  · have z : b ≠ a := fun z => n (by rw [z]; simp)
    rw [upd_ne z]; exact p
  · by_cases z : b = a
    · rw [z, upd_same] at p; cases p
    · rw [upd_ne z] at p; exact p
  · have z : b ≠ a := fun z => by rw [z, g] at p; cases p
    rw [upd_ne z]; exact hG b o p
  · have := h4 G (upd H a (.lst us)) (.ml ys) (.ref a) [a] (Evl.Ex.refl G) (fun b hb => (there b (by
      rcases List.mem_append.mp hb with hb | hb <;> simp [hb])).2) (fun b hb o p => by rw [upd_ne (ne b hb)]; exact p) (fun t => t.put nt) ⟨a, us, rfl, rfl, g, upd_same, qu⟩
    rw [hi] at this
    exact this
  · have q : b ≠ a := fun q => n (by rw [q]; simp)
    rw [upd_ne q]; exact z
  · left
    rcases List.mem_append.mp z with z | z <;> simp [z]
  · by_cases z : b = a
    · rw [z, upd_same] at p
      rw [z, h]; exact p
    · rw [upd_ne z] at p; exact hG b o p
  · have := h4 (upd G a (.lst vs)) H (.d (.lst xs)) (.ref a) [] (Evl.Ex.new g) (fun b hb => by
      rw [upd_ne (ne b hb)]
      exact (there b (by rcases List.mem_append.mp hb with hb | hb <;> simp [hb])).2) (fun b hb o p => p) (fun t => t.give nt) ⟨rfl, .lst (SqL.of upd_same) (q.mono (Evl.Ex.new g))⟩
    rw [hi] at this
    simpa using this
  · refine List.nodup_append.mpr ⟨nd2.1, nd1.2.1, fun x hx y hy => nd1.2.2 x (List.mem_append_left _ hx) y hy⟩
end
end Pv
set_option maxRecDepth 100000
set_option maxHeartbeats 2000000
namespace Pv
open PySem PySem.Spec PyProof.Rows L2
section
variable {K : PySem.W.Frag} {κ : Cls} {G H G' H' G1 H1 G2 H2 : Hp} {L L' L1 L2 A B C : List Addr} {ρ ρ' ρ1 : Env} {σ σ' : St}
theorem Stp.wide (u : Stp G H B G' H' C) (hB : ∀ a ∈ B, a ∈ L) (hC : ∀ a ∈ L', a ∈ C ∨ a ∈ L) : Stp G H L G' H' L' where
  g := u.g
  h := fun a o e n nt => u.h a o e (fun z => n (hB a z)) nt
  t := u.t
  gn := fun a e n q => u.gn a e (fun z => n (hB a z)) q
  ln := fun a z => (hC a z).elim (fun q => (u.ln a q).elim (fun r => .inl (hB a r)) .inr) .inl
  gh := u.gh
  tb := u.tb
theorem Stp.grow (u : Stp G H [] G' H' []) : Stp G H L G' H' L := u.wide (fun _ z => nomatch z) fun _ z => .inr z
theorem EnvR.grow (r : EnvR K κ G H ρ σ L) (u : Stp G H [] G' H' []) : EnvR K κ G' H' ρ σ L := r.stp u (fun _ _ z => nomatch z) fun _ _ z => nomatch z
theorem EnvR.take : ∀ {ρ : Env} {σ : St} {L : List Addr} {i : Nat} {w : W}, EnvR K κ G H ρ σ L → L.Nodup → ρ[i]? = some (some w) →
    ∃ v B L', σ[i]? = some (some v) ∧ Rw K κ G H w v B ∧ EnvR K κ G H (ρ.set i none) σ L' ∧ (B ++ L').Nodup ∧ ∀ a ∈ B ++ L', a ∈ L
  | none :: ρ, v :: σ, L, i + 1, w, r, nd, e => by
    obtain ⟨u, B, L', h1, h2, h3, h4, h5⟩ := EnvR.take (ρ := ρ) (σ := σ) (i := i) r nd (by simpa using e)
    exact ⟨u, B, L', by simpa using h1, h2, h3, h4, h5⟩
  | some x :: ρ, some v :: σ, L, 0, w, ⟨L1, L2, e', r, q⟩, nd, e => by
    have e1 : x = w := by simpa using e
    subst e1
    subst e'
    exact ⟨v, L1, L2, rfl, r, q, nd, fun _ z => z⟩
  | some x :: ρ, some v :: σ, L, i + 1, w, ⟨L1, L2, e', r, q⟩, nd, e => by
    subst e'
    have nda := List.nodup_append.mp nd
    obtain ⟨u, B, L', h1, h2, h3, h4, h5⟩ := EnvR.take q (i := i) nda.2.1 (by simpa using e)
    have ndb := List.nodup_append.mp h4
    refine ⟨u, B, L1 ++ L', by simpa using h1, h2, ⟨L1, L', rfl, r, h3⟩, ?_, fun a z => ?_⟩
    · refine List.nodup_append.mpr ⟨ndb.1, List.nodup_append.mpr ⟨nda.1, ndb.2.1, fun a ha b hb => nda.2.2 a ha b (h5 b (List.mem_append_right _ hb))⟩, fun a ha b hb => ?_⟩
      rcases List.mem_append.mp hb with hb | hb
      · exact Ne.symm (nda.2.2 b hb a (h5 a (List.mem_append_left _ ha)))
      · exact ndb.2.2 a ha b hb
    · rcases List.mem_append.mp z with z | z
      · exact List.mem_append_right _ (h5 a (List.mem_append_left _ z))
      · rcases List.mem_append.mp z with z | z
        · exact List.mem_append_left _ z
        · exact List.mem_append_right _ (h5 a (List.mem_append_right _ z))
theorem set_same {σ : St} {i : Nat} {v : V} (h : σ[i]? = some (some v)) : σ.set i (some v) = σ := by
  obtain ⟨hl, e1⟩ := List.getElem?_eq_some_iff.mp h
  rw [← e1]; exact List.set_getElem_self hl
/-- the things that are handed to a call, out of the slots; and back -/
def pull : List Arg → Env → Option (List W × Env)
  | [], ρ => some ([], ρ)
  | .a x :: as, ρ => match pull as ρ with
    | some (ws, ρ') => some (.d x :: ws, ρ')
    | none => none
  | .m j :: as, ρ => match ρ[j]? with
    | some (some w) => match pull as (ρ.set j none) with
      | some (ws, ρ') => some (w :: ws, ρ')
      | none => none
    | _ => none
def push : List Arg → List W → Env → Env
  | .a _ :: as, _ :: ws, ρ => push as ws ρ
  | .m j :: as, w :: ws, ρ => push as ws (ρ.set j (some w))
  | _, _, ρ => ρ
theorem pull_ok : ∀ {as : List Arg} {vs : List V} {ρ ρ' : Env} {ws : List W} {L : List Addr}, EnvR K κ G H ρ σ L → L.Nodup → ArgsR K κ σ G as vs → pull as ρ = some (ws, ρ') →
    ∃ B L', RwAll K κ G H ws vs B ∧ EnvR K κ G H ρ' σ L' ∧ (B ++ L').Nodup ∧ ∀ a ∈ B ++ L', a ∈ L
  | [], [], ρ, ρ', ws, L, r, nd, _, e => by
    simp only [pull, Option.some.injEq, Prod.mk.injEq] at e
    obtain ⟨rfl, rfl⟩ := e
    exact ⟨[], L, rfl, r, nd, fun _ z => z⟩
  | .a x :: as, v :: vs, ρ, ρ', ws, L, r, nd, ⟨q, qs⟩, e => by
    simp only [pull] at e
    cases h : pull as ρ with
    | none => rw [h] at e; cases e
    | some p =>
      obtain ⟨ws1, ρ1⟩ := p
      rw [h] at e
      simp only [Option.some.injEq, Prod.mk.injEq] at e
      obtain ⟨rfl, rfl⟩ := e
      obtain ⟨B, L', h1, h2, h3, h4⟩ := pull_ok r nd qs h
      exact ⟨B, L', ⟨[], B, rfl, ⟨rfl, q⟩, h1⟩, h2, h3, h4⟩
  | .m j :: as, v :: vs, ρ, ρ', ws, L, r, nd, ⟨q, qs⟩, e => by
    simp only [pull] at e
    cases hj : ρ[j]? with
    | none => rw [hj] at e; cases e
    | some o =>
      cases o with
      | none => rw [hj] at e; cases e
      | some w =>
        rw [hj] at e
        simp only at e
        cases h : pull as (ρ.set j none) with
        | none => rw [h] at e; cases e
        | some p =>
          obtain ⟨ws1, ρ1⟩ := p
          rw [h] at e
          simp only [Option.some.injEq, Prod.mk.injEq] at e
          obtain ⟨rfl, rfl⟩ := e
          obtain ⟨u, B, L1, h1, h2, h3, h4, h5⟩ := r.take nd hj
          rw [h1] at q
          simp only [Option.some.injEq] at q
          subst q
          have ndb := List.nodup_append.mp h4
          obtain ⟨B2, L2, k1, k2, k3, k4⟩ := pull_ok h3 ndb.2.1 qs h
          refine ⟨B ++ B2, L2, ⟨B, B2, rfl, h2, k1⟩, k2, ?_, fun a z => ?_⟩
          · rw [List.append_assoc]
            exact List.nodup_append.mpr ⟨ndb.1, k3, fun a ha b hb => ndb.2.2 a ha b (k4 b hb)⟩
          · rw [List.append_assoc] at z
            rcases List.mem_append.mp z with z | z
            · exact h5 a (List.mem_append_left _ z)
            · exact h5 a (List.mem_append_right _ (k4 a z))
  | [], _ :: _, _, _, _, _, _, _, q, _ => q.elim
  | .a _ :: _, [], _, _, _, _, _, _, q, _ => q.elim
  | .m _ :: _, [], _, _, _, _, _, _, q, _ => q.elim
theorem push_ok : ∀ {as : List Arg} {vs : List V} {ρ : Env} {ws : List W} {B L : List Addr}, EnvR K κ G H ρ σ L → RwAll K κ G H ws vs B → (B ++ L).Nodup → ArgsR K κ σ G2 as vs →
    ∃ L', EnvR K κ G H (push as ws ρ) σ L' ∧ L'.Nodup ∧ ∀ a ∈ L', a ∈ B ++ L
  | [], [], ρ, [], B, L, r, q, nd, _ => ⟨L, r, (List.nodup_append.mp nd).2.1, fun a z => List.mem_append_right _ z⟩
  | .a x :: as, v :: vs, ρ, w :: ws, _, L, r, ⟨B1, B2, e, q, qs⟩, nd, ⟨_, ps⟩ => by
    subst e
    have nd2 : (B2 ++ L).Nodup := nd.sublist (List.Sublist.append_right (List.sublist_append_right _ _) _)
    obtain ⟨L', h1, h2, h3⟩ := push_ok r qs nd2 ps
    refine ⟨L', h1, h2, fun a z => ?_⟩
    rcases List.mem_append.mp (h3 a z) with z | z <;> simp [z]
  | .m j :: as, v :: vs, ρ, w :: ws, _, L, r, ⟨B1, B2, e, q, qs⟩, nd, ⟨p, ps⟩ => by
    subst e
    have hj : j < ρ.length := by
      rw [r.length]
      exact (List.getElem?_eq_some_iff.mp p).1
    have nd1 : (B1 ++ L).Nodup := nd.sublist (List.Sublist.append_right (List.sublist_append_left _ _) _)
    obtain ⟨L1, h1, h2, h3⟩ := r.put j q nd1 hj
    rw [set_same p] at h1
    have nda := List.nodup_append.mp nd
    have ndb := List.nodup_append.mp nda.1
    have nd2 : (B2 ++ L1).Nodup := List.nodup_append.mpr ⟨ndb.2.1, h2, fun a ha b hb => by
      rcases List.mem_append.mp (h3 b hb) with z | z
      · exact Ne.symm (ndb.2.2 b z a ha)
      · exact nda.2.2 a (List.mem_append_right _ ha) b z⟩
    obtain ⟨L', k1, k2, k3⟩ := push_ok h1 qs nd2 ps
    refine ⟨L', k1, k2, fun a z => ?_⟩
    rcases List.mem_append.mp (k3 a z) with z | z
    · simp [z]
    · rcases List.mem_append.mp (h3 a z) with z | z <;> simp [z]
  | [], _ :: _, _, _, _, _, _, _, _, q => q.elim
  | .a _ :: _, [], _, _, _, _, _, _, _, q => q.elim
  | .m _ :: _, [], _, _, _, _, _, _, _, q => q.elim
  | [], [], _, _ :: _, _, _, _, q, _, _ => q.elim
  | .a _ :: _, _ :: _, _, [], _, _, _, q, _, _ => q.elim
  | .m _ :: _, _ :: _, _, [], _, _, _, q, _, _ => q.elim
end
section
variable (K : PySem.W.Frag) (κ : Cls)
def PostF (G H : Hp) (L : List Addr) (vs : List V) (r : R (List W) W) (Q : VK) (E : XK) : Prop := match r with
  | .ok w ws => ∀ v G' H' Lw L', Stp G H L G' H' (Lw ++ L') → RwAll K κ G' H' ws vs L' → Rw K κ G' H' w v Lw → (Lw ++ L').Nodup → Q v H'
  | .exc k f ws => ∀ dd G' H' L', Stp G H L G' H' L' → RwAll K κ G' H' ws vs L' → L'.Nodup → ExF K κ G' k f dd → E (.ref (κ.at_ k)) dd H'
  | .bad => False
/-- the promise «f, on the data» -/
def spF (n : Nat) (f : Fn) : Sp := fun vs H Q E => ∃ G L ws, vs.length = n ∧ Ex G H ∧ RwAll K κ G H ws vs L ∧ L.Nodup ∧ Tb κ G H ∧ PostF K κ G H L vs (f ws) Q E
/-- what a call's arguments, pulled, come to -/
def callOn (f : Fn) (as : List Arg) (ρ : Env) : R Env W := match pull as ρ with
  | some (ws, ρ') => match f ws with
    | .ok w ws' => .ok w (push as ws' ρ')
    | .exc k x ws' => .exc k x (push as ws' ρ')
    | .bad => .bad
  | none => .bad
end
section
variable {K : PySem.W.Frag} {κ : Cls}
theorem RwAll.ntb {G H : Hp} : ∀ {ws : List W} {vs : List V} {L : List Addr}, RwAll K κ G H ws vs L → ∀ a ∈ L, ∀ o, H a = some o → NoTab o
  | [], [], _, r => by
    have e := (show _ = [] from r)
    subst e
    intro a z; cases z
  | _ :: _, _ :: _, _, ⟨_, _, e, h, q⟩ => by
    subst e
    intro a z
    exact (List.mem_append.mp z).elim (h.ntb a) (RwAll.ntb q a)
theorem RwAll.length {G H : Hp} : ∀ {ws : List W} {vs : List V} {L : List Addr}, RwAll K κ G H ws vs L → ws.length = vs.length
  | [], [], _, _ => rfl
  | _ :: _, _ :: _, _, ⟨_, _, _, _, q⟩ => congrArg (· + 1) (RwAll.length q)
theorem ArgsR.length {G : Hp} {σ : St} : ∀ {as : List Arg} {vs : List V}, ArgsR K κ σ G as vs → as.length = vs.length
  | [], [], _ => rfl
  | .a _ :: _, _ :: _, ⟨_, q⟩ => congrArg (· + 1) (ArgsR.length q)
  | .m _ :: _, _ :: _, ⟨_, q⟩ => congrArg (· + 1) (ArgsR.length q)
theorem ArgsR.mono {G G' : Hp} {σ : St} (e : Ex G G') : ∀ {as : List Arg} {vs : List V}, ArgsR K κ σ G as vs → ArgsR K κ σ G' as vs
  | [], [], _ => trivial
  | .a _ :: _, _ :: _, ⟨p, q⟩ => ⟨p.mono e, ArgsR.mono e q⟩
  | .m _ :: _, _ :: _, ⟨p, q⟩ => ⟨p, ArgsR.mono e q⟩
/-- a call by its promise -/
theorem call_ok {Wx : WX} {σ : St} {G H : Hp} {L : List Addr} {ρ : Env} {n : Nat} {f : Fn} {as : List Arg} {vs : List V} {Q : VK} (hG : Ex G H) (hE : EnvR K κ G H ρ σ L) (hN : L.Nodup) (ha : ArgsR K κ σ G as vs) (hn : as.length = n)
    (p : Post K κ (Rw K κ) Wx σ G H L (callOn f as ρ) Q) : spF K κ n f vs H Q (WE Wx σ) := by
  unfold callOn at p
  cases hp : pull as ρ with
  | none => rw [hp] at p; exact p.elim
  | some pr =>
    obtain ⟨ws, ρ'⟩ := pr
    rw [hp] at p
    obtain ⟨B, L', h1, h2, h3, h4⟩ := pull_ok hE hN ha hp
    have ndb := List.nodup_append.mp h3
    refine ⟨G, B, ws, by rw [← ha.length]; exact hn, hG, h1, ndb.1, hE.tb, ?_⟩
    have mT : ∀ P ∈ κ.tabs, P ∉ B := fun P hP z => by
      obtain ⟨⟨ps, q, _⟩, _⟩ := hE.tb P hP
      exact h1.ntb P z _ q ps rfl
    have dj : ∀ a ∈ L', a ∉ B := fun a z q => ndb.2.2 a q a z rfl
    simp only at p
    cases hf : f ws with
    | ok w ws' =>
      rw [hf] at p
      intro v G' H' Lw M u r rw' nd
      have h2' := h2.stp u dj mT
      have ndw := List.nodup_append.mp nd
      have out : ∀ a ∈ Lw ++ M, a ∉ L' := fun a z q => by
        rcases u.ln a z with t | t
        · exact ndb.2.2 a t a q rfl
        · exact (h2.there a q).1 t
      have nd2 : (M ++ L').Nodup := List.nodup_append.mpr ⟨ndw.2.1, ndb.2.1, fun a x b y e => by
        subst e
        exact out a (List.mem_append_right _ x) y⟩
      obtain ⟨L2, k1, k2, k3⟩ := push_ok h2' r nd2 ha
      refine p v G' H' Lw L2 (u.wide (fun a z => h4 a (List.mem_append_left _ z)) fun a z => ?_) k1 rw' (List.nodup_append.mpr ⟨ndw.1, k2, fun a x b y e => ?_⟩)
      · rcases List.mem_append.mp z with z | z
        · exact .inl (List.mem_append_left _ z)
        · rcases List.mem_append.mp (k3 a z) with z | z
          · exact .inl (List.mem_append_right _ z)
          · exact .inr (h4 a (List.mem_append_right _ z))
      · subst e
        rcases List.mem_append.mp (k3 a y) with z | z
        · exact ndw.2.2 a x a z rfl
        · exact out a (List.mem_append_left _ x) z
    | exc k x ws' =>
      rw [hf] at p
      intro dd G' H' M u r nd hx
      have h2' := h2.stp u dj mT
      have out : ∀ a ∈ M, a ∉ L' := fun a z q => by
        rcases u.ln a z with t | t
        · exact ndb.2.2 a t a q rfl
        · exact (h2.there a q).1 t
      have nd2 : (M ++ L').Nodup := List.nodup_append.mpr ⟨nd, ndb.2.1, fun a x b y e => by
        subst e
        exact out a x y⟩
      obtain ⟨L2, k1, k2, k3⟩ := push_ok h2' r nd2 ha
      refine p dd G' H' L2 (u.wide (fun a z => h4 a (List.mem_append_left _ z)) fun a z => ?_) k1 k2 hx
      rcases List.mem_append.mp (k3 a z) with z | z
      · exact .inl z
      · exact .inr (h4 a (List.mem_append_right _ z))
    | bad => rw [hf] at p; exact p.elim
/-- the slots at a def's entry -/
def begun (n : Nat) (ws : List W) : Env := ws.map some ++ List.replicate (n - ws.length) none
/-- what a def leaves of what was handed to it: data as it was, the rest as its slot tells -/
def left (asg : List Nat) (ρ : Env) : Nat → List W → Option (List W)
  | _, [] => some []
  | i, w :: ws => match w with
    | .d x => match left asg ρ (i + 1) ws with
      | some us => some (.d x :: us)
      | none => none
    | _ => if asg.contains i = true then none else match ρ[i]? with
      | some (some w') => match left asg ρ (i + 1) ws with
        | some us => some (w' :: us)
        | none => none
      | _ => none
/-- a def's body as a function -/
def fnOf (n : Nat) (asg : List Nat) (sv : Env → R Env Flow) : Fn := fun ws => match sv (begun n ws) with
  | .ok .nx ρ => match left asg ρ 0 ws with
    | some us => .ok (.d .non) us
    | none => .bad
  | .ok (.rt w) ρ => match left asg ρ 0 ws with
    | some us => .ok w us
    | none => .bad
  | .exc k x ρ => match left asg ρ 0 ws with
    | some us => .exc k x us
    | none => .bad
  | _ => .bad
theorem begun_ok {G H : Hp} : ∀ {ws : List W} {vs : List V} {L : List Addr} (m : Nat), Tb κ G H → RwAll K κ G H ws vs L → EnvR K κ G H (ws.map some ++ List.replicate m none) (vs.map some ++ List.replicate m none) L
  | [], [], L, m, t, r => by
    have e : L = [] := r
    subst e
    show EnvR K κ G H (List.replicate m none) (List.replicate m none) []
    induction m with
    | zero => exact ⟨rfl, t⟩
    | succ m ih => exact ih
  | w :: ws, v :: vs, L, m, t, ⟨L1, L2, e, h, q⟩ => ⟨L1, L2, e, h, begun_ok m t q⟩
theorem left_set {asg : List Nat} {x : Option W} : ∀ {ws : List W} {ρ : Env} {i k : Nat}, k < i → left asg (ρ.set k x) i ws = left asg ρ i ws
  | [], _, _, _, _ => rfl
  | w :: ws, ρ, i, k, h => by
    have e1 : left asg (ρ.set k x) (i + 1) ws = left asg ρ (i + 1) ws := left_set (by omega)
    have e2 : (ρ.set k x)[i]? = ρ[i]? := List.getElem?_set_ne (by omega)
    cases w <;> simp only [left, e1, e2]
theorem left_ok {G0 H0 G H : Hp} {asg : List Nat} {σ : St} (g : Ex G0 G) : ∀ {ws : List W} {vs : List V} {L0 : List Addr} {i : Nat} {ρ : Env} {L : List Addr} {us : List W}, RwAll K κ G0 H0 ws vs L0 → EnvR K κ G H ρ σ L → L.Nodup →
    (∀ (j : Nat) (v : V), vs[j]? = some v → i + j ∉ asg → σ[i + j]? = some (some v)) → left asg ρ i ws = some us → ∃ M, RwAll K κ G H us vs M ∧ M.Nodup ∧ ∀ a ∈ M, a ∈ L
  | [], [], _, i, ρ, L, us, _, _, _, _, e => by
    simp only [left, Option.some.injEq] at e
    subst e
    exact ⟨[], rfl, .nil, fun _ z => nomatch z⟩
  | w :: ws, v :: vs, _, i, ρ, L, us, ⟨B1, B2, _, h, q⟩, r, nd, k, e => by
    have k' : ∀ (j : Nat) (v' : V), vs[j]? = some v' → (i + 1) + j ∉ asg → σ[(i + 1) + j]? = some (some v') := fun j v' h1 h2 => by
      have := k (j + 1) v' (by simpa using h1)
      rw [show i + (j + 1) = (i + 1) + j by omega] at this
      exact this h2
    have own : (∀ x, w ≠ .d x) → (if asg.contains i = true then none else match ρ[i]? with
      | some (some w') => match left asg ρ (i + 1) ws with
        | some us => some (w' :: us)
        | none => none
      | _ => none) = some us → ∃ M, RwAll K κ G H us (v :: vs) M ∧ M.Nodup ∧ ∀ a ∈ M, a ∈ L := fun _ e => by
      by_cases hi : asg.contains i = true
      · rw [if_pos hi] at e; cases e
      · rw [if_neg hi] at e
        have hi' : i ∉ asg := fun z => hi (List.contains_iff_mem.mpr z)
        cases hj : ρ[i]? with
        | none => rw [hj] at e; cases e
        | some o =>
          cases o with
          | none => rw [hj] at e; cases e
          | some w' =>
            rw [hj] at e
            simp only at e
            cases hl : left asg ρ (i + 1) ws with
            | none => rw [hl] at e; cases e
            | some us' =>
              rw [hl] at e
              simp only [Option.some.injEq] at e
              subst e
              obtain ⟨u, B, L1, h1, h2, h3, h4, h5⟩ := r.take nd hj
              have hv := k 0 v rfl (by simpa using hi')
              rw [Nat.add_zero, h1] at hv
              simp only [Option.some.injEq] at hv
              subst hv
              have ndb := List.nodup_append.mp h4
              obtain ⟨M, m1, m2, m3⟩ := left_ok g (i := i + 1) (ρ := ρ.set i none) q h3 ndb.2.1 k' (by rw [left_set (by omega)]; exact hl)
              refine ⟨B ++ M, ⟨B, M, rfl, h2, m1⟩, List.nodup_append.mpr ⟨ndb.1, m2, fun a x b y => ndb.2.2 a x b (m3 b y)⟩, fun a z => ?_⟩
              rcases List.mem_append.mp z with z | z
              · exact h5 a (List.mem_append_left _ z)
              · exact h5 a (List.mem_append_right _ (m3 a z))
    cases w with
    | d x =>
      simp only [left] at e
      cases hl : left asg ρ (i + 1) ws with
      | none => rw [hl] at e; cases e
      | some us' =>
        rw [hl] at e
        simp only [Option.some.injEq] at e
        subst e
        obtain ⟨M, h1, h2, h3⟩ := left_ok g q r nd k' hl
        exact ⟨M, ⟨[], M, rfl, ⟨rfl, h.2.mono g⟩, h1⟩, h2, h3⟩
    | ml xs => exact own (fun x z => nomatch z) (by simpa only [left] using e)
    | md xs => exact own (fun x z => nomatch z) (by simpa only [left] using e)
    | mm z => exact own (fun x z => nomatch z) (by simpa only [left] using e)
/-- THE RULE: a body's reading, from its function -/
theorem fn_ok {ts : WX → TS} {sv : Env → R Env Flow} {asg : List Nat} (s : SndS K κ ts sv asg) {N : List Str} {n : Nat} {vs : List V} {H : Hp} {Q : VK} {E : XK} (hn : n ≤ N.length) (h : spF K κ n (fnOf N.length asg sv) vs H Q E) :
    ts (fun cls d _ H' => E cls d H') { nx := fun _ H' => Q .non H', rt := Q } (L2.start N vs) H := by
  obtain ⟨G, L, ws, hl, hG, hR, hN, hT, p⟩ := h
  have hw := hR.length
  have hE : EnvR K κ G H (begun N.length ws) (L2.start N vs) L := by
    unfold begun L2.start
    rw [hw]
    exact begun_ok _ hT hR
  have st0 : ∀ (j : Nat) (v : V), vs[j]? = some v → (L2.start N vs)[j]? = some (some v) := fun j v e => by
    unfold L2.start
    obtain ⟨hj, e'⟩ := List.getElem?_eq_some_iff.mp e
    rw [List.getElem?_append_left (by simpa using hj), List.getElem?_map, e]
    rfl
  refine s _ G H (begun N.length ws) (L2.start N vs) L _ hG hE hN ?_
  unfold fnOf at p
  cases hs : sv (begun N.length ws) with
  | ok fl ρ =>
    rw [hs] at p
    cases fl with
    | nx =>
      intro σ' G' H' L' u e nd kp
      simp only at p
      cases hf : left asg ρ 0 ws with
      | none => rw [hf] at p; exact p.elim
      | some us =>
        rw [hf] at p
        obtain ⟨M, m1, m2, m3⟩ := left_ok u.g hR e nd (fun j v h1 h2 => by
          rw [Nat.zero_add] at h2 ⊢
          rw [kp.2 j h2]
          exact st0 j v h1) hf
        exact p .non G' H' [] M (u.sub m3) m1 ⟨rfl, .non⟩ m2
    | rt w =>
      intro v σ' G' H' Lw L' u e rw' nd kp
      simp only at p
      cases hf : left asg ρ 0 ws with
      | none => rw [hf] at p; exact p.elim
      | some us =>
        rw [hf] at p
        have ndb := List.nodup_append.mp nd
        obtain ⟨M, m1, m2, m3⟩ := left_ok u.g hR e ndb.2.1 (fun j v h1 h2 => by
          rw [Nat.zero_add] at h2 ⊢
          rw [kp.2 j h2]
          exact st0 j v h1) hf
        refine p v G' H' Lw M (u.sub fun a z => ?_) m1 rw' (List.nodup_append.mpr ⟨ndb.1, m2, fun a x b y => ndb.2.2 a x b (m3 b y)⟩)
        rcases List.mem_append.mp z with z | z
        · exact List.mem_append_left _ z
        · exact List.mem_append_right _ (m3 a z)
    | bk => exact p.elim
    | ct => exact p.elim
  | exc k x ρ =>
    rw [hs] at p
    intro dd σ' G' H' L' u e nd kp hx
    simp only at p
    cases hf : left asg ρ 0 ws with
    | none => rw [hf] at p; exact p.elim
    | some us =>
      rw [hf] at p
      obtain ⟨M, m1, m2, m3⟩ := left_ok u.g hR e nd (fun j v h1 h2 => by
        rw [Nat.zero_add] at h2 ⊢
        rw [kp.2 j h2]
        exact st0 j v h1) hf
      exact p dd G' H' M (u.sub m3) m1 m2 hx
  | bad => rw [hs] at p; exact p.elim
end
end Pv
set_option maxRecDepth 100000
set_option maxHeartbeats 2000000
namespace Pv
open PySem PySem.Spec PyProof.Rows L2
section
variable {K : PySem.W.Frag} {κ : Cls}
/-- the name in slot i; a list that it owns is from then on known (and never changed) -/
def evV (i : Nat) : Env → R Env W := fun ρ => match ρ[i]? with
  | some (some (.d x)) => .ok (.d x) ρ
  | some (some (.ml xs)) => .ok (.d (.lst xs)) (ρ.set i (some (.d (.lst xs))))
  | _ => .bad
def eV (i : Nat) : SE K κ where
  te := fun _ => tVar i
  ev := evV i
  ok := fun Wx G H ρ σ L Q hG hE hN p => by
    unfold evV at p
    split at p
    · rename_i x h
      obtain ⟨v, h1, h2⟩ := hE.data h
      exact ⟨v, h1, p.ret (.refl hG) hE hN h2⟩
    · rename_i xs h
      obtain ⟨a, vs, h1, h2, h3, h4, h5, _, L', u, e, nd⟩ := hE.list hG hN h
      exact ⟨_, h1, p.ret u e nd (.lst (SqL.of upd_same) (h4.mono (Evl.Ex.new h2)))⟩
    · exact p.elim
def eC (x : D) (v : V) (r : ∀ G, Rp K κ G v x) : SE K κ where
  te := fun _ => tC v
  ev := fun ρ => .ok (.d x) ρ
  ok := fun Wx G H ρ σ L Q hG hE hN p => p.ret (.refl hG) hE hN (r G)
def eInt (i : Int) : SE K κ := eC (.int i) (.int i) fun _ => .int i
def eStr (s : Str) : SE K κ := eC (.str s) (.str s) fun _ => .str s
def eBl (b : Bool) : SE K κ := eC (.bl b) (.bl b) fun _ => .bl b
def eNon : SE K κ := eC .non .non fun _ => .non
def OpS (K : PySem.W.Frag) (κ : Cls) (r : R2) (g : D → D → Option D) : Prop := ∀ (G H : Hp) (vx vy : V) (x y z : D) (Q : VK), Ex G H → Rp K κ G vx x → Rp K κ G vy y → g x y = some z →
  (∀ v G' H', Stp G H [] G' H' [] → Rp K κ G' v z → Q v H') → r vx vy H Q
def UnS (K : PySem.W.Frag) (κ : Cls) (r : V → Hp → VK → Prop) (g : D → Option D) : Prop := ∀ (G H : Hp) (vx : V) (x z : D) (Q : VK), Ex G H → Rp K κ G vx x → g x = some z →
  (∀ v G' H', Stp G H [] G' H' [] → Rp K κ G' v z → Q v H') → r vx H Q
def eOp (r : R2) (g : D → D → Option D) (h : OpS K κ r g) (a b : SE K κ) : SE K κ where
  te := fun Wx => tOp r (a.te Wx) (b.te Wx)
  ev := fun ρ => (a.ev ρ).bindD fun x ρ => (b.ev ρ).bindD fun y ρ => R.of (g x y) ρ
  ok := fun Wx G H ρ σ L Q hG hE hN p => a.ok.then hG hE hN p fun x vx ρ1 G1 H1 L1 u1 e1 n1 r1 p => b.ok.then u1.gh e1 n1 p fun y vy ρ2 G2 H2 L2 u2 e2 n2 r2 p => by
    obtain ⟨z, hz⟩ := p.some
    exact h G2 H2 vx vy x y z Q u2.gh (r1.mono u2.g) r2 hz fun v G' H' u rz => p.of hz u.grow (e2.grow u) n2 rz
def eUn (r : V → Hp → VK → Prop) (g : D → Option D) (h : UnS K κ r g) (a : SE K κ) : SE K κ where
  te := fun Wx => tUn r (a.te Wx)
  ev := fun ρ => (a.ev ρ).bindD fun x ρ => R.of (g x) ρ
  ok := fun Wx G H ρ σ L Q hG hE hN p => a.ok.then hG hE hN p fun x vx ρ1 G1 H1 L1 u1 e1 n1 r1 p => by
    obtain ⟨z, hz⟩ := p.some
    exact h G1 H1 vx x z Q u1.gh r1 hz fun v G' H' u rz => p.of hz u.grow (e1.grow u) n1 rz
theorem Stp.refl0 {G H : Hp} (e : Ex G H) : Stp G H [] G H [] := .refl e
def gI (f : Int → Int → Option D) : D → D → Option D
  | .int i, .int j => f i j
  | _, _ => none
theorem opI0 {g : Int → Int → V} {f : Int → Int → D} (h : ∀ i j G, Rp K κ G (g i j) (f i j)) : OpS K κ (rI0 g) (gI fun i j => some (f i j)) := fun G H vx vy x y z Q hG rx ry e k => by
  cases rx <;> cases ry <;> first | (cases e; done) | skip
  rename_i i j
  cases e
  exact ⟨i, j, rfl, rfl, k _ G H (.refl0 hG) (h i j G)⟩
theorem opIc {C : Int → Int → Prop} [∀ i j, Decidable (C i j)] {g : Int → Int → V} {f : Int → Int → D} (h : ∀ i j G, Rp K κ G (g i j) (f i j)) : OpS K κ (rI C g) (gI fun i j => if C i j then some (f i j) else none) := fun G H vx vy x y z Q hG rx ry e k => by
  cases rx <;> cases ry <;> first | (cases e; done) | skip
  rename_i i j
  simp only [gI] at e
  by_cases c : C i j
  · rw [if_pos c] at e
    cases e
    exact ⟨i, j, rfl, rfl, c, k _ G H (.refl0 hG) (h i j G)⟩
  · rw [if_neg c] at e; cases e
instance (i j : Int) : Decidable (CMul i j) := by unfold CMul; infer_instance
instance (i j : Int) : Decidable (CMulW i j) := by unfold CMulW; infer_instance
instance (i j : Int) : Decidable (CDivW i j) := by unfold CDivW; infer_instance
instance (i j : Int) : Decidable (CPow i j) := by unfold CPow; infer_instance
def eAdd := eOp (K := K) (κ := κ) _ _ (opI0 (g := fun i j => .int (i + j)) (f := fun i j => .int (i + j)) fun _ _ _ => .int _)
def eSub := eOp (K := K) (κ := κ) _ _ (opI0 (g := fun i j => .int (i - j)) (f := fun i j => .int (i - j)) fun _ _ _ => .int _)
def eMul := eOp (K := K) (κ := κ) _ _ (opIc (C := CMul) (g := fun i j => .int (i * j)) (f := fun i j => .int (i * j)) fun _ _ _ => .int _)
def eMulW := eOp (K := K) (κ := κ) _ _ (opIc (C := CMulW) (g := fun i j => .int (i * j)) (f := fun i j => .int (i * j)) fun _ _ _ => .int _)
def eMod := eOp (K := K) (κ := κ) _ _ (opIc (C := fun _ j => 0 < j) (g := fun i j => .int (i % j)) (f := fun i j => .int (i % j)) fun _ _ _ => .int _)
def eDiv := eOp (K := K) (κ := κ) _ _ (opIc (C := CDivW) (g := fun i j => .int (i / j)) (f := fun i j => .int (i / j)) fun _ _ _ => .int _)
def ePow := eOp (K := K) (κ := κ) _ _ (opIc (C := CPow) (g := fun i j => .int (i ^ j.toNat)) (f := fun i j => .int (i ^ j.toNat)) fun _ _ _ => .int _)
def eLt := eOp (K := K) (κ := κ) _ _ (opI0 (g := fun i j => .bl (decide (i < j))) (f := fun i j => .bl (decide (i < j))) fun _ _ _ => .bl _)
def eLe := eOp (K := K) (κ := κ) _ _ (opI0 (g := fun i j => .bl (decide (i ≤ j))) (f := fun i j => .bl (decide (i ≤ j))) fun _ _ _ => .bl _)
def eGt := eOp (K := K) (κ := κ) _ _ (opI0 (g := fun i j => .bl (decide (j < i))) (f := fun i j => .bl (decide (j < i))) fun _ _ _ => .bl _)
def eGe := eOp (K := K) (κ := κ) _ _ (opI0 (g := fun i j => .bl (decide (j ≤ i))) (f := fun i j => .bl (decide (j ≤ i))) fun _ _ _ => .bl _)
mutual
def D.py : D → PyData
  | .non => .none
  | .bl b => .bool b
  | .int i => .int i
  | .str s => .str s
  | .tup xs => .tuple (D.pys xs)
  | .lst xs => .list (D.pys xs)
  | .exc _ => .none
  | .excF _ _ => .none
  | .tupW _ => .none
  | .dic _ _ => .none
def D.pys : List D → List PyData
  | [] => []
  | x :: xs => D.py x :: D.pys xs
end
mutual
/-- without exceptions in it, at most n deep -/
def D.flat : Nat → D → Bool
  | _, .exc _ => false
  | _, .excF _ _ => false
  | _, .tupW _ => false
  | _, .dic _ _ => false
  | 0, .tup _ => false
  | 0, .lst _ => false
  | n + 1, .tup xs => D.flats n xs
  | n + 1, .lst xs => D.flats n xs
  | _, .str s => PyData.strOk s
  | _, _ => true
def D.flats : Nat → List D → Bool
  | _, [] => true
  | n, x :: xs => D.flat n x && D.flats n xs
end
mutual
theorem dp_of {G : Hp} : ∀ {v : V} {x : D} {n : Nat}, Rp K κ G v x → D.flat n x = true → Dp K G v (D.py x)
  | _, _, _, .non, _ => by simp only [D.py]; exact .non
  | _, _, _, .bl b, _ => by simp only [D.py]; exact .bl b
  | _, _, _, .int i, _ => by simp only [D.py]; exact .int i
  | _, _, _, .str x, _ => by simp only [D.py]; exact .str x
  | _, _, 0, .tup h r, e => by simp [D.flat] at e
  | _, _, n + 1, .tup h r, e => by
    simp only [D.flat] at e
    simp only [D.py]
    exact .tup h.sq (dps_of r e)
  | _, _, 0, .lst h r, e => by simp [D.flat] at e
  | _, _, n + 1, .lst h r, e => by
    simp only [D.flat] at e
    simp only [D.py]
    exact .lst h (dps_of r e)
  | _, _, n, .exc _, e => by cases n <;> simp [D.flat] at e
  | _, _, n, .excF _ _ _, e => by cases n <;> simp [D.flat] at e
  | _, _, n, .tupW _ _, e => by cases n <;> simp [D.flat] at e
  | _, _, n, .dic _ _, e => by cases n <;> simp [D.flat] at e
theorem dps_of {G : Hp} : ∀ {vs : List V} {xs : List D} {n : Nat}, RpAll K κ G vs xs → D.flats n xs = true → DpAll K G vs (D.pys xs)
  | _, _, _, .nil, _ => by simp only [D.pys]; exact .nil
  | _, _, n, .cons h r, e => by
    simp only [D.flats, Bool.and_eq_true] at e
    simp only [D.pys]
    exact .cons (dp_of h e.1) (dps_of r e.2)
end
mutual
theorem flat_lay : ∀ (x : D) (n : Nat), D.flat n x = true → (D.py x).canLay0 = true ∧ (D.py x).depth ≤ n
  | .non, _, _ => by simp [D.py, PyData.canLay0, PyData.depth]
  | .bl b, _, _ => by simp [D.py, PyData.canLay0, PyData.depth]
  | .int i, _, _ => by simp [D.py, PyData.canLay0, PyData.depth]
  | .str s, n, e => by
    have e' : PyData.strOk s = true := by cases n <;> simpa [D.flat] using e
    simp [D.py, PyData.canLay0, PyData.depth, e']
  | .tup xs, 0, e => by simp [D.flat] at e
  | .tup xs, n + 1, e => by
    simp only [D.flat] at e
    have h := flats_lay xs n e
    simp only [D.py, PyData.canLay0, PyData.depth]
    exact ⟨h.1, by omega⟩
  | .lst xs, 0, e => by simp [D.flat] at e
  | .lst xs, n + 1, e => by
    simp only [D.flat] at e
    have h := flats_lay xs n e
    simp only [D.py, PyData.canLay0, PyData.depth]
    exact ⟨h.1, by omega⟩
  | .exc _, n, e => by cases n <;> simp [D.flat] at e
  | .excF _ _, n, e => by cases n <;> simp [D.flat] at e
  | .tupW _, n, e => by cases n <;> simp [D.flat] at e
  | .dic _ _, n, e => by cases n <;> simp [D.flat] at e
theorem flats_lay : ∀ (xs : List D) (n : Nat), D.flats n xs = true → PyData.canLayAll0 (D.pys xs) = true ∧ PyData.depthAll (D.pys xs) ≤ n
  | [], n, _ => by simp [D.pys, PyData.canLayAll0, PyData.depthAll]
  | x :: xs, n, e => by
    simp only [D.flats, Bool.and_eq_true] at e
    have h1 := flat_lay x n e.1
    have h2 := flats_lay xs n e.2
    simp only [D.pys, PyData.canLayAll0, PyData.depthAll, Bool.and_eq_true]
    exact ⟨⟨h1.1, h2.1⟩, by omega⟩
end
theorem flat_shaped {x : D} (e : D.flat 60 x = true) : SeqAt.shaped (D.py x) = true := by
  have h := flat_lay x 60 e
  show ((D.py x).canLay0 && decide ((D.py x).depth ≤ 64)) = true
  rw [Bool.and_eq_true]
  exact ⟨h.1, decide_eq_true (by omega)⟩
def D.eqv (x y : D) : Bool := PyData.eqv (D.py x) (D.py y)
def gEq (x y : D) : Option D := if D.flat 60 x = true ∧ D.flat 60 y = true then some (.bl (D.eqv x y)) else none
def gNe (x y : D) : Option D := if D.flat 60 x = true ∧ D.flat 60 y = true then some (.bl (!D.eqv x y)) else none
theorem Dp.mono {G H : Hp} (e : Ex G H) : ∀ {d : PyData} {v : V}, Dp K G v d → Dp K H v d := by
  intro d v h
  induction h using Dp.rec (motive_2 := fun vs ds _ => DpAll K H vs ds) with
  | non => exact .non
  | bl b => exact .bl b
  | int i => exact .int i
  | str x => exact .str x
  | lst h _ ih => exact .lst (ex_l e h) ih
  | tup h _ ih => exact .tup (ex_t e h) ih
  | nil => exact .nil
  | cons _ _ a b => exact .cons a b
theorem opEq : OpS K κ (rEqD K) gEq := fun G H vx vy x y z Q hG rx ry e k => by
  unfold gEq at e
  split at e
  · rename_i c
    cases e
    exact ⟨_, _, Dp.mono hG (dp_of rx c.1), Dp.mono hG (dp_of ry c.2), flat_shaped c.1, flat_shaped c.2, k _ G H (.refl0 hG) (.bl _)⟩
  · cases e
theorem opNe : OpS K κ (rNeD K) gNe := fun G H vx vy x y z Q hG rx ry e k => by
  unfold gNe at e
  split at e
  · rename_i c
    cases e
    exact ⟨_, _, Dp.mono hG (dp_of rx c.1), Dp.mono hG (dp_of ry c.2), flat_shaped c.1, flat_shaped c.2, k _ G H (.refl0 hG) (.bl _)⟩
  · cases e
def eEq := eOp (K := K) (κ := κ) _ _ opEq
def eNe := eOp (K := K) (κ := κ) _ _ opNe
/-- is None, is not None -/
def D.isN : D → Bool
  | .non => true
  | _ => false
theorem Rp.isN {G : Hp} {v : V} {x : D} (r : Rp K κ G v x) : decide (v = V.non) = D.isN x := by cases r <;> simp [D.isN]
def eIsN (a : SE K κ) : SE K κ where
  te := fun Wx => tIsN (a.te Wx)
  ev := fun ρ => (a.ev ρ).bindD fun x ρ => .ok (.d (.bl (D.isN x))) ρ
  ok := fun Wx G H ρ σ L Q hG hE hN p => a.ok.then hG hE hN p fun x vx ρ1 G1 H1 L1 u1 e1 n1 r1 p => by
    rw [r1.isN]
    exact p.ret (.refl u1.gh) e1 n1 (.bl _)
def eNotN (a : SE K κ) : SE K κ where
  te := fun Wx => tNotN (a.te Wx)
  ev := fun ρ => (a.ev ρ).bindD fun x ρ => .ok (.d (.bl (!D.isN x))) ρ
  ok := fun Wx G H ρ σ L Q hG hE hN p => a.ok.then hG hE hN p fun x vx ρ1 G1 H1 L1 u1 e1 n1 r1 p => by
    rw [r1.isN]
    exact p.ret (.refl u1.gh) e1 n1 (.bl _)
def aNil : SA K κ where
  ta := fun _ => tNil
  ev := fun ρ => .ok [] ρ
  ok := fun Wx G H ρ σ L Q hG hE hN p => p [] G H [] L (.refl hG) hE ⟨rfl, trivial⟩ hN
theorem SndA.then {ta : WX → TA} {ev : Env → R Env (List Arg)} (s : SndA K κ ta ev) {β ν : Type} {Rel : Hp → Hp → β → ν → List Addr → Prop} {Wx : WX} {G H : Hp} {ρ : Env} {σ : St} {L : List Addr} {Q : ν → Hp → Prop} {k : List Arg → Env → R Env β} {q : List V → Hp → Prop} (hG : Ex G H) (hE : EnvR K κ G H ρ σ L) (hN : L.Nodup) (p : Post K κ Rel Wx σ G H L (R.bind (ev ρ) k) Q)
    (go : ∀ as vs ρ1 G1 H1 L1, Stp G H L G1 H1 L1 → EnvR K κ G1 H1 ρ1 σ L1 → L1.Nodup → ArgsR K κ σ G1 as vs → Post K κ Rel Wx σ G1 H1 L1 (k as ρ1) Q → q vs H1) : ta Wx σ H q := by
  refine s Wx G H ρ σ L q hG hE hN ?_
  cases h : ev ρ with
  | ok as ρ1 =>
    rw [h] at p
    intro v G1 H1 Lw L1 st e r nd
    obtain ⟨rfl, r⟩ := r
    exact go as v ρ1 G1 H1 L1 st e nd r (p.trans st)
  | exc c f ρ1 => rw [h] at p; exact p
  | bad => rw [h] at p; exact p.elim
def aCons (a : SE K κ) (r : SA K κ) : SA K κ where
  ta := fun Wx => tCons (a.te Wx) (r.ta Wx)
  ev := fun ρ => (a.ev ρ).bindD fun x ρ => (r.ev ρ).bind fun as ρ => .ok (.a x :: as) ρ
  ok := fun Wx G H ρ σ L Q hG hE hN p => a.ok.then hG hE hN p fun x vx ρ1 G1 H1 L1 u1 e1 n1 r1 p => r.ok.then u1.gh e1 n1 p fun as vs ρ2 G2 H2 L2 u2 e2 n2 r2 p =>
    p (vx :: vs) G2 H2 [] L2 (.refl u2.gh) e2 ⟨rfl, r1.mono u2.g, r2⟩ n2
/-- slot i's own thing, handed to the call -/
def aM (i : Nat) (r : SA K κ) : SA K κ where
  ta := fun Wx => tCons (tVar i) (r.ta Wx)
  ev := fun ρ => match ρ[i]? with
    | some (some _) => (r.ev ρ).bind fun as ρ => .ok (.m i :: as) ρ
    | _ => .bad
  ok := fun Wx G H ρ σ L Q hG hE hN p => by
    dsimp only at p
    split at p
    · rename_i w h
      obtain ⟨v, _, _, _, h1, _⟩ := hE.at h
      exact ⟨v, h1, r.ok.then hG hE hN p fun as vs ρ2 G2 H2 L2 u2 e2 n2 r2 p => p (v :: vs) G2 H2 [] L2 (.refl u2.gh) e2 ⟨rfl, h1, r2⟩ n2⟩
    · exact p.elim
/-- data alone -/
def dat : List Arg → Option (List D)
  | [] => some []
  | .a x :: as => match dat as with
    | some xs => some (x :: xs)
    | none => none
  | .m _ :: _ => none
theorem dat_ok {G : Hp} {σ : St} : ∀ {as : List Arg} {vs : List V} {xs : List D}, ArgsR K κ σ G as vs → dat as = some xs → RpAll K κ G vs xs
  | [], [], _, _, e => by cases e; exact .nil
  | .a x :: as, v :: vs, xs, ⟨p, q⟩, e => by
    simp only [dat] at e
    cases h : dat as with
    | none => rw [h] at e; cases e
    | some ys =>
      rw [h] at e
      cases e
      exact .cons p (dat_ok q h)
  | .m _ :: _, _ :: _, _, _, e => by cases e
  | [], _ :: _, _, q, _ => q.elim
  | .a _ :: _, [], _, q, _ => q.elim
  | .m _ :: _, [], _, q, _ => q.elim
def evD (as : List Arg) (k : List D → R Env W) : R Env W := match dat as with
  | some xs => k xs
  | none => .bad
/-- (a, b, ..) -/
def eTup (r : SA K κ) : SE K κ where
  te := fun Wx => tTupP (r.ta Wx)
  ev := fun ρ => (r.ev ρ).bind fun as ρ => evD as fun xs => if xs.length ≤ 1000000 then .ok (.d (.tup xs)) ρ else .bad
  ok := fun Wx G H ρ σ L Q hG hE hN p => r.ok.then hG hE hN p fun as vs ρ1 G1 H1 L1 u1 e1 n1 r1 p => by
    unfold evD at p
    cases h : dat as with
    | none => rw [h] at p; exact p.elim
    | some xs =>
      rw [h] at p
      have rr := dat_ok r1 h
      have hl := rr.length
      simp only at p
      split at p
      · rename_i hz
        refine ⟨Nat.le_trans (by omega : vs.length ≤ 1000000) (by decide), fun q ob hq hd => ?_⟩
        exact p.ret (.new u1.gh hq) (e1.new u1.gh hq) n1 (.tup (.new hd) (rr.mono (Evl.Ex.new (fresh u1.gh hq))))
      · exact p.elim
/-- [a, b, ..], never changed -/
def eLst (r : SA K κ) : SE K κ where
  te := fun Wx => tLst (r.ta Wx)
  ev := fun ρ => (r.ev ρ).bind fun as ρ => evD as fun xs => if xs.length ≤ 1000000 then .ok (.d (.lst xs)) ρ else .bad
  ok := fun Wx G H ρ σ L Q hG hE hN p => r.ok.then hG hE hN p fun as vs ρ1 G1 H1 L1 u1 e1 n1 r1 p => by
    unfold evD at p
    cases h : dat as with
    | none => rw [h] at p; exact p.elim
    | some xs =>
      rw [h] at p
      have rr := dat_ok r1 h
      have hl := rr.length
      simp only at p
      split at p
      · rename_i hz
        refine ⟨Nat.le_trans (by omega : vs.length ≤ 1000000) (by decide), fun q hq => ?_⟩
        exact p.ret (.new u1.gh hq) (e1.new u1.gh hq) n1 (.lst (SqL.of upd_same) (rr.mono (Evl.Ex.new (fresh u1.gh hq))))
      · exact p.elim
/-- [a, b, ..], to be changed by its owner -/
def eLstM (r : SA K κ) : SE K κ where
  te := fun Wx => tLst (r.ta Wx)
  ev := fun ρ => (r.ev ρ).bind fun as ρ => evD as fun xs => if xs.length ≤ 1000000 then .ok (.ml xs) ρ else .bad
  ok := fun Wx G H ρ σ L Q hG hE hN p => r.ok.then hG hE hN p fun as vs ρ1 G1 H1 L1 u1 e1 n1 r1 p => by
    unfold evD at p
    cases h : dat as with
    | none => rw [h] at p; exact p.elim
    | some xs =>
      rw [h] at p
      have rr := dat_ok r1 h
      have hl := rr.length
      simp only at p
      split at p
      · rename_i hz
        refine ⟨Nat.le_trans (by omega : vs.length ≤ 1000000) (by decide), fun q hq => ?_⟩
        exact p _ G1 _ [q] L1 (.own u1.gh hq) (e1.ownNew hq) ⟨q, vs, rfl, rfl, fresh u1.gh hq, upd_same, rr⟩ (own_nodup hq e1 n1)
      · exact p.elim
/-- f(..), f of the text -/
def eCall (n : Nat) (f : Fn) (r : SA K κ) : SE K κ where
  te := fun Wx => tCallS (spF K κ n f) (WE Wx) (r.ta Wx)
  ev := fun ρ => (r.ev ρ).bind fun as ρ => if as.length = n then callOn f as ρ else .bad
  ok := fun Wx G H ρ σ L Q hG hE hN p => r.ok.then hG hE hN p fun as vs ρ1 G1 H1 L1 u1 e1 n1 r1 p => by
    split at p
    · rename_i hn
      exact call_ok u1.gh e1 n1 r1 hn p
    · exact p.elim
/-- a built-in of data -/
def CbS (K : PySem.W.Frag) (κ : Cls) (r : List V → Hp → VK → Prop) (g : List D → Option D) : Prop := ∀ (G H : Hp) (vs : List V) (xs : List D) (z : D) (Q : VK), Ex G H → RpAll K κ G vs xs → g xs = some z →
  (∀ v G' H', Stp G H [] G' H' [] → Rp K κ G' v z → Q v H') → r vs H Q
def eCB (r : List V → Hp → VK → Prop) (g : List D → Option D) (h : CbS K κ r g) (a : SA K κ) : SE K κ where
  te := fun Wx => tCB r (a.ta Wx)
  ev := fun ρ => (a.ev ρ).bind fun as ρ => evD as fun xs => R.of (g xs) ρ
  ok := fun Wx G H ρ σ L Q hG hE hN p => a.ok.then hG hE hN p fun as vs ρ1 G1 H1 L1 u1 e1 n1 r1 p => by
    unfold evD at p
    cases hd : dat as with
    | none => rw [hd] at p; exact p.elim
    | some xs =>
      rw [hd] at p
      simp only at p
      obtain ⟨z, hz⟩ := p.some
      exact h G1 H1 vs xs z Q u1.gh (dat_ok r1 hd) hz fun v G' H' u rz => p.of hz u.grow (e1.grow u) n1 rz
def tV (a : SE K κ) : ST K κ where
  tt := fun Wx => tB (a.te Wx)
  ev := fun ρ => (a.ev ρ).bindD fun x ρ => match x with
    | .bl b => .ok b ρ
    | _ => .bad
  ok := fun Wx G H ρ σ L Q hG hE hN p => a.ok.then hG hE hN p fun x vx ρ1 G1 H1 L1 u1 e1 n1 r1 p => by
    cases r1 with
    | bl b => exact ⟨b, rfl, p b G1 H1 [] L1 (.refl u1.gh) e1 ⟨rfl, rfl⟩ n1⟩
    | _ => exact p.elim
/-- a comparison as a test: the same, by another reading -/
def tV' (a : SE K κ) : ST K κ where
  tt := fun Wx => tTest (a.te Wx)
  ev := (tV a).ev
  ok := (tV a).ok
def tAnd' (a b : ST K κ) : ST K κ where
  tt := fun Wx => tAnd (a.tt Wx) (b.tt Wx)
  ev := fun ρ => (a.ev ρ).bind fun c ρ => if c = true then b.ev ρ else .ok false ρ
  ok := fun Wx G H ρ σ L Q hG hE hN p => a.ok.then hG hE hN p fun c ρ1 G1 H1 L1 u1 e1 n1 p => by
    split at p
    · rename_i h
      rw [if_pos h]
      exact b.ok Wx G1 H1 ρ1 σ L1 Q u1.gh e1 n1 p
    · rename_i h
      rw [if_neg h]
      exact p false G1 H1 [] L1 (.refl u1.gh) e1 ⟨rfl, rfl⟩ n1
def tOr' (a b : ST K κ) : ST K κ where
  tt := fun Wx => tOr (a.tt Wx) (b.tt Wx)
  ev := fun ρ => (a.ev ρ).bind fun c ρ => if c = true then .ok true ρ else b.ev ρ
  ok := fun Wx G H ρ σ L Q hG hE hN p => a.ok.then hG hE hN p fun c ρ1 G1 H1 L1 u1 e1 n1 p => by
    split at p
    · rename_i h
      rw [if_pos h]
      exact p true G1 H1 [] L1 (.refl u1.gh) e1 ⟨rfl, rfl⟩ n1
    · rename_i h
      rw [if_neg h]
      exact b.ok Wx G1 H1 ρ1 σ L1 Q u1.gh e1 n1 p
def tNot' (a : ST K κ) : ST K κ where
  tt := fun Wx => tNot (a.tt Wx)
  ev := fun ρ => (a.ev ρ).bind fun c ρ => .ok (!c) ρ
  ok := fun Wx G H ρ σ L Q hG hE hN p => a.ok.then hG hE hN p fun c ρ1 G1 H1 L1 u1 e1 n1 p => p (!c) G1 H1 [] L1 (.refl u1.gh) e1 ⟨rfl, rfl⟩ n1
def eAndV (a b : SE K κ) : SE K κ where
  te := fun Wx => tAndV (a.te Wx) (b.te Wx)
  ev := fun ρ => (a.ev ρ).bindD fun x ρ => match x with
    | .bl c => if c = true then b.ev ρ else .ok (.d (.bl false)) ρ
    | _ => .bad
  ok := fun Wx G H ρ σ L Q hG hE hN p => a.ok.then hG hE hN p fun x vx ρ1 G1 H1 L1 u1 e1 n1 r1 p => by
    cases r1 with
    | bl c =>
      refine ⟨c, rfl, ?_⟩
      simp only at p
      split at p
      · rename_i h
        rw [if_pos h]
        exact b.ok Wx G1 H1 ρ1 σ L1 Q u1.gh e1 n1 p
      · rename_i h
        rw [if_neg h]
        exact p.ret (.refl u1.gh) e1 n1 (.bl _)
    | _ => exact p.elim
def eOrV (a b : SE K κ) : SE K κ where
  te := fun Wx => tOrV (a.te Wx) (b.te Wx)
  ev := fun ρ => (a.ev ρ).bindD fun x ρ => match x with
    | .bl c => if c = true then .ok (.d (.bl true)) ρ else b.ev ρ
    | _ => .bad
  ok := fun Wx G H ρ σ L Q hG hE hN p => a.ok.then hG hE hN p fun x vx ρ1 G1 H1 L1 u1 e1 n1 r1 p => by
    cases r1 with
    | bl c =>
      refine ⟨c, rfl, ?_⟩
      simp only at p
      split at p
      · rename_i h
        rw [if_pos h]
        exact p.ret (.refl u1.gh) e1 n1 (.bl _)
      · rename_i h
        rw [if_neg h]
        exact b.ok Wx G1 H1 ρ1 σ L1 Q u1.gh e1 n1 p
    | _ => exact p.elim
def eNotV (a : SE K κ) : SE K κ where
  te := fun Wx => tNotV (a.te Wx)
  ev := fun ρ => (a.ev ρ).bindD fun x ρ => match x with
    | .bl c => .ok (.d (.bl (!c))) ρ
    | _ => .bad
  ok := fun Wx G H ρ σ L Q hG hE hN p => a.ok.then hG hE hN p fun x vx ρ1 G1 H1 L1 u1 e1 n1 r1 p => by
    cases r1 with
    | bl c => exact ⟨c, rfl, p.ret (.refl u1.gh) e1 n1 (.bl _)⟩
    | _ => exact p.elim
def eIf (t : ST K κ) (a b : SE K κ) : SE K κ where
  te := fun Wx => tIf (t.tt Wx) (a.te Wx) (b.te Wx)
  ev := fun ρ => (t.ev ρ).bind fun c ρ => if c = true then a.ev ρ else b.ev ρ
  ok := fun Wx G H ρ σ L Q hG hE hN p => t.ok.then hG hE hN p fun c ρ1 G1 H1 L1 u1 e1 n1 p => by
    split at p
    · rename_i h
      rw [if_pos h]
      exact a.ok Wx G1 H1 ρ1 σ L1 Q u1.gh e1 n1 p
    · rename_i h
      rw [if_neg h]
      exact b.ok Wx G1 H1 ρ1 σ L1 Q u1.gh e1 n1 p
end
end Pv
set_option maxRecDepth 100000
set_option maxHeartbeats 2000000
namespace Pv
open PySem PySem.Spec PyProof.Rows L2
section
variable {K : PySem.W.Frag} {κ : Cls}
theorem Keep.refl (asg : List Nat) (σ : St) : Keep asg σ σ := ⟨rfl, fun _ _ => rfl⟩
theorem Keep.trans {a b : List Nat} {σ σ1 σ2 : St} (h : Keep a σ σ1) (g : Keep b σ1 σ2) : Keep (a ++ b) σ σ2 := ⟨g.1.trans h.1, fun i n =>
  (g.2 i fun z => n (List.mem_append_right _ z)).trans (h.2 i fun z => n (List.mem_append_left _ z))⟩
theorem Keep.wide {a b : List Nat} {σ σ1 : St} (h : Keep a σ σ1) (s : ∀ i ∈ a, i ∈ b) : Keep b σ σ1 := ⟨h.1, fun i n => h.2 i fun z => n (s i z)⟩
theorem Keep.set {i : Nat} {σ : St} {v : Option V} : Keep [i] σ (σ.set i v) := ⟨List.length_set, fun j n => List.getElem?_set_ne (fun z => n (by simp [z]))⟩
theorem PostS.step {Wx : WX} {σ σ1 : St} {a b c : List Nat} {G H G1 H1 : Hp} {L L1 : List Addr} {r : R Env Flow} {E : Ends} (p : PostS K κ Wx σ c G H L r E) (u : Stp G H L G1 H1 L1) (k : Keep a σ σ1) (h : ∀ i ∈ a ++ b, i ∈ c) : PostS K κ Wx σ1 b G1 H1 L1 r E := by
  cases r with
  | ok f ρ' =>
    cases f with
    | nx => exact fun σ' G' H' L' s e n q => p σ' G' H' L' (u.trans s) e n ((k.trans q).wide h)
    | bk => exact fun σ' G' H' L' s e n q => p σ' G' H' L' (u.trans s) e n ((k.trans q).wide h)
    | ct => exact fun σ' G' H' L' s e n q => p σ' G' H' L' (u.trans s) e n ((k.trans q).wide h)
    | rt w => exact fun v σ' G' H' Lw L' s e q n kk => p v σ' G' H' Lw L' (u.trans s) e q n ((k.trans kk).wide h)
  | exc k' f ρ' => exact fun dd σ' G' H' L' s e n kp x => p dd σ' G' H' L' (u.trans s) e n ((k.trans kp).wide h) x
  | bad => exact p
/-- a flow, then the rest -/
def R.flow (r : R Env Flow) (k : Env → R Env Flow) : R Env Flow := match r with
  | .ok .nx ρ => k ρ
  | .ok f ρ => .ok f ρ
  | .exc c f ρ => .exc c f ρ
  | .bad => .bad
def sNil : SS K κ where
  ts := fun _ => tNext
  sv := fun ρ => .ok .nx ρ
  asg := []
  ok := fun Wx G H ρ σ L E hG hE hN p => p σ G H L (.refl hG) hE hN (.refl _ _)
def sSeq (a b : SS K κ) : SS K κ where
  ts := fun Wx => tSeq (a.ts Wx) (b.ts Wx)
  sv := fun ρ => (a.sv ρ).flow b.sv
  asg := a.asg ++ b.asg
  ok := fun Wx G H ρ σ L E hG hE hN p => by
    refine a.ok Wx G H ρ σ L _ hG hE hN ?_
    have sa : ∀ i ∈ a.asg, i ∈ a.asg ++ b.asg := fun i z => List.mem_append_left _ z
    unfold R.flow at p
    dsimp only at p
    cases h : a.sv ρ with
    | ok f ρ1 =>
      rw [h] at p
      cases f with
      | nx => exact fun σ1 G1 H1 L1 u e n k => b.ok Wx G1 H1 ρ1 σ1 L1 E u.gh e n (p.step u k fun i z => z)
      | bk => exact fun σ' G' H' L' s e n q => p σ' G' H' L' s e n (q.wide sa)
      | ct => exact fun σ' G' H' L' s e n q => p σ' G' H' L' s e n (q.wide sa)
      | rt w => exact fun v σ' G' H' Lw L' s e q n kk => p v σ' G' H' Lw L' s e q n (kk.wide sa)
    | exc c f ρ1 => rw [h] at p; exact fun dd σ' G' H' L' s e n q x => p dd σ' G' H' L' s e n (q.wide sa) x
    | bad => rw [h] at p; exact p.elim
def sAsg (i : Nat) (e : SE K κ) : SS K κ where
  ts := fun Wx => tAsg (e.te Wx) (gName i)
  sv := fun ρ => (e.ev ρ).bind fun w ρ => if i < ρ.length then .ok .nx (ρ.set i (some w)) else .bad
  asg := [i]
  ok := fun Wx G H ρ σ L E hG hE hN p => e.ok.thenW hG hE hN p fun w v ρ1 G1 H1 Lw L1 u e1 n1 r1 p => by
    split at p
    · rename_i hi
      obtain ⟨L', h1, h2, h3⟩ := e1.put i r1 n1 hi
      exact p (σ.set i (some v)) G1 H1 L' (u.sub h3) h1 h2 .set
    · exact p.elim
def sIf (t : ST K κ) (a b : SS K κ) : SS K κ where
  ts := fun Wx => tIfS (t.tt Wx) (a.ts Wx) (b.ts Wx)
  sv := fun ρ => (t.ev ρ).bind fun c ρ => if c = true then a.sv ρ else b.sv ρ
  asg := a.asg ++ b.asg
  ok := fun Wx G H ρ σ L E hG hE hN p => t.ok.thenS hG hE hN p fun c ρ1 G1 H1 L1 u1 e1 n1 p => by
    split at p
    · rename_i h
      rw [if_pos h]
      exact a.ok Wx G1 H1 ρ1 σ L1 E u1.gh e1 n1 (p.step (.refl u1.gh) (.refl [] _) fun i z => List.mem_append_left _ z)
    · rename_i h
      rw [if_neg h]
      exact b.ok Wx G1 H1 ρ1 σ L1 E u1.gh e1 n1 (p.step (.refl u1.gh) (.refl [] _) fun i z => List.mem_append_right _ z)
def sRet (e : SE K κ) : SS K κ where
  ts := fun Wx => tRet (e.te Wx)
  sv := fun ρ => (e.ev ρ).bind fun w ρ => .ok (.rt w) ρ
  asg := []
  ok := fun Wx G H ρ σ L E hG hE hN p => e.ok.thenW hG hE hN p fun w v ρ1 G1 H1 Lw L1 u e1 n1 r1 p => p v σ G1 H1 Lw L1 u e1 r1 n1 (.refl _ _)
def sDrop (e : SE K κ) : SS K κ where
  ts := fun Wx => tDrop (e.te Wx)
  sv := fun ρ => (e.ev ρ).bind fun _ ρ => .ok .nx ρ
  asg := []
  ok := fun Wx G H ρ σ L E hG hE hN p => e.ok.thenW hG hE hN p fun w v ρ1 G1 H1 Lw L1 u e1 n1 r1 p => p σ G1 H1 L1 (u.sub fun a z => List.mem_append_right _ z) e1 (List.nodup_append.mp n1).2.1 (.refl _ _)
/-- x[j] = e, x the name in slot i, a list that it owns -/
def sSetL (i j : Nat) (e : SE K κ) : SS K κ where
  ts := fun Wx => tAsg (e.te Wx) (gSub (tVar i) (tC (.int j)) rSetL)
  sv := fun ρ => (e.ev ρ).bindD fun x ρ => match ρ[i]? with
    | some (some (.ml xs)) => if j < xs.length then .ok .nx (ρ.set i (some (.ml (xs.set j x)))) else .bad
    | _ => .bad
  asg := []
  ok := fun Wx G H ρ σ L E hG hE hN p => e.ok.thenS hG hE hN p fun x vx ρ1 G1 H1 L1 u1 e1 n1 r1 p => by
    split at p
    · rename_i xs h
      split at p
      · rename_i hj
        obtain ⟨a, vs, h1, h2, h3, h4, h5, h6, _⟩ := e1.list u1.gh n1 h
        obtain ⟨st, en⟩ := h6 (vs.set j vx) (xs.set j x) (h4.set r1 j)
        have hl := h4.length
        refine ⟨_, h1, a, vs, j, j, rfl, rfl, h3, ?_, ?_⟩
        · unfold ixN
          rw [if_pos (by omega : (0 : Int) ≤ (j : Int)), if_pos (by omega : (j : Int) < (vs.length : Int))]
          simp
        · exact p σ G1 _ L1 st en n1 (.refl _ _)
      · exact p.elim
    · exact p.elim
/-- x.append(e), x the name in slot i, a list that it owns -/
def sApp (K' : PySem.W.Frag) (hK : K' = K) (i : Nat) (e : SE K κ) : SS K κ where
  ts := fun Wx => tDrop (tBM K "list" rAppend (tVar i) (tCons (e.te Wx) tNil))
  sv := fun ρ => match ρ[i]? with
    | some (some (.ml _)) => (e.ev ρ).bindD fun x ρ => match ρ[i]? with
      | some (some (.ml xs)) => if xs.length < 1000000 then .ok .nx (ρ.set i (some (.ml (xs ++ [x])))) else .bad
      | _ => .bad
    | _ => .bad
  asg := []
  ok := fun Wx G H ρ σ L E hG hE hN p => by
    dsimp only at p
    split at p
    · rename_i ys h0
      obtain ⟨a, vs, h1, h2, h3, h4, h5, h6, _⟩ := hE.list hG hN h0
      refine ⟨_, h1, .inl ⟨rfl, _, SqL.of h3⟩, e.ok.thenS hG hE hN p fun x vx ρ1 G1 H1 L1 u1 e1 n1 r1 p => ?_⟩
      split at p
      · rename_i xs h
        split at p
        · rename_i hj
          obtain ⟨a', vs, k1, h2, h3, h4, h5, h6, _⟩ := e1.list u1.gh n1 h
          rw [h1] at k1
          cases k1
          obtain ⟨st, en⟩ := h6 (vs ++ [vx]) (xs ++ [x]) (h4.append (.cons r1 .nil))
          have hl := h4.length
          exact ⟨a, vs, vx, rfl, rfl, h3, Nat.lt_of_lt_of_le (by omega : vs.length < 1000000) (by decide), p σ G1 _ L1 st en n1 (.refl _ _)⟩
        · exact p.elim
      · exact p.elim
    · exact p.elim
def D.seq : D → Option (List D)
  | .tup xs => some xs
  | .lst xs => some xs
  | _ => none
/-- x[j] of the list that slot i owns (or of data there) -/
def eIxM (i : Nat) (b : SE K κ) : SE K κ where
  te := fun Wx => tOp (rIxL K) (tVar i) (b.te Wx)
  ev := fun ρ => match ρ[i]? with
    | some (some (.ml _)) => (b.ev ρ).bindD fun y ρ => match y, ρ[i]? with
      | .int j, some (some (.ml xs)) => match atI xs j with
        | some z => .ok (.d z) ρ
        | none => .bad
      | _, _ => .bad
    | _ => .bad
  ok := fun Wx G H ρ σ L Q hG hE hN p => by
    dsimp only at p
    split at p
    · rename_i ys h0
      obtain ⟨a, vs, h1, _⟩ := hE.list hG hN h0
      refine ⟨_, h1, b.ok.then hG hE hN p fun y vy ρ1 G1 H1 L1 u1 e1 n1 r1 p => ?_⟩
      cases r1 with
      | int j =>
        try dsimp only at p
        split at p
        · rename_i xs hj h
          cases hj
          split at p
          · rename_i z hz
            obtain ⟨a', vs, k1, h2, h3, h4, h5, _⟩ := e1.list u1.gh n1 h
            rw [h1] at k1
            cases k1
            have hl := h4.length
            unfold atI at hz
            rw [← hl] at hz
            cases hx : ixN vs.length j with
            | none => rw [hx] at hz; cases hz
            | some m =>
              rw [hx] at hz
              obtain ⟨v, hv, rv⟩ := h4.get (show xs[m]? = some z from hz)
              refine ⟨a, vs, j, v, rfl, rfl, SqL.of h3, ?_, p.ret (.refl u1.gh) e1 n1 rv⟩
              unfold atI
              rw [hx]
              exact hv
          · exact p.elim
        · exact p.elim
      | _ => exact p.elim
    · exact p.elim
def gIxL : D → D → Option D
  | .lst xs, .int j => atI xs j
  | _, _ => none
def gIxT : D → D → Option D
  | .tup xs, .int j => atI xs j
  | _, _ => none
theorem RpAll.atI {G : Hp} {vs : List V} {xs : List D} {j : Int} {z : D} (h : RpAll K κ G vs xs) (hz : L2.atI xs j = some z) : ∃ v, L2.atI vs j = some v ∧ Rp K κ G v z := by
  have hl := h.length
  unfold L2.atI at hz ⊢
  rw [← hl] at hz
  cases hx : ixN vs.length j with
  | none => rw [hx] at hz; cases hz
  | some m =>
    rw [hx] at hz
    obtain ⟨v, hv, rv⟩ := h.get (show xs[m]? = some z from hz)
    exact ⟨v, hv, rv⟩
theorem opIxL : OpS K κ (rIxL K) gIxL := fun G H vx vy x y z Q hG rx ry e k => by
  cases rx with
  | lst hs ra =>
    cases ry with
    | int j =>
      obtain ⟨v, hv, rv⟩ := ra.atI e
      exact ⟨_, _, j, v, rfl, rfl, ex_l hG hs, hv, k v G H (.refl0 hG) rv⟩
    | _ => cases e
  | _ => cases e
theorem opIxT : OpS K κ (rIxT K) gIxT := fun G H vx vy x y z Q hG rx ry e k => by
  cases rx with
  | tup hs ra =>
    cases ry with
    | int j =>
      obtain ⟨v, hv, rv⟩ := ra.atI e
      exact ⟨_, _, j, v, rfl, rfl, ex_t hG hs.sq, hv, k v G H (.refl0 hG) rv⟩
    | _ => cases e
  | _ => cases e
def eIxL := eOp (K := K) (κ := κ) _ _ opIxL
def eIxT := eOp (K := K) (κ := κ) _ _ opIxT
/-- len of data -/
def gLen : List D → Option D
  | [.tup xs] => some (.int xs.length)
  | [.lst xs] => some (.int xs.length)
  | _ => none
def rLenD (K : PySem.W.Frag) : List V → Hp → VK → Prop := fun xs H Q => ∃ p ys, xs = [.ref p] ∧ (SqL K H p ys ∨ SqT K H p ys) ∧ Q (.int ys.length) H
theorem cbLen : CbS K κ (rLenD K) gLen := fun G H vs xs z Q hG r e k => by
  cases r with
  | nil => cases e
  | cons h t =>
    cases t with
    | nil =>
      cases h with
      | tup hs ra =>
        cases e
        refine ⟨_, _, rfl, .inr (ex_t hG hs.sq), ?_⟩
        rw [ra.length]
        exact k _ G H (.refl0 hG) (.int _)
      | lst hs ra =>
        cases e
        refine ⟨_, _, rfl, .inl (ex_l hG hs), ?_⟩
        rw [ra.length]
        exact k _ G H (.refl0 hG) (.int _)
      | _ => cases e
    | cons _ _ =>
      cases h <;> cases e
def eLen := eCB (K := K) (κ := κ) _ _ cbLen
/-- len(x) of the list that slot i owns, which it goes on owning -/
def eLenM (i : Nat) : SE K κ where
  te := fun _ => tCB (rLenD K) (tCons (tVar i) tNil)
  ev := fun ρ => match ρ[i]? with
    | some (some (.ml xs)) => .ok (.d (.int xs.length)) ρ
    | _ => .bad
  ok := fun Wx G H ρ σ L Q hG hE hN p => by
    dsimp only at p
    split at p
    · rename_i xs h
      obtain ⟨a, vs, h1, h2, h3, h4, _⟩ := hE.list hG hN h
      refine ⟨_, h1, a, vs, rfl, .inl (SqL.of h3), ?_⟩
      rw [h4.length]
      exact p.ret (.refl hG) hE hN (.int _)
    · exact p.elim
/-- J yields the data xs, from the known part G1 on -/
def Yl (K : PySem.W.Frag) (κ : Cls) (J : It) (G1 : Hp) (xs : List D) : Prop := ∀ (G' H' : Hp) (i : Nat), Ex G1 G' → Ex G' H' →
  (∀ x, xs[i]? = some x → J.go i H' ∧ ∀ v H'', J.yld i H' v H'' → ∃ G'', Stp G' H' [] G'' H'' [] ∧ Rp K κ G'' v x) ∧ (xs.length ≤ i → J.stop i H')
def SndI (K : PySem.W.Frag) (κ : Cls) (ti : WX → TI) (ev : Env → R Env (List D)) : Prop :=
  ∀ (Wx : WX) (G H : Hp) (ρ : Env) (σ : St) (L : List Addr) (Q : It → Hp → Prop), Ex G H → EnvR K κ G H ρ σ L → L.Nodup → Post K κ (fun G' _ xs J L => L = [] ∧ Yl K κ J G' xs) Wx σ G H L (ev ρ) Q → ti Wx σ H Q
structure SI (K : PySem.W.Frag) (κ : Cls) where
  ti : WX → TI
  ev : Env → R Env (List D)
  ok : SndI K κ ti ev
theorem yl_list {G : Hp} {a : Addr} {vs : List V} {xs : List D} (h : SqL K G a vs) (r : RpAll K κ G vs xs) : Yl K κ (Itl K a) G xs := fun G' H' i g gh =>
  ⟨fun x e => by
    obtain ⟨v, hv, rv⟩ := r.get e
    refine ⟨⟨vs, v, ex_l (g.trans gh) h, hv⟩, fun u H'' y => ?_⟩
    obtain ⟨rfl, y⟩ := y
    have := y vs (ex_l (g.trans gh) h)
    rw [hv] at this
    cases this
    exact ⟨G', .refl0 gh, rv.mono g⟩, fun n => ⟨vs, ex_l (g.trans gh) h, by rw [r.length]; exact n⟩⟩
theorem yl_tup {G : Hp} {a : Addr} {vs : List V} {xs : List D} (h : SqT K G a vs) (r : RpAll K κ G vs xs) : Yl K κ (Itt K a) G xs := fun G' H' i g gh =>
  ⟨fun x e => by
    obtain ⟨v, hv, rv⟩ := r.get e
    refine ⟨⟨vs, v, ex_t (g.trans gh) h, hv⟩, fun u H'' y => ?_⟩
    obtain ⟨rfl, y⟩ := y
    have := y vs (ex_t (g.trans gh) h)
    rw [hv] at this
    cases this
    exact ⟨G', .refl0 gh, rv.mono g⟩, fun n => ⟨vs, ex_t (g.trans gh) h, by rw [r.length]; exact n⟩⟩
def iT (a : SE K κ) : SI K κ where
  ti := fun Wx => iTup K (a.te Wx)
  ev := fun ρ => (a.ev ρ).bindD fun x ρ => match x with
    | .tup xs => .ok xs ρ
    | _ => .bad
  ok := fun Wx G H ρ σ L Q hG hE hN p => a.ok.then hG hE hN p fun x vx ρ1 G1 H1 L1 u1 e1 n1 r1 p => by
    cases r1 with
    | tup hs ra => exact ⟨_, rfl, ⟨_, ex_t u1.gh hs.sq⟩, p _ G1 H1 [] L1 (.refl u1.gh) e1 ⟨rfl, yl_tup hs.sq ra⟩ n1⟩
    | _ => exact p.elim
def iL (a : SE K κ) : SI K κ where
  ti := fun Wx => iList K (a.te Wx)
  ev := fun ρ => (a.ev ρ).bindD fun x ρ => match x with
    | .lst xs => .ok xs ρ
    | _ => .bad
  ok := fun Wx G H ρ σ L Q hG hE hN p => a.ok.then hG hE hN p fun x vx ρ1 G1 H1 L1 u1 e1 n1 r1 p => by
    cases r1 with
    | lst hs ra => exact ⟨_, rfl, ⟨_, ex_l u1.gh hs⟩, p _ G1 H1 [] L1 (.refl u1.gh) e1 ⟨rfl, yl_list hs ra⟩ n1⟩
    | _ => exact p.elim
end
end Pv
set_option maxRecDepth 100000
set_option maxHeartbeats 2000000
namespace Pv
open PySem PySem.Spec PyProof.Rows L2
section
variable {K : PySem.W.Frag} {κ : Cls}
def nums (lo : Int) (n : Nat) : List D := (List.range n).map fun (i : Nat) => .int (lo + i)
theorem yl_range {G : Hp} {lo : Int} {n : Nat} : Yl K κ (Itr lo n) G (nums lo n) := fun G' H' i g gh =>
  ⟨fun x e => by
    unfold nums at e
    rw [List.getElem?_map] at e
    cases h : (List.range n)[i]? with
    | none => rw [h] at e; cases e
    | some j =>
      rw [h] at e
      obtain ⟨hi, ej⟩ := List.getElem?_eq_some_iff.mp h
      have hi' : i < n := by simpa using hi
      have : j = i := by rw [← ej]; simp
      subst this
      cases e
      refine ⟨hi', fun u H'' y => ?_⟩
      obtain ⟨rfl, rfl⟩ := y
      exact ⟨G', .refl0 gh, .int _⟩, fun h => by
    unfold nums at h
    exact (by simpa using h : n ≤ i)⟩
def iR1 (a : SE K κ) : SI K κ where
  ti := fun Wx => iRng1 (tCons (a.te Wx) tNil)
  ev := fun ρ => (a.ev ρ).bindD fun x ρ => match x with
    | .int n => if -(2 ^ 62) ≤ n ∧ n < 2 ^ 62 then .ok (nums 0 n.toNat) ρ else .bad
    | _ => .bad
  ok := fun Wx G H ρ σ L Q hG hE hN p => a.ok.then hG hE hN p fun x vx ρ1 G1 H1 L1 u1 e1 n1 r1 p => by
    cases r1 with
    | int n =>
      dsimp only at p
      split at p
      · rename_i h
        exact ⟨n, rfl, h.1, h.2, p _ G1 H1 [] L1 (.refl u1.gh) e1 ⟨rfl, yl_range⟩ n1⟩
      · exact p.elim
    | _ => exact p.elim
def iR2 (a b : SE K κ) : SI K κ where
  ti := fun Wx => iRng2 (tCons (a.te Wx) (tCons (b.te Wx) tNil))
  ev := fun ρ => (a.ev ρ).bindD fun x ρ => (b.ev ρ).bindD fun y ρ => match x, y with
    | .int m, .int n => if -(2 ^ 62) ≤ m ∧ m < 2 ^ 62 ∧ -(2 ^ 62) ≤ n ∧ n < 2 ^ 62 then .ok (nums m (n - m).toNat) ρ else .bad
    | _, _ => .bad
  ok := fun Wx G H ρ σ L Q hG hE hN p => a.ok.then hG hE hN p fun x vx ρ1 G1 H1 L1 u1 e1 n1 r1 p => b.ok.then u1.gh e1 n1 p fun y vy ρ2 G2 H2 L2 u2 e2 n2 r2 p => by
    cases r1 with
    | int m =>
      cases r2 with
      | int n =>
        dsimp only at p
        split at p
        · rename_i h
          exact ⟨m, n, rfl, h, p _ G2 H2 [] L2 (.refl u2.gh) e2 ⟨rfl, yl_range⟩ n2⟩
        · exact p.elim
      | _ => exact p.elim
    | _ => cases r2 <;> exact p.elim
structure SG (K : PySem.W.Frag) (κ : Cls) where
  tg : TG
  put : D → Env → Option Env
  asg : List Nat
  ok : ∀ (G H : Hp) (ρ ρ' : Env) (σ : St) (L : List Addr) (v : V) (x : D) (Q : St → Hp → Prop), Ex G H → EnvR K κ G H ρ σ L → L.Nodup → Rp K κ G v x → put x ρ = some ρ' →
    (∀ σ' L', EnvR K κ G H ρ' σ' L' → L'.Nodup → (∀ a ∈ L', a ∈ L) → Keep asg σ σ' → Q σ' H) → tg v σ H Q
def gN (i : Nat) : SG K κ where
  tg := gName i
  put := fun x ρ => if i < ρ.length then some (ρ.set i (some (.d x))) else none
  asg := [i]
  ok := fun G H ρ ρ' σ L v x Q hG hE hN r e k => by
    split at e
    · rename_i hi
      cases e
      obtain ⟨L', h1, h2, h3⟩ := hE.put (w := .d x) (v := v) (B := []) i ⟨rfl, r⟩ hN hi
      exact k _ L' h1 h2 (by simpa using h3) .set
    · cases e
structure SGs (K : PySem.W.Frag) (κ : Cls) where
  tg : TGs
  put : List D → Env → Option Env
  asg : List Nat
  ok : ∀ (G H : Hp) (ρ ρ' : Env) (σ : St) (L : List Addr) (vs : List V) (xs : List D) (Q : St → Hp → Prop), Ex G H → EnvR K κ G H ρ σ L → L.Nodup → RpAll K κ G vs xs → put xs ρ = some ρ' →
    (∀ σ' L', EnvR K κ G H ρ' σ' L' → L'.Nodup → (∀ a ∈ L', a ∈ L) → Keep asg σ σ' → Q σ' H) → tg vs σ H Q
def gs0 : SGs K κ where
  tg := gNil
  put := fun xs ρ => match xs with
    | [] => some ρ
    | _ => none
  asg := []
  ok := fun G H ρ ρ' σ L vs xs Q hG hE hN r e k => by
    cases r with
    | nil =>
      cases e
      exact ⟨rfl, k σ L hE hN (fun _ z => z) (.refl _ _)⟩
    | cons _ _ => cases e
def gs1 (g : SG K κ) (r : SGs K κ) : SGs K κ where
  tg := gCons g.tg r.tg
  put := fun xs ρ => match xs with
    | x :: xs => match g.put x ρ with
      | some ρ => r.put xs ρ
      | none => none
    | [] => none
  asg := g.asg ++ r.asg
  ok := fun G H ρ ρ' σ L vs xs Q hG hE hN rr e k => by
    cases rr with
    | nil => cases e
    | cons h t =>
      dsimp only at e
      split at e
      · rename_i ρ1 h1
        refine ⟨_, _, rfl, g.ok G H ρ ρ1 σ L _ _ _ hG hE hN h h1 fun σ1 L1 e1 n1 s1 k1 => ?_⟩
        exact r.ok G H ρ1 ρ' σ1 L1 _ _ Q hG e1 n1 t e fun σ2 L2 e2 n2 s2 k2 => k σ2 L2 e2 n2 (fun a z => s1 a (s2 a z)) (k1.trans k2)
      · cases e
def gT (n : Nat) (r : SGs K κ) : SG K κ where
  tg := gTup K n r.tg
  put := fun x ρ => match x with
    | .tup xs => if xs.length = n then r.put xs ρ else none
    | .tupW xs => if xs.length = n then r.put xs ρ else none
    | _ => none
  asg := r.asg
  ok := fun G H ρ ρ' σ L v x Q hG hE hN rr e k => by
    cases rr with
    | tup hs ra =>
      dsimp only at e
      split at e
      · rename_i hl
        exact ⟨_, _, rfl, ex_t hG hs.sq, by rw [ra.length]; exact hl, r.ok G H ρ ρ' σ L _ _ Q hG hE hN ra e k⟩
      · cases e
    | tupW hs ra =>
      dsimp only at e
      split at e
      · rename_i hl
        exact ⟨_, _, rfl, ex_t hG hs, by rw [ra.length]; exact hl, r.ok G H ρ ρ' σ L _ _ Q hG hE hN ra e k⟩
      · cases e
    | _ => cases e
/-- a, b = e -/
def sAsgG (g : SG K κ) (e : SE K κ) : SS K κ where
  ts := fun Wx => tAsg (e.te Wx) g.tg
  sv := fun ρ => (e.ev ρ).bindD fun x ρ => match g.put x ρ with
    | some ρ => .ok .nx ρ
    | none => .bad
  asg := g.asg
  ok := fun Wx G H ρ σ L E hG hE hN p => e.ok.thenS hG hE hN p fun x vx ρ1 G1 H1 L1 u1 e1 n1 r1 p => by
    split at p
    · rename_i ρ2 h
      exact g.ok G1 H1 ρ1 ρ2 σ L1 vx x _ u1.gh e1 n1 r1 h fun σ' L' e n s k => p σ' G1 H1 L' ((Stp.refl u1.gh).sub s) e n k
    · exact p.elim
def loopS (put : D → Env → Option Env) (body : Env → R Env Flow) : List D → Env → R Env Flow
  | [], ρ => .ok .nx ρ
  | x :: xs, ρ => match put x ρ with
    | none => .bad
    | some ρ1 => match body ρ1 with
      | .ok .nx ρ2 => loopS put body xs ρ2
      | .ok .ct ρ2 => loopS put body xs ρ2
      | .ok .bk ρ2 => .ok .nx ρ2
      | .ok (.rt w) ρ2 => .ok (.rt w) ρ2
      | .exc c f ρ2 => .exc c f ρ2
      | .bad => .bad
def sFor (it : SI K κ) (g : SG K κ) (b : SS K κ) : SS K κ where
  ts := fun Wx => tFor (it.ti Wx) g.tg (b.ts Wx)
  sv := fun ρ => (it.ev ρ).bind fun xs ρ => loopS g.put b.sv xs ρ
  asg := g.asg ++ b.asg
  ok := fun Wx G H ρ σ L E hG hE hN p => by
    refine it.ok Wx G H ρ σ L _ hG hE hN ?_
    dsimp only at p
    cases hi : it.ev ρ with
    | exc c f ρ1 => rw [hi] at p; exact fun dd G' H' L' s e n x => p dd σ G' H' L' s e n (.refl _ _) x
    | bad => rw [hi] at p; exact p.elim
    | ok xs ρ1 =>
      rw [hi] at p
      intro J G1 H1 Lw L1 u e y nd
      obtain ⟨rfl, y⟩ := y
      have p1 : PostS K κ Wx σ (g.asg ++ b.asg) G1 H1 L1 (loopS g.put b.sv xs ρ1) E := p.step (a := []) u (.refl _ _) fun i z => z
      refine ⟨fun i m σ' H' => m = xs.length - i ∧ i ≤ xs.length ∧ ∃ G' L' ρ', Ex G1 G' ∧ Ex G' H' ∧ EnvR K κ G' H' ρ' σ' L' ∧ L'.Nodup ∧ PostS K κ Wx σ' (g.asg ++ b.asg) G' H' L' (loopS g.put b.sv (xs.drop i) ρ') E, ⟨xs.length, by simp, Nat.zero_le _, G1, L1, ρ1, Evl.Ex.refl _, u.gh, e, nd, p1⟩, ?_⟩
      rintro i m σ' H' ⟨rfl, hle, G', L', ρ', g1, gh, e', n', p'⟩
      have yy := y G' H' i g1 gh
      by_cases hlt : i < xs.length
      · have hx : xs[i]? = some xs[i] := List.getElem?_eq_getElem hlt
        obtain ⟨go, yd⟩ := yy.1 _ hx
        have hd : xs.drop i = xs[i] :: xs.drop (i + 1) := List.drop_eq_getElem_cons hlt
        rw [hd] at p'
        refine .inr ⟨go, fun σ2 H2 => ∃ G2 L2 ρ2, Ex G1 G2 ∧ Ex G2 H2 ∧ EnvR K κ G2 H2 ρ2 σ2 L2 ∧ L2.Nodup ∧ PostS K κ Wx σ2 (g.asg ++ b.asg) G2 H2 L2 (loopS g.put b.sv (xs.drop (i + 1)) ρ2) E, fun σ2 H2 z => ⟨xs.length - (i + 1), by omega, rfl, by omega, z⟩, fun v H'' hy => ?_⟩
        obtain ⟨G'', st, rv⟩ := yd v H'' hy
        have e'' := e'.grow st
        have g'' := g1.trans st.g
        simp only [loopS] at p'
        cases hp : g.put xs[i] ρ' with
        | none => rw [hp] at p'; exact p'.elim
        | some ρ2 =>
          rw [hp] at p'
          refine g.ok G'' H'' ρ' ρ2 σ' L' v _ _ st.gh e'' n' rv hp fun σ2 L2 e2 n2 s2 k2 => ?_
          have st2 : Stp G' H' L' G'' H'' L2 := st.wide (fun _ z => nomatch z) fun a z => .inr (s2 a z)
          dsimp only at p'
          refine b.ok Wx G'' H'' ρ2 σ2 L2 _ st.gh e2 n2 ?_
          cases hb : b.sv ρ2 with
          | bad => rw [hb] at p'; exact p'.elim
          | exc c f ρ3 =>
            rw [hb] at p'
            exact fun dd σ3 G3 H3 L3 s3 e3 n3 k3 x => p' dd σ3 G3 H3 L3 (st2.trans s3) e3 n3 (k2.trans k3) x
          | ok f ρ3 =>
            rw [hb] at p'
            cases f with
            | nx => exact fun σ3 G3 H3 L3 s3 e3 n3 k3 => ⟨G3, L3, ρ3, g''.trans s3.g, s3.gh, e3, n3, p'.step (st2.trans s3) (k2.trans k3) fun j z => (List.mem_append.mp z).elim (fun z => z) fun z => z⟩
            | ct => exact fun σ3 G3 H3 L3 s3 e3 n3 k3 => ⟨G3, L3, ρ3, g''.trans s3.g, s3.gh, e3, n3, p'.step (st2.trans s3) (k2.trans k3) fun j z => (List.mem_append.mp z).elim (fun z => z) fun z => z⟩
            | bk => exact fun σ3 G3 H3 L3 s3 e3 n3 k3 => p' σ3 G3 H3 L3 (st2.trans s3) e3 n3 (k2.trans k3)
            | rt w => exact fun v3 σ3 G3 H3 Lw L3 s3 e3 r3 n3 k3 => p' v3 σ3 G3 H3 Lw L3 (st2.trans s3) e3 r3 n3 (k2.trans k3)
      · have hi' : i = xs.length := by omega
        subst hi'
        rw [List.drop_length] at p'
        exact .inl ⟨yy.2 (Nat.le_refl _), p' σ' G' H' L' (.refl gh) e' n' (.refl _ _)⟩
def wipeE (ρ : Env) : List Nat → Env
  | [] => ρ
  | v :: vs => (wipeE ρ vs).set v none
theorem wipe_ok {G H : Hp} {ρ : Env} {σ : St} : ∀ {vs : List Nat} {L : List Addr}, EnvR K κ G H ρ σ L → L.Nodup → ∃ L', EnvR K κ G H (wipeE ρ vs) (wipe σ vs) L' ∧ L'.Nodup ∧ ∀ a ∈ L', a ∈ L
  | [], L, r, n => ⟨L, r, n, fun _ z => z⟩
  | v :: vs, L, r, n => by
    obtain ⟨L1, h1, h2, h3⟩ := wipe_ok (vs := vs) r n
    obtain ⟨L2, k1, k2, k3⟩ := h1.forget v none h2
    exact ⟨L2, k1, k2, fun a z => h3 a (k3 a z)⟩
theorem wipe_none {σ : St} : ∀ {vs : List Nat} {i : Nat}, i ∈ vs → (wipe σ vs)[i]? = none ∨ (wipe σ vs)[i]? = some none
  | v :: vs, i, h => by
    show ((wipe σ vs).set v none)[i]? = none ∨ ((wipe σ vs).set v none)[i]? = some none
    rw [List.getElem?_set]
    by_cases e : v = i
    · rw [if_pos e]
      split
      · exact .inr rfl
      · exact .inl rfl
    · rw [if_neg e]
      rcases List.mem_cons.mp h with z | z
      · exact absurd z.symm e
      · exact wipe_none z
theorem wipe_ne {σ : St} : ∀ {vs : List Nat} {i : Nat}, i ∉ vs → (wipe σ vs)[i]? = σ[i]?
  | [], _, _ => rfl
  | v :: vs, i, h => by
    show ((wipe σ vs).set v none)[i]? = _
    rw [List.getElem?_set_ne (fun z => h (by simp [z]))]
    exact wipe_ne fun z => h (List.mem_cons_of_mem _ z)
/-- slots of vs alone differ -/
theorem wipe_keep {σ σ2 : St} {vs : List Nat} (hl : σ2.length = σ.length) (k : ∀ i, i ∉ vs → σ2[i]? = (wipe σ vs)[i]?) : wipe σ2 vs = wipe σ vs := by
  apply List.ext_getElem?
  intro i
  by_cases h : i ∈ vs
  · have l2 : (wipe σ2 vs).length = (wipe σ vs).length := by rw [wipe_length, wipe_length, hl]
    rcases wipe_none (σ := σ2) h with a | a <;> rcases wipe_none (σ := σ) h with b | b
    · rw [a, b]
    · have h1 := List.getElem?_eq_none_iff.mp a
      have h2 := (List.getElem?_eq_some_iff.mp b).1
      omega
    · have h1 := List.getElem?_eq_none_iff.mp b
      have h2 := (List.getElem?_eq_some_iff.mp a).1
      omega
    · rw [a, b]
  · rw [wipe_ne h, k i h]
def loopC (vs : List Nat) (put : D → Env → Option Env) (t : Env → R Env Bool) (e : Env → R Env W) : List D → Env → List D → R Env (List D)
  | [], ρ, acc => .ok acc ρ
  | x :: xs, ρ, acc => match put x ρ with
    | none => .bad
    | some ρ1 => match t ρ1 with
      | .ok true ρ2 => match e ρ2 with
        | .ok (.d y) ρ3 => if acc.length < 1000000 then loopC vs put t e xs (wipeE ρ3 vs) (acc ++ [y]) else .bad
        | _ => .bad
      | .ok false ρ2 => loopC vs put t e xs (wipeE ρ2 vs) acc
      | _ => .bad
def unwE : Env → List Nat → Env
  | ρ, [] => ρ
  | ρ, v :: vs => unwE (ρ.set v none) vs
theorem unw_ok {G H : Hp} {σ : St} : ∀ {vs : List Nat} {ρ : Env} {L : List Addr}, EnvR K κ G H ρ (wipe σ vs) L → L.Nodup → ∃ L', EnvR K κ G H (unwE ρ vs) σ L' ∧ L'.Nodup ∧ ∀ a ∈ L', a ∈ L
  | [], ρ, L, r, n => ⟨L, r, n, fun _ z => z⟩
  | v :: vs, ρ, L, r, n => by
    have r : EnvR K κ G H ρ ((wipe σ vs).set v none) L := r
    have key : ∃ L1, EnvR K κ G H (ρ.set v none) (wipe σ vs) L1 ∧ L1.Nodup ∧ ∀ a ∈ L1, a ∈ L := by
      cases h : (wipe σ vs)[v]? with
      | none =>
        obtain ⟨L1, h1, h2, h3⟩ := r.forget v none n
        have e : ((wipe σ vs).set v none).set v none = wipe σ vs := by
          have hl := List.getElem?_eq_none_iff.mp h
          rw [List.set_set, List.set_eq_of_length_le hl]
        rw [e] at h1
        exact ⟨L1, h1, h2, h3⟩
      | some u =>
        obtain ⟨L1, h1, h2, h3⟩ := r.forget v u n
        have e : ((wipe σ vs).set v none).set v u = wipe σ vs := by
          obtain ⟨hl, e1⟩ := List.getElem?_eq_some_iff.mp h
          rw [List.set_set, ← e1]
          exact List.set_getElem_self hl
        rw [e] at h1
        exact ⟨L1, h1, h2, h3⟩
    obtain ⟨L1, h1, h2, h3⟩ := key
    obtain ⟨L2, k1, k2, k3⟩ := unw_ok (vs := vs) h1 h2
    exact ⟨L2, k1, k2, fun a z => h3 a (k3 a z)⟩
/-- the block's own names are forgotten behind it -/
def evLc (it : Env → R Env (List D)) (put : D → Env → Option Env) (t : Env → R Env Bool) (e : Env → R Env W) (vs : List Nat) : Env → R Env (List D) := fun ρ =>
  (it ρ).bind fun xs ρ => (loopC vs put t e xs (wipeE ρ vs) []).bind fun ys ρ => .ok ys (unwE ρ vs)
abbrev W0 : WX := fun _ _ _ _ => False
/-- the core: a new list at D, data of it in hand, no one else's -/
theorem lc_ok {it : SI K κ} {g : SG K κ} {t : ST K κ} {e : SE K κ} {vs : List Nat} (hv : ∀ i ∈ g.asg, i ∈ vs) {Wx : WX} {G H : Hp} {ρ : Env} {σ : St} {L : List Addr} {Q : VK} (hG : Ex G H) (hE : EnvR K κ G H ρ σ L) (hN : L.Nodup)
    (hne : ∀ c f ρ', it.ev ρ = .exc c f ρ' → ∀ dd G' H' L', Stp G H L G' H' L' → EnvR K κ G' H' ρ' σ L' → L'.Nodup → ExF K κ G' c f dd → Wx (.ref (κ.at_ c)) dd σ H') (hnb : evLc it.ev g.put t.ev e.ev vs ρ ≠ .bad)
    (k : ∀ ys ρ' a us G' H' L', evLc it.ev g.put t.ev e.ev vs ρ = .ok ys ρ' → Stp G H L G' H' ([a] ++ L') → EnvR K κ G' H' ρ' σ L' → ([a] ++ L').Nodup → G' a = none → H' a = some (.lst us) → RpAll K κ G' us ys → Q (.ref a) H') :
    tLc (it.ti Wx) g.tg (t.tt W0) (e.te W0) vs σ H Q := by
  refine it.ok Wx G H ρ σ L _ hG hE hN ?_
  unfold evLc at hnb k
  cases hi : it.ev ρ with
  | exc c f ρ1 => exact hne c f ρ1 hi
  | bad => rw [hi] at hnb; exact absurd rfl hnb
  | ok xs ρ1 =>
    rw [hi] at hnb k
    intro J G1 H1 Lw L1 u e1 y nd
    obtain ⟨rfl, y⟩ := y
    have nd : L1.Nodup := nd
    have u : Stp G H L G1 H1 L1 := u
    intro D hD
    obtain ⟨Lw, w1, w2, w3⟩ := wipe_ok (vs := vs) e1 nd
    have ndD : ([D] ++ Lw).Nodup := own_nodup hD w1 w2
    simp only [R.bind_ok] at hnb k
    refine ⟨fun i m H' => m = xs.length - i ∧ i ≤ xs.length ∧ ∃ G' L' ρ' us acc, Ex G1 G' ∧ Stp G H L G' H' ([D] ++ L') ∧ EnvR K κ G' H' ρ' (wipe σ vs) L' ∧ ([D] ++ L').Nodup ∧ G' D = none ∧ H' D = some (.lst us) ∧ RpAll K κ G' us acc ∧ loopC vs g.put t.ev e.ev xs (wipeE ρ1 vs) [] = loopC vs g.put t.ev e.ev (xs.drop i) ρ' acc,
      ⟨xs.length, by simp, Nat.zero_le _, G1, Lw, wipeE ρ1 vs, [], [], Evl.Ex.refl _, u.trans ((Stp.own u.gh hD).sub fun a z => ?_), w1.ownNew hD, ndD, fresh u.gh hD, upd_same, .nil, by simp⟩, ?_⟩
    · rcases List.mem_append.mp z with z | z
      · exact List.mem_append_left _ z
      · exact List.mem_append_right _ (w3 a z)
    rintro i m H' ⟨rfl, hle, G', L', ρ', us, acc, g1, st, e', n', gD, hD', ra, eq⟩
    have yy := y G' H' i g1 st.gh
    have nda := List.nodup_append.mp n'
    by_cases hlt : i < xs.length
    · have hx : xs[i]? = some xs[i] := List.getElem?_eq_getElem hlt
      obtain ⟨go, yd⟩ := yy.1 _ hx
      have hd : xs.drop i = xs[i] :: xs.drop (i + 1) := List.drop_eq_getElem_cons hlt
      rw [hd] at eq
      refine .inr ⟨go, fun H2 => ∃ G2 L2 ρ2 us acc, Ex G1 G2 ∧ Stp G H L G2 H2 ([D] ++ L2) ∧ EnvR K κ G2 H2 ρ2 (wipe σ vs) L2 ∧ ([D] ++ L2).Nodup ∧ G2 D = none ∧ H2 D = some (.lst us) ∧ RpAll K κ G2 us acc ∧ loopC vs g.put t.ev e.ev xs (wipeE ρ1 vs) [] = loopC vs g.put t.ev e.ev (xs.drop (i + 1)) ρ2 acc, fun H2 z => ⟨xs.length - (i + 1), by omega, rfl, by omega, z⟩, fun v H'' hy => ?_⟩
      obtain ⟨G'', s1, rv⟩ := yd v H'' hy
      have e'' := e'.grow s1
      have st1 : Stp G H L G'' H'' ([D] ++ L') := st.trans s1.grow
      have gD1 : G'' D = none := s1.gn D (by rw [hD']; exact Option.some_ne_none _) (fun z => nomatch z) gD
      have hD1 : H'' D = some (.lst us) := s1.h D _ hD' (fun z => nomatch z) ntL
      have ra1 := ra.mono s1.g
      simp only [loopC] at eq
      cases hp : g.put xs[i] ρ' with
      | none => rw [hp] at eq; rw [eq] at hnb; exact absurd rfl hnb
      | some ρ2 =>
        rw [hp] at eq
        refine g.ok G'' H'' ρ' ρ2 _ L' v _ _ s1.gh e'' nda.2.1 rv hp fun σ2 L2 e2 n2 s2 k2 => ?_
        have len2 : σ2.length = σ.length := k2.1.trans (wipe_length σ vs)
        have wk : wipe σ2 vs = wipe σ vs := wipe_keep len2 fun j nj => k2.2 j fun z => nj (hv j z)
        refine ⟨wk, ?_⟩
        have st2 : Stp G H L G'' H'' ([D] ++ L2) := st1.sub fun a z => by
          rcases List.mem_append.mp z with z | z
          · exact List.mem_append_left _ z
          · exact List.mem_append_right _ (s2 a z)
        have nD2 : D ∉ L2 := fun z => nda.2.2 D (by simp) D (s2 D z) rfl
        dsimp only at eq
        refine t.ok W0 G'' H'' ρ2 σ2 L2 _ s1.gh e2 n2 ?_
        cases ht : t.ev ρ2 with
        | exc c f ρ3 => rw [ht] at eq; rw [eq] at hnb; exact absurd rfl hnb
        | bad => rw [ht] at eq; rw [eq] at hnb; exact absurd rfl hnb
        | ok b ρ3 =>
          rw [ht] at eq
          intro b' G3 H3 Lx L3 s3 e3 rb n3
          obtain ⟨rfl, rfl⟩ := rb
          have s3 : Stp G'' H'' L2 G3 H3 L3 := s3
          have n3 : L3.Nodup := n3
          have nD3 : D ∉ L3 := fun z => (s3.ln D z).elim nD2 fun q => by rw [hD1] at q; cases q
          have st3 : Stp G H L G3 H3 ([D] ++ L3) := st2.trans (s3.wide (fun a z => List.mem_append_right _ z) fun a z => by
            rcases List.mem_append.mp z with z | z
            · exact .inr (List.mem_append_left _ z)
            · exact .inl z)
          have gD3 : G3 D = none := s3.gn D (by rw [hD1]; exact Option.some_ne_none _) nD2 gD1
          have hD3 : H3 D = some (.lst us) := s3.h D _ hD1 nD2 ntL
          have ra3 := ra1.mono s3.g
          cases b with
          | false =>
            rw [if_neg Bool.false_ne_true]
            dsimp only at eq
            obtain ⟨L4, w1, w2, w3⟩ := wipe_ok (vs := vs) e3 n3
            rw [wk] at w1
            refine ⟨G3, L4, wipeE ρ3 vs, us, acc, g1.trans (s1.g.trans s3.g), st3.sub fun a z => ?_, w1, List.nodup_append.mpr ⟨by simp, w2, fun a x b y z => ?_⟩, gD3, hD3, ra3, eq⟩
            · rcases List.mem_append.mp z with z | z
              · exact List.mem_append_left _ z
              · exact List.mem_append_right _ (w3 a z)
            · simp only [List.mem_singleton] at x
              subst x z
              exact nD3 (w3 _ y)
          | true =>
            rw [if_pos rfl]
            dsimp only at eq
            refine e.ok W0 G3 H3 ρ3 σ2 L3 _ s3.gh e3 n3 ?_
            cases he : e.ev ρ3 with
            | exc c f ρ4 => rw [he] at eq; rw [eq] at hnb; exact absurd rfl hnb
            | bad => rw [he] at eq; rw [eq] at hnb; exact absurd rfl hnb
            | ok w ρ4 =>
              rw [he] at eq
              cases w with
              | ml _ => rw [eq] at hnb; exact absurd rfl hnb
              | md _ => rw [eq] at hnb; exact absurd rfl hnb
              | mm _ => rw [eq] at hnb; exact absurd rfl hnb
              | d yy' =>
                dsimp only at eq
                by_cases hz : acc.length < 1000000
                · rw [if_pos hz] at eq
                  intro v4 G4 H4 Lx L4 s4 e4 r4 n4
                  obtain ⟨rfl, r4⟩ := r4
                  have s4 : Stp G3 H3 L3 G4 H4 L4 := s4
                  have n4 : L4.Nodup := n4
                  have nD4 : D ∉ L4 := fun z => (s4.ln D z).elim nD3 fun q => by rw [hD3] at q; cases q
                  have st4 : Stp G H L G4 H4 ([D] ++ L4) := st3.trans (s4.wide (fun a z => List.mem_append_right _ z) fun a z => by
                    rcases List.mem_append.mp z with z | z
                    · exact .inr (List.mem_append_left _ z)
                    · exact .inl z)
                  have gD4 : G4 D = none := s4.gn D (by rw [hD3]; exact Option.some_ne_none _) nD3 gD3
                  have hD4 : H4 D = some (.lst us) := s4.h D _ hD3 nD3 ntL
                  have ra4 := (ra3.mono s4.g).append (.cons r4 .nil)
                  have hl := ra.length
                  refine ⟨us, hD4, Nat.lt_of_lt_of_le (by omega : us.length < 1000000) (by decide), ?_⟩
                  obtain ⟨L5, w1, w2, w3⟩ := wipe_ok (vs := vs) e4 n4
                  rw [wk] at w1
                  have nD5 : D ∉ L5 := fun z => nD4 (w3 D z)
                  have nt4 : ∀ ps, H4 D ≠ some (.tbl ps) := fun ps z => by rw [hD4] at z; cases z
                  have s5 : Stp G4 H4 ([D] ++ L4) G4 (upd H4 D (.lst (us ++ [v4]))) ([D] ++ L5) := by
                    refine ⟨Evl.Ex.refl _, fun b o q n _ => ?_, fun b q => ?_, fun _ _ _ q => q, fun b z => ?_, fun b o q => ?_, tab_put nt4⟩
                    · rw [upd_ne (fun z => n (by simp [z]))]; exact q
                    · by_cases z : b = D
                      · rw [z, upd_same] at q; cases q
                      · rw [upd_ne z] at q; exact q
                    · rcases List.mem_append.mp z with z | z
                      · exact .inl (List.mem_append_left _ z)
                      · exact .inl (List.mem_append_right _ (w3 b z))
                    · have z : b ≠ D := fun z => by rw [z, gD4] at q; cases q
                      rw [upd_ne z]; exact s4.gh b o q
                  refine ⟨G4, L5, wipeE ρ4 vs, us ++ [v4], acc ++ [yy'], g1.trans (s1.g.trans (s3.g.trans s4.g)), st4.trans s5, w1.keep (Evl.Ex.refl _) (fun a z => (w1.there a z).2) (fun a z o q => ?_) (fun t => t.put nt4), List.nodup_append.mpr ⟨by simp, w2, fun a x b y z => ?_⟩, gD4, upd_same, ra4, eq⟩
                  · rw [upd_ne (fun q => nD5 (by rw [← q]; exact z))]; exact q
                  · simp only [List.mem_singleton] at x
                    subst x z
                    exact nD5 y
                · rw [if_neg hz] at eq
                  rw [eq] at hnb
                  exact absurd rfl hnb
    · have hi' : i = xs.length := by omega
      subst hi'
      rw [List.drop_length] at eq
      refine .inl ⟨yy.2 (Nat.le_refl _), ?_⟩
      have eq' : loopC vs g.put t.ev e.ev xs (wipeE ρ1 vs) [] = .ok acc ρ' := eq
      rw [eq'] at k
      obtain ⟨L2, k1, k2, k3⟩ := unw_ok e' nda.2.1
      refine k acc (unwE ρ' vs) D us G' H' L2 rfl (st.sub fun a z => ?_) k1 (List.nodup_append.mpr ⟨nda.1, k2, fun a x b y => nda.2.2 a x b (k3 b y)⟩) gD hD' ra
      rcases List.mem_append.mp z with z | z
      · exact List.mem_append_left _ z
      · exact List.mem_append_right _ (k3 a z)
end
end Pv
set_option maxRecDepth 100000
set_option maxHeartbeats 2000000
namespace Pv
open PySem PySem.Spec PyProof.Rows L2
section
variable {K : PySem.W.Frag} {κ : Cls}
theorem evLc_of {it : Env → R Env (List D)} {put : D → Env → Option Env} {t : Env → R Env Bool} {e : Env → R Env W} {vs : List Nat} {ρ ρ' : Env} {c : Nat} {f : Option D} (h : it ρ = .exc c f ρ') : evLc it put t e vs ρ = .exc c f ρ' := by
  unfold evLc
  rw [h]
  rfl
/-- [e for x in xs if t], never changed -/
def eLc (it : SI K κ) (g : SG K κ) (t : ST K κ) (e : SE K κ) (vs : List Nat) (hv : ∀ i ∈ g.asg, i ∈ vs) : SE K κ where
  te := fun Wx => tLc (it.ti Wx) g.tg (t.tt W0) (e.te W0) vs
  ev := fun ρ => (evLc it.ev g.put t.ev e.ev vs ρ).bind fun ys ρ => .ok (.d (.lst ys)) ρ
  ok := fun Wx G H ρ σ L Q hG hE hN p => by
    dsimp only at p
    refine lc_ok hv hG hE hN (fun c f ρ' h => ?_) (fun h => ?_) fun ys ρ' a us G' H' L' h st en nd ga ha ra => ?_
    · rw [evLc_of h] at p; exact p
    · rw [h] at p; exact p
    · rw [h] at p
      have nda := List.nodup_append.mp nd
      have na : ∀ b ∈ L', b ≠ a := fun b z q => nda.2.2 a (by simp) b z q.symm
      refine p (.ref a) (upd G' a (.lst us)) H' [] L' ⟨st.g.trans (Evl.Ex.new ga), st.h, st.t, fun b q n z => ?_, fun b z => st.ln b (List.mem_append_right _ z), fun b o q => ?_, st.tb⟩ (en.keep (Evl.Ex.new ga) (fun b z => ?_) (fun _ _ _ q => q) fun t => t.give fun ps z => by rw [ha] at z; cases z) ⟨rfl, .lst (SqL.of upd_same) (ra.mono (Evl.Ex.new ga))⟩ nda.2.1
      · have : b ≠ a := fun w => by
          subst w
          rcases st.ln b (by simp) with r | r
          · exact n r
          · exact q r
        rw [upd_ne this]; exact st.gn b q n z
      · by_cases w : b = a
        · rw [w, upd_same] at q
          rw [w, ha]; exact q
        · rw [upd_ne w] at q; exact st.gh b o q
      · rw [upd_ne (na b z)]; exact (en.there b z).2
def tYes' : ST K κ where
  tt := fun _ => tYes
  ev := fun ρ => .ok true ρ
  ok := fun Wx G H ρ σ L Q hG hE hN p => p true G H [] L (.refl hG) hE ⟨rfl, rfl⟩ hN
def gMax2 : List D → Option D
  | [.int m, .int n] => some (.int (if n > m then n else m))
  | _ => none
def gMin2 : List D → Option D
  | [.int m, .int n] => some (.int (if n < m then n else m))
  | _ => none
def rMax2 : List V → Hp → VK → Prop := fun xs H Q => ∃ i j, xs = [.int i, .int j] ∧ Q (.int (if j > i then j else i)) H
def rMin2 : List V → Hp → VK → Prop := fun xs H Q => ∃ i j, xs = [.int i, .int j] ∧ Q (.int (if j < i then j else i)) H
theorem cb2I {r : List V → Hp → VK → Prop} {f : Int → Int → Int} {g : List D → Option D} (hr : ∀ i j H Q, Q (.int (f i j)) H → r [.int i, .int j] H Q) (hg : ∀ xs z, g xs = some z → ∃ i j, xs = [.int i, .int j] ∧ z = .int (f i j)) : CbS K κ r g := fun G H vs xs z Q hG ra e k => by
  obtain ⟨i, j, rfl, rfl⟩ := hg xs z e
  cases ra with
  | cons h t =>
    cases h
    cases t with
    | cons h t =>
      cases h
      cases t
      exact hr i j H Q (k _ G H (.refl0 hG) (.int _))
theorem cbMax2 : CbS K κ rMax2 gMax2 := cb2I (f := fun i j => if j > i then j else i) (fun i j H Q q => ⟨i, j, rfl, q⟩) fun xs z e => by
  unfold gMax2 at e
  split at e
  · cases e; exact ⟨_, _, rfl, rfl⟩
  · cases e
theorem cbMin2 : CbS K κ rMin2 gMin2 := cb2I (f := fun i j => if j < i then j else i) (fun i j H Q q => ⟨i, j, rfl, q⟩) fun xs z e => by
  unfold gMin2 at e
  split at e
  · cases e; exact ⟨_, _, rfl, rfl⟩
  · cases e
def eMax2 := eCB (K := K) (κ := κ) _ _ cbMax2
def eMin2 := eCB (K := K) (κ := κ) _ _ cbMin2
/-- all(xs), any(xs) of truths -/
def bools : List D → Option (List Bool)
  | [] => some []
  | .bl b :: xs => match bools xs with
    | some bs => some (b :: bs)
    | none => none
  | _ :: _ => none
theorem bools_ok {G : Hp} : ∀ {vs : List V} {xs : List D} {bs : List Bool}, RpAll K κ G vs xs → bools xs = some bs → vs = bs.map V.bl
  | _, _, bs, .nil, e => by cases e; rfl
  | _, _, bs, .cons (x := x) h t, e => by
    cases h with
    | bl b =>
      simp only [bools] at e
      split at e
      · rename_i cs hc
        cases e
        rw [bools_ok t hc]
        rfl
      · cases e
    | _ => cases e
def gAll : List D → Option D
  | [.lst xs] => match bools xs with
    | some bs => some (.bl (bs.all id))
    | none => none
  | _ => none
def gAny : List D → Option D
  | [.lst xs] => match bools xs with
    | some bs => some (.bl (bs.any id))
    | none => none
  | _ => none
theorem cbAll : CbS K κ (rAll K) gAll := fun G H vs xs z Q hG ra e k => by
  unfold gAll at e
  split at e
  · rename_i ys
    split at e
    · rename_i bs hb
      cases e
      cases ra with
      | cons h t =>
        cases t
        cases h with
        | lst hs rs =>
          have := bools_ok rs hb
          subst this
          exact ⟨_, bs, rfl, ex_l hG hs, k _ G H (.refl0 hG) (.bl _)⟩
    · cases e
  · cases e
theorem cbAny : CbS K κ (rAny K) gAny := fun G H vs xs z Q hG ra e k => by
  unfold gAny at e
  split at e
  · rename_i ys
    split at e
    · rename_i bs hb
      cases e
      cases ra with
      | cons h t =>
        cases t
        cases h with
        | lst hs rs =>
          have := bools_ok rs hb
          subst this
          exact ⟨_, bs, rfl, ex_l hG hs, k _ G H (.refl0 hG) (.bl _)⟩
    · cases e
  · cases e
def eAll := eCB (K := K) (κ := κ) _ _ cbAll
def eAny := eCB (K := K) (κ := κ) _ _ cbAny
def numsOf : List D → Option (List Int)
  | [] => some []
  | .int i :: xs => match numsOf xs with
    | some is => some (i :: is)
    | none => none
  | _ :: _ => none
theorem numsOf_ok {G : Hp} : ∀ {vs : List V} {xs : List D} {is : List Int}, RpAll K κ G vs xs → numsOf xs = some is → vs = is.map V.int
  | _, _, bs, .nil, e => by cases e; rfl
  | _, _, bs, .cons (x := x) h t, e => by
    cases h with
    | int b =>
      simp only [numsOf] at e
      split at e
      · rename_i cs hc
        cases e
        rw [numsOf_ok t hc]
        rfl
      · cases e
    | _ => cases e
def gSum : List D → Option D
  | [.lst xs] => match numsOf xs with
    | some is => some (.int is.sum)
    | none => none
  | _ => none
theorem cbSum : CbS K κ (rSum K) gSum := fun G H vs xs z Q hG ra e k => by
  unfold gSum at e
  split at e
  · rename_i ys
    split at e
    · rename_i is hb
      cases e
      cases ra with
      | cons h t =>
        cases t
        cases h with
        | lst hs rs =>
          have := numsOf_ok rs hb
          subst this
          exact ⟨_, is, rfl, ex_l hG hs, k _ G H (.refl0 hG) (.int _)⟩
    · cases e
  · cases e
def eSum := eCB (K := K) (κ := κ) _ _ cbSum
end
end Pv
set_option maxRecDepth 100000
set_option maxHeartbeats 4000000
namespace Pv
open PySem PySem.Spec PyProof.Rows L2
/-- what «except x as n: y = n» wishes: i the slot of n, j of y -/
def wKeep (K : PySem.W.Frag) (c : Value) (i j : Nat) (Wout : WX) (E : Ends) : WX := fun cls d σ H => ∃ b, PySem.W.exmOne K cls c = some b ∧
  (b = true → ∀ a, H a = none → E.nx (((σ.set i (some (.ref a))).set j (some (.ref a))).set i none) (upd H a (ExV cls d a))) ∧ (b = false → Wout cls d σ H)
end Pv
set_option maxRecDepth 100000
set_option maxHeartbeats 4000000
namespace Pv
open PySem PySem.Spec PyProof.Rows L2
def tyD (κ : Cls) : D → Value
  | .non => .type "NoneType"
  | .bl _ => .type "bool"
  | .int _ => .type "int"
  | .str _ => .type "str"
  | .tup _ => .type "tuple"
  | .lst _ => .type "list"
  | .exc k => .ref (κ.at_ k)
  | .excF k _ => .ref (κ.at_ k)
  | .tupW _ => .type "tuple"
  | .dic _ _ => .type "dict"
/-- what a class of exceptions must say, where x is one without a field -/
def IsK (K : PySem.W.Frag) (κ : Cls) : D → Prop
  | .exc k => ExcC K (κ.at_ k)
  | .excF _ _ => False
  | .tupW _ => False
  | .dic _ _ => False
  | _ => True
def rIsD (K : PySem.W.Frag) (κ : Cls) : List V → Hp → VK → Prop := fun vs H Q => ∃ (v c : V) (x : D) (u : Value) (b : Bool), vs = [v, c] ∧ ClsV c u ∧ Rp K κ H v x ∧ IsK K κ x ∧ PySem.W.kitOne K (tyD κ x) u = some b ∧ Q (.bl b) H
theorem ty_tup {K : PySem.W.Frag} {H : Hp} {a : Addr} {vs : List V} (h : SqT K H a vs) : TyX K H (.ref a) (.type "tuple") := by
  rcases h with (h | ⟨o, h⟩) | ⟨o, its, n, h1, h2, _⟩
  · exact .base (.tup h)
  · exact .fTuple h
  · exact .kTuple h1 h2
theorem ty_lst {K : PySem.W.Frag} {H : Hp} {a : Addr} {vs : List V} (h : SqL K H a vs) : TyX K H (.ref a) (.type "list") := by
  rcases h with (h | ⟨o, h⟩) | ⟨o, its, n, h1, h2, _⟩
  · exact .base (.lst h)
  · exact .base (.frz h)
  · exact .kList h1 h2
theorem call_isD {X : Cx} {κ : Cls} : CallR X (.builtin "isinstance") (rIsD X.K κ) := by
  intro pins s σ H vs us Q I r h
  obtain ⟨v, c, x, u, b, rfl, hc, rx, hk, e, q⟩ := h
  have plain : ∀ t, TyX X.K H v t → t = tyD κ x → wpAny (model X.prog X.w) X.A (call (.builtin "isinstance") us) (EP X pins σ Q) X.xe s := fun t ht et => by
    subst et
    exact call_isi pins s σ H _ us Q I r ⟨v, c, _, u, b, rfl, hc, ht, e, q⟩
  cases rx with
  | non => exact plain _ (.base .non) rfl
  | bl b => exact plain _ (.base (.bl b)) rfl
  | int i => exact plain _ (.base (.int i)) rfl
  | str i => exact plain _ (.base (.str i)) rfl
  | tup h _ => exact plain _ (ty_tup h.sq) rfl
  | lst h _ => exact plain _ (ty_lst h) rfl
  | excF _ _ _ => exact hk.elim
  | tupW _ _ => exact hk.elim
  | dic _ _ => exact hk.elim
  | @exc a k ha =>
    cases r with
    | cons r1 r =>
      cases r with
      | cons r2 r =>
        cases r
        cases r1
        have ew := hc.eq r2
        subst ew
        obtain ⟨⟨oe, ve, get, z, data⟩, _⟩ := I.hok a _ ha
        have J : PySem.W.InstAt s.heap a oe (κ.at_ k) none := by
          obtain ⟨oc, od, oda, osl⟩ := oe
          obtain ⟨h1, h2⟩ := z
          dsimp only at h1 h2 data
          subst h1 h2 data
          exact ⟨get, rfl, rfl, trivial⟩
        have C : ExcC X.K (κ.at_ k) := hk
        exact PySem.W.kia_one (PySem.W.handS_kitx_exc C.hg C.hk C.hs C.hd C.ha C.hn C.ht C.hm) I.kIn J e (fun z => nomatch z) fun tk => ⟨.bl b, H, I.kept (t' := tk) fun _ _ z => z, rfl, q⟩
section
variable {K : PySem.W.Frag} {κ : Cls}
/-- isinstance(e, C): g is the answer -/
def eIs (c : V) (u : Value) (hc : ClsV c u) (g : D → Option Bool) (hg : ∀ x b, g x = some b → IsK K κ x ∧ PySem.W.kitOne K (tyD κ x) u = some b) (a : SE K κ) : SE K κ where
  te := fun Wx => tCB (rIsD K κ) (tCons (a.te Wx) (tCons (tC c) tNil))
  ev := fun ρ => (a.ev ρ).bindD fun x ρ => match g x with
    | some b => .ok (.d (.bl b)) ρ
    | none => .bad
  ok := fun Wx G H ρ σ L Q hG hE hN p => a.ok.then hG hE hN p fun x vx ρ1 G1 H1 L1 u1 e1 n1 r1 p => by
    cases h : g x with
    | none => rw [h] at p; exact p.elim
    | some b =>
      rw [h] at p
      obtain ⟨h1, h2⟩ := hg x b h
      exact ⟨vx, c, x, u, b, rfl, hc, r1.mono u1.gh, h1, h2, p.ret (.refl u1.gh) e1 n1 (.bl _)⟩
/-- a built-in class, of data without exceptions -/
def gTy (n : String) : D → Option Bool
  | .non => kitB "NoneType" n
  | .bl _ => kitB "bool" n
  | .int _ => kitB "int" n
  | .str _ => kitB "str" n
  | .tup _ => kitB "tuple" n
  | .lst _ => kitB "list" n
  | _ => none
theorem gTy_ok {n : String} (x : D) (b : Bool) (h : gTy n x = some b) : IsK K κ x ∧ PySem.W.kitOne K (tyD κ x) (.type n) = some b := by
  cases x <;> first | exact ⟨trivial, kit_ty h⟩ | (exact nomatch h)
def eIsTy (n : String) (a : SE K κ) : SE K κ := eIs (.ty n) (.type n) (.ty n) (gTy n) gTy_ok a
/-- raise X(), X the k-th class -/
def sRaise (k : Nat) : SS K κ where
  ts := fun Wx => fun _ σ H => Wx (.ref (κ.at_ k)) none σ H
  sv := fun ρ => .exc k none ρ
  asg := []
  ok := fun Wx G H ρ σ L E hG hE hN p => p none σ G H L (.refl hG) hE hN (.refl _ _) rfl
/-- the exception as a value -/
def D.ofExc (k : Nat) : Option D → D
  | none => .exc k
  | some y => .excF k y
/-- try: body except X as n: y = n, X a class above all own ones; i the slot of n, j of y -/
def sTry (c : Value) (i j : Nat) (hij : i ≠ j) (f : Nat → Bool) (hf : ∀ k, f k = true → PySem.W.exmOne K (.ref (κ.at_ k)) c = some true) (b : SS K κ) : SS K κ where
  ts := fun Wx => fun E σ H => b.ts (wKeep K c i j Wx E) E σ H
  sv := fun ρ => match b.sv ρ with
    | .exc k x ρ => if f k = true ∧ i < ρ.length ∧ j < ρ.length then .ok .nx ((ρ.set i none).set j (some (.d (D.ofExc k x)))) else .bad
    | r => r
  asg := b.asg ++ [i, j]
  ok := fun Wx G H ρ σ L E hG hE hN p => by
    refine b.ok _ G H ρ σ L E hG hE hN ?_
    have sub : ∀ m ∈ b.asg, m ∈ b.asg ++ [i, j] := fun m z => List.mem_append_left _ z
    dsimp only at p
    cases h : b.sv ρ with
    | ok fl ρ1 =>
      rw [h] at p
      cases fl with
      | nx => exact fun σ' G' H' L' s e n q => p σ' G' H' L' s e n (q.wide sub)
      | bk => exact fun σ' G' H' L' s e n q => p σ' G' H' L' s e n (q.wide sub)
      | ct => exact fun σ' G' H' L' s e n q => p σ' G' H' L' s e n (q.wide sub)
      | rt w => exact fun v σ' G' H' Lw L' s e q n kk => p v σ' G' H' Lw L' s e q n (kk.wide sub)
    | bad => rw [h] at p; exact p.elim
    | exc k x ρ1 =>
      rw [h] at p
      dsimp only at p
      split at p
      · rename_i hh
        obtain ⟨hk, hi, hj⟩ := hh
        intro dd σ1 G1 H1 L1 s1 e1 n1 k1 x1
        refine ⟨true, hf k hk, fun _ a na => ?_, fun z => nomatch z⟩
        have gn : G1 a = none := fresh s1.gh na
        have st : Stp G1 H1 L1 (upd G1 a (ExV (.ref (κ.at_ k)) dd a)) (upd H1 a (ExV (.ref (κ.at_ k)) dd a)) L1 := .new s1.gh na
        have e2 := e1.new (o := ExV (.ref (κ.at_ k)) dd a) s1.gh na
        obtain ⟨L2, f1, f2, f3⟩ := e2.forget i none n1
        have rv : Rp K κ (upd G1 a (ExV (.ref (κ.at_ k)) dd a)) (.ref a) (D.ofExc k x) := by
          cases x with
          | none =>
            have : dd = none := x1
            subst this
            exact .exc upd_same
          | some y =>
            obtain ⟨p', v', rfl, h1, h2⟩ := x1
            exact .excF upd_same (Evl.Ex.new gn _ _ h1) (h2.mono (Evl.Ex.new gn))
        obtain ⟨L3, g1, g2, g3⟩ := f1.put (w := .d _) (v := .ref a) (B := []) j ⟨rfl, rv⟩ f2 (by simpa using hj)
        have es : ((σ1.set i (some (.ref a))).set j (some (.ref a))).set i none = (σ1.set i none).set j (some (.ref a)) := by
          rw [List.set_comm _ _ (Ne.symm hij), List.set_set]
        rw [es]
        refine p _ _ _ L3 (s1.trans (st.sub fun b z => ?_)) g1 g2 ?_
        · have := g3 b z
          exact f3 b (by simpa using this)
        · refine ⟨by simp [k1.1], fun m hm => ?_⟩
          have m1 : m ∉ b.asg := fun z => hm (List.mem_append_left _ z)
          have m2 : i ≠ m := fun z => hm (by simp [z])
          have m3 : j ≠ m := fun z => hm (by simp [z])
          rw [List.getElem?_set_ne m3, List.getElem?_set_ne m2]
          exact k1.2 m m1
      · exact p.elim
end
end Pv
set_option maxRecDepth 100000
set_option maxHeartbeats 4000000
namespace Pv
open PySem PySem.Spec PyProof.Rows L2
structure FnG (P : Program) (w : World) (K : PySem.W.Frag) (mg : Str → Option Value) (base : Heap) (k : Nat) (f : Addr) (fd : FuncData) (ps : List Str) (sp : Sp) : Prop where
  len : ∀ vs H Q E, sp vs H Q E → vs.length = ps.length
  run : ∀ (A : Around) (outer : List PySem.Env) (s : Shared) (H : Hp) (args : Args) (us : List Value) (vs : List V) (Q : VK) (E : XK), Room k A → A.guards = some [] → Env0 P w K mg base A outer s H → BindsTo s fd args (ps.zip us) → Vals vs us → sp vs H Q E →
    codeAny (model P w) A (.call (.ref f) args) (CR (L2.CX P w) outer P w H s Q E) s
section
variable {P : Program} {w : World} {K : PySem.W.Frag} {mg : Str → Option Value} {base : Heap}
theorem FnG.mono {j k : Nat} {f : Addr} {fd : FuncData} {ps : List Str} {sp : Sp} (F : FnG P w K mg base j f fd ps sp) (h : j ≤ k) : FnG P w K mg base k f fd ps sp :=
  ⟨F.len, fun A outer s H args us vs Q E hr => F.run A outer s H args us vs Q E (hr.mono h)⟩
theorem FnG.imp {k : Nat} {f : Addr} {fd : FuncData} {ps : List Str} {sp sp' : Sp} (F : FnG P w K mg base k f fd ps sp) (h : ∀ vs H Q E, sp' vs H Q E → sp vs H Q E) : FnG P w K mg base k f fd ps sp' :=
  ⟨fun vs H Q E q => F.len vs H Q E (h _ _ _ _ q), fun A outer s H args us vs Q E hr hg he hb hv hs => F.run A outer s H args us vs Q E hr hg he hb hv (h _ _ _ _ hs)⟩
/-- a def of the text by its body's reading -/
theorem fng_of {x qual : Str} {st : Stmt} {f : Addr} {fd : FuncData} {N ps : List Str} {k : Nat} {sp : Sp} (F : Fun K x qual st f fd) (S : FnScope N ps (defScope st)) (len : ∀ vs H Q E, sp vs H Q E → vs.length = ps.length)
    (body : ∀ (cdv : Value) (A : Around) (outer : List PySem.Env) (s : Shared) (H : Hp) (vs : List V) (Q : VK) (E : XK), Room k (A.deeper (envOfC qual (defScope st) s.heap.objs.size f cdv)) → (A.deeper (envOfC qual (defScope st) s.heap.objs.size f cdv)).guards = some [] → sp vs H Q E →
      ∃ t, PSs (cxOf (L2.CX P w) P w K mg base N qual (defScope st) f cdv A outer s H E) (defBody st) t ∧ t { nx := fun _ H' => Q .non H', rt := Q } (L2.start N vs) H) : FnG P w K mg base (k + 1) f fd ps sp := by
  obtain ⟨oc, od, kV, doc, pm, an, cdv, ct, osl, rfl, lk, hcd⟩ := F.ex
  refine ⟨len, fun A outer s H args us vs Q E room quiet env bound vals prom => ?_⟩
  have inHeap : K.In s.heap := env.mod.kin.keeps fun b o e => (env.bs b o e).1
  have limit : s.heap.NoLimit := env.mod.nolimit.keeps fun b o e => (env.bs b o e).1
  have kinds : ∀ y ∈ ps.zip us, (defScope st).names.lookup y.1 = some .local ∨ ((defScope st).names.lookup y.1 = some .cell ∧ ((cellsFrom (s.heap.objs.size + 1) (defScope st).names []).lookup y.1).isSome = true) := by
    rintro ⟨n, v⟩ hy
    rcases S.par n (List.of_mem_zip hy).1 with q | q
    · exact .inl q
    · exact .inr ⟨q, PySem.W.cellsFrom_some _ _ _ (.inl q)⟩
  refine codeAny_call_function room.depth (inHeap _ _ lk) rfl S.co S.gen rfl (PySem.W.codeRec_of inHeap hcd) (bound _ _ _ _ ?_)
  refine wpAny_newFunctionEnv_cells S.kind kinds fun env1 henv s1 made => ?_
  subst henv
  refine ⟨limit.keeps made.toInCall.keep, codeAny_func ?_⟩
  obtain ⟨t, ht, hq⟩ := body cdv A outer s H vs Q E (room.deeper _) quiet prom
  have I : Inv (cxOf (L2.CX P w) P w K mg base N qual (defScope st) f cdv A outer s H E) [] (L2.start N vs) H s1 := inv_start S room.hd env (len _ _ _ _ prom) vals made
  refine wpAny_mono (ht.run [] s1 (L2.start N vs) H _ I hq) (fun fl s' out => ?_) fun _ _ out => out
  cases fl with
  | ret u => exact let ⟨v, _, H', J, rv, q⟩ := out; ⟨v, H', J.os, J.bare, J.base, J.hok, rv, q⟩
  | next => exact let ⟨_, H', J, q⟩ := out; ⟨V.non, H', J.os, J.bare, J.base, J.hok, rfl, q⟩
  | brk => exact let ⟨_, _, _, q⟩ := out; q.elim
  | cont => exact let ⟨_, _, _, q⟩ := out; q.elim
end
section
variable {X : Cx} {k : Nat} {f : Addr} {fd : FuncData} {ps : List Str} {sp : Sp} {W : WX} {x : Str} {p pos : Pos} {e : Expr} {es : List Expr} {t : TA}
theorem run_g {pins : List (Addr × Obj)} {σ : St} {H : Hp} {s : Shared} {Q : VK} {us : List Value} {vs : List V} (F : FnG X.prog X.w X.K X.mg X.base k f fd ps sp) (hr : Room k X.A) (hq : X.A.guards = some []) (hb : Binds X.K fd ps []) (tk : Takes X W)
    (I : Inv X pins σ H s) (r : Vals vs us) (h : sp vs H Q (WE W σ)) : wpAny (model X.prog X.w) X.A (call (.ref f) us) (EP X pins σ Q) X.xe s := by
  have count : us.length = ps.length := r.length.symm.trans (F.len _ _ _ _ h)
  have bound := hb s us I.kIn (by rw [List.append_nil]; exact count)
  rw [List.append_nil] at bound
  refine wpAny_call (codeAny_mono (F.run X.A X.stack s H ⟨us, []⟩ us vs Q (WE W σ) hr hq I.env0 bound r h) fun res s' out => ?_)
  cases res with
  | error e => exact passAt tk σ pins H s e s' I out
  | ok fl =>
    cases fl with
    | ret u => exact I.after out
    | next => exact False.elim out
    | brk => exact False.elim out
    | cont => exact False.elim out
theorem pe_callG (F : FnG X.prog X.w X.K X.mg X.base k f fd ps sp) (hr : Room k X.A) (hq : X.A.guards = some []) (hm : X.mg x = some (.ref f)) (hk : PySem.W.keepIn X.K (.ref f) = true) (hb : Binds X.K fd ps []) (tk : Takes X W)
    (ha : PA X (e :: es) t) (hg : Gl X x := by rfl) (hdb : (x == ("__debug__" : Str)) = false := by decide) (he : starEach (e :: es) X.env = (false, eval e X.env) :: starEach es X.env := by rfl) (hpl : (backTo pos (starEach es X.env)).any (·.1) = false := by rfl) :
    PE X (.Call (.Name x p) (e :: es) [] pos) (tCallS sp (WE W) t) := ⟨fun pins s σ H Q I h =>
  wpAny_Call_Name_kw (ld_glob I hg hm (PySem.W.callWith_K (h₀ := X.base) I.ok.mod.kin hk (thn (ha.run pos pins s σ H _ I h) fun _ _ ⟨_, _, I1, r, q⟩ => ⟨I1.kIn, run_g F hr hq hb tk I1 r q⟩) he hpl) hdb)⟩
end
section
variable {P : Program} {w : World} {K : PySem.W.Frag} {κ : Cls} {mg : Str → Option Value} {base : Heap}
/-- f is a def of the text that does what the function F does -/
abbrev FnX (P : Program) (w : World) (K : PySem.W.Frag) (κ : Cls) (mg : Str → Option Value) (base : Heap) (k : Nat) (f : Addr) (fd : FuncData) (ps : List Str) (F : Fn) : Prop := FnG P w K mg base k f fd ps (spF K κ ps.length F)
theorem fnx_of {x qual : Str} {st : Stmt} {f : Addr} {fd : FuncData} {N ps : List Str} {k : Nat} {b : SS K κ} (F : Fun K x qual st f fd) (S : FnScope N ps (defScope st)) (hn : ps.length ≤ N.length)
    (h : ∀ (cdv : Value) (A : Around) (outer : List PySem.Env) (s : Shared) (H : Hp) (E : XK) (Wx : WX), Room k (A.deeper (envOfC qual (defScope st) s.heap.objs.size f cdv)) → (A.deeper (envOfC qual (defScope st) s.heap.objs.size f cdv)).guards = some [] → Takes (cxOf (L2.CX P w) P w K mg base N qual (defScope st) f cdv A outer s H E) Wx →
      ∃ t, PSs (cxOf (L2.CX P w) P w K mg base N qual (defScope st) f cdv A outer s H E) (defBody st) t ∧ t = b.ts Wx) :
    FnX P w K κ mg base (k + 1) f fd ps (fnOf N.length b.asg b.sv) := by
  refine fng_of F S (fun vs H Q E h => ?_) (fun cdv A outer s H vs Q E hr hq hsp => ?_)
  · obtain ⟨_, _, _, h, _⟩ := h
    exact h
  · obtain ⟨t, h1, h2⟩ := h cdv A outer s H E (fun cls d _ H' => E cls d H') hr hq (takes_of rfl rfl rfl rfl)
    exact ⟨t, h1, by rw [h2]; exact fn_ok b.ok hn hsp⟩
theorem FnX.imp {k : Nat} {f : Addr} {fd : FuncData} {ps : List Str} {F F' : Fn} (h : FnX P w K κ mg base k f fd ps F) (e : ∀ ws, F' ws ≠ .bad → F ws = F' ws) : FnX P w K κ mg base k f fd ps F' := FnG.imp h fun vs H Q E q => by
  obtain ⟨G, L, ws, h1, h2, h3, h4, h6, h5⟩ := q
  refine ⟨G, L, ws, h1, h2, h3, h4, h6, ?_⟩
  rw [e ws (fun z => by rw [z] at h5; exact h5)]
  exact h5
/-- what str(x) comes to -/
def D.text : D → Str
  | .str s => s
  | x => (D.py x).shown
def gStr : List D → Option D
  | [x] => if D.flat 60 x = true ∧ (D.py x).showable = true ∧ (D.text x).length ≤ 1000000 then some (.str (D.text x)) else none
  | _ => none
def rStr (K : PySem.W.Frag) : List V → Hp → VK → Prop := fun vs H Q => ∃ v x, vs = [v] ∧ (∃ κ, Rp K κ H v x) ∧ D.flat 60 x = true ∧ (D.py x).showable = true ∧ (D.text x).length ≤ sizeLine ∧ Q (.str (D.text x)) H
theorem cbStr : CbS K κ (rStr K) gStr := fun G H vs xs z Q hG ra e k => by
  unfold gStr at e
  split at e
  · rename_i x
    split at e
    · rename_i c
      cases e
      cases ra with
      | cons h t =>
        cases t
        exact ⟨_, x, rfl, ⟨κ, h.mono hG⟩, c.1, c.2.1, Nat.le_trans c.2.2 (by decide), k _ G H (.refl0 hG) (.str _)⟩
    · cases e
  · cases e
def eStrOf := eCB (K := K) (κ := κ) _ _ cbStr
end
end Pv
set_option maxRecDepth 100000
set_option maxHeartbeats 4000000
namespace Pv
open PySem PySem.Spec PyProof.Rows L2
structure Def (P : Program) (w : World) (K : PySem.W.Frag) (κ : Cls) (mg : Str → Option Value) (base : Heap) (x : Str) (l : Nat) (ps : List Str) (F : Fn) : Prop where
  ex : ∃ (a : Addr) (fd : FuncData), FnX P w K κ mg base l a fd ps F ∧ mg x = some (.ref a) ∧ PySem.W.keepIn K (.ref a) = true ∧ Binds K fd ps []
section
variable {P : Program} {w : World} {K : PySem.W.Frag} {κ : Cls} {mg : Str → Option Value} {base : Heap}
theorem Def.imp {x : Str} {l : Nat} {ps : List Str} {F F' : Fn} (D : Def P w K κ mg base x l ps F) (e : ∀ ws, F' ws ≠ .bad → F ws = F' ws) : Def P w K κ mg base x l ps F' :=
  let ⟨a, fd, h, r⟩ := D.ex
  ⟨a, fd, h.imp e, r⟩
theorem def_of {x qual : Str} {st : Stmt} {a : Addr} {fd : FuncData} {l : Nat} {ps : List Str} {F : Fn} (D : Fun K x qual st a fd) (hm : mg x = some (.ref a)) (hb : Binds K fd ps []) (h : FnX P w K κ mg base l a fd ps F) : Def P w K κ mg base x l ps F := ⟨a, fd, h, hm, D.kp, hb⟩
end
section
variable {X : Cx} {κ : Cls} {l k : Nat} {ps : List Str} {F : Fn} {W : WX} {x : Str} {p pos : Pos} {e : Expr} {es : List Expr} {t : TA}
theorem pe_def (D : Def X.prog X.w X.K κ X.mg X.base x l ps F) (hr : Room k X.A) (hl : l ≤ k) (hq : X.A.guards = some []) (tk : Takes X W) (ha : PA X (e :: es) t) (hg : Gl X x := by rfl) (hdb : (x == ("__debug__" : Str)) = false := by decide)
    (he : starEach (e :: es) X.env = (false, eval e X.env) :: starEach es X.env := by rfl) (hpl : (backTo pos (starEach es X.env)).any (·.1) = false := by rfl) : PE X (.Call (.Name x p) (e :: es) [] pos) (tCallS (spF X.K κ ps.length F) (WE W) t) := by
  obtain ⟨a, fd, G, hm, hk, hb⟩ := D.ex
  exact pe_callG G (hr.mono hl) hq hm hk hb tk ha hg hdb he hpl
end
section
variable {K : PySem.W.Frag} {κ : Cls}
/-- never reached -/
def sNever : SS K κ where
  ts := fun _ => tNever
  sv := fun _ => .bad
  asg := []
  ok := fun Wx G H ρ σ L E hG hE hN p => p.elim
/-- a, b = x, y (names i, j) -/
def sPar (i j : Nat) (hij : i ≠ j) (a b : SE K κ) : SS K κ where
  ts := fun Wx => tPar i j (tCons (a.te Wx) (tCons (b.te Wx) tNil))
  sv := fun ρ => (a.ev ρ).bindD fun x ρ => (b.ev ρ).bindD fun y ρ => if i < ρ.length ∧ j < ρ.length then .ok .nx ((ρ.set i (some (.d x))).set j (some (.d y))) else .bad
  asg := [i, j]
  ok := fun Wx G H ρ σ L E hG hE hN p => a.ok.thenS hG hE hN p fun x vx ρ1 G1 H1 L1 u1 e1 n1 r1 p => b.ok.thenS u1.gh e1 n1 p fun y vy ρ2 G2 H2 L2 u2 e2 n2 r2 p => by
    split at p
    · rename_i h
      obtain ⟨L3, f1, f2, f3⟩ := e2.put (w := .d x) (v := vx) (B := []) i ⟨rfl, r1.mono u2.g⟩ n2 h.1
      obtain ⟨L4, g1, g2, g3⟩ := f1.put (w := .d y) (v := vy) (B := []) j ⟨rfl, r2⟩ f2 (by simpa using h.2)
      refine ⟨vx, vy, rfl, p _ G2 H2 L4 ((Stp.refl u2.gh).sub fun c z => ?_) g1 g2 ⟨by simp, fun m hm => ?_⟩⟩
      · exact f3 c (by simpa using g3 c z) |> fun z => by simpa using z
      · rw [List.getElem?_set_ne (fun z => hm (by simp [z])), List.getElem?_set_ne (fun z => hm (by simp [z]))]
    · exact p.elim
def gTupOf : List D → Option D
  | [.lst xs] => some (.tup xs)
  | [.tup xs] => some (.tup xs)
  | _ => none
theorem cbTupOf : CbS K κ (rTupOfP K) gTupOf := fun G H vs xs z Q hG ra e k => by
  unfold gTupOf at e
  split at e
  · cases e
    cases ra with
    | cons h t =>
      cases t
      cases h with
      | lst hs rs => exact ⟨_, _, rfl, .inl ⟨ex_l hG hs, fun l o hl hd => k _ _ _ (.new hG hl) (.tup (.new hd) (rs.mono (Evl.Ex.new (fresh hG hl))))⟩⟩
  · cases e
    cases ra with
    | cons h t =>
      cases t
      cases h with
      | tup hs rs => exact ⟨_, _, rfl, .inr ⟨ex_t hG hs.sq, k _ G H (.refl0 hG) (.tup hs rs)⟩⟩
  · cases e
def eTupOf := eCB (K := K) (κ := κ) _ _ cbTupOf
def gLstOf : List D → Option D
  | [.lst xs] => some (.lst xs)
  | [.tup xs] => some (.lst xs)
  | _ => none
def rLstOf (K : PySem.W.Frag) : List V → Hp → VK → Prop := fun xs H Q => ∃ p ys, xs = [.ref p] ∧ (SqL K H p ys ∨ SqT K H p ys) ∧ ∀ l, H l = none → Q (.ref l) (upd H l (.lst ys))
theorem cbLstOf : CbS K κ (rLstOf K) gLstOf := fun G H vs xs z Q hG ra e k => by
  unfold gLstOf at e
  split at e
  · cases e
    cases ra with
    | cons h t =>
      cases t
      cases h with
      | lst hs rs => exact ⟨_, _, rfl, .inl (ex_l hG hs), fun l hl => k _ _ _ (.new hG hl) (.lst (SqL.of upd_same) (rs.mono (Evl.Ex.new (fresh hG hl))))⟩
  · cases e
    cases ra with
    | cons h t =>
      cases t
      cases h with
      | tup hs rs => exact ⟨_, _, rfl, .inr (ex_t hG hs.sq), fun l hl => k _ _ _ (.new hG hl) (.lst (SqL.of upd_same) (rs.mono (Evl.Ex.new (fresh hG hl))))⟩
  · cases e
def eLstOf := eCB (K := K) (κ := κ) _ _ cbLstOf
/-- t + u, tuples -/
def gCatT : D → D → Option D
  | .tup xs, .tup ys => if xs.length + ys.length ≤ 1000000 then some (.tup (xs ++ ys)) else none
  | _, _ => none
theorem opCatT : OpS K κ (rCatP K) gCatT := fun G H vx vy x y z Q hG rx ry e k => by
  cases rx with
  | @tup a us xs hs ra =>
    cases ry with
    | @tup b ws ys ht rb =>
      simp only [gCatT] at e
      split at e
      · rename_i hz
        cases e
        have l1 := ra.length
        have l2 := rb.length
        refine ⟨a, b, us, ws, rfl, rfl, ex_t hG hs.sq, ex_t hG ht.sq, Nat.le_trans (by omega : us.length + ws.length ≤ 1000000) (by decide), fun h => ?_, fun _ h => ?_, fun _ _ p o hp hd => ?_⟩
        · subst h
          cases ra
          exact k _ G H (.refl0 hG) (.tup ht rb)
        · subst h
          cases rb
          exact k _ G H (.refl0 hG) (by rw [List.append_nil]; exact .tup hs ra)
        · exact k _ _ _ (.new hG hp) (.tup (.new hd) ((ra.append rb).mono (Evl.Ex.new (fresh hG hp))))
      · cases e
    | _ => cases e
  | _ => cases e
def eCatT := eOp (K := K) (κ := κ) _ _ opCatT
/-- t[lo:hi] of a tuple -/
def cutD (xs : List D) (lo hi : Option Int) : List D := (xs.drop (HT.sIx xs.length 0 lo)).take (HT.sIx xs.length xs.length hi - HT.sIx xs.length 0 lo)
theorem cut_ok {G : Hp} {vs : List V} {xs : List D} (r : RpAll K κ G vs xs) (lo hi : Option Int) : RpAll K κ G (cutV vs lo hi) (cutD xs lo hi) := by
  unfold cutV cutD
  rw [r.length]
  exact (r.drop _).take _
theorem cut_whole {xs : List D} {lo hi : Option Int} (h : HT.sIx xs.length 0 lo = 0 ∧ HT.sIx xs.length xs.length hi = xs.length) : cutD xs lo hi = xs := by
  unfold cutD
  rw [h.1, h.2]
  simp
/-- an optional end: an expression for an int -/
structure SO (K : PySem.W.Frag) (κ : Cls) where
  to : WX → TO
  ev : Env → R Env (Option Int)
  ok : ∀ (Wx : WX) (G H : Hp) (ρ : Env) (σ : St) (L : List Addr) (Q : Option Int → Hp → Prop), Ex G H → EnvR K κ G H ρ σ L → L.Nodup → Post K κ (fun _ _ a b L => L = [] ∧ a = b) Wx σ G H L (ev ρ) Q → to Wx σ H Q
def o0 : SO K κ where
  to := fun _ => tNoPart
  ev := fun ρ => .ok none ρ
  ok := fun Wx G H ρ σ L Q hG hE hN p => p none G H [] L (.refl hG) hE ⟨rfl, rfl⟩ hN
def o1 (a : SE K κ) : SO K κ where
  to := fun Wx => tPart (a.te Wx)
  ev := fun ρ => (a.ev ρ).bindD fun x ρ => match x with
    | .int i => .ok (some i) ρ
    | _ => .bad
  ok := fun Wx G H ρ σ L Q hG hE hN p => a.ok.then hG hE hN p fun x vx ρ1 G1 H1 L1 u1 e1 n1 r1 p => by
    cases r1 with
    | int i => exact ⟨i, rfl, p (some i) G1 H1 [] L1 (.refl u1.gh) e1 ⟨rfl, rfl⟩ n1⟩
    | _ => exact p.elim
theorem SO.then (s : SO K κ) {β ν : Type} {Rel : Hp → Hp → β → ν → List Addr → Prop} {Wx : WX} {G H : Hp} {ρ : Env} {σ : St} {L : List Addr} {Q : ν → Hp → Prop} {k : Option Int → Env → R Env β} {q : Option Int → Hp → Prop} (hG : Ex G H) (hE : EnvR K κ G H ρ σ L) (hN : L.Nodup) (p : Post K κ Rel Wx σ G H L (R.bind (s.ev ρ) k) Q)
    (go : ∀ o ρ1 G1 H1 L1, Stp G H L G1 H1 L1 → EnvR K κ G1 H1 ρ1 σ L1 → L1.Nodup → Post K κ Rel Wx σ G1 H1 L1 (k o ρ1) Q → q o H1) : s.to Wx σ H q := by
  refine s.ok Wx G H ρ σ L q hG hE hN ?_
  cases h : s.ev ρ with
  | ok as ρ1 =>
    rw [h] at p
    intro v G1 H1 Lw L1 st e r nd
    obtain ⟨rfl, rfl⟩ := r
    exact go as ρ1 G1 H1 L1 st e nd (p.trans st)
  | exc c f ρ1 => rw [h] at p; exact p
  | bad => rw [h] at p; exact p.elim
def eSlT (a : SE K κ) (lo hi : SO K κ) : SE K κ where
  te := fun Wx => tSl (rSlP K) (a.te Wx) (lo.to Wx) (hi.to Wx)
  ev := fun ρ => (a.ev ρ).bindD fun x ρ => (lo.ev ρ).bind fun i ρ => (hi.ev ρ).bind fun j ρ => match x with
    | .tup xs => .ok (.d (.tup (cutD xs i j))) ρ
    | _ => .bad
  ok := fun Wx G H ρ σ L Q hG hE hN p => a.ok.then hG hE hN p fun x vx ρ1 G1 H1 L1 u1 e1 n1 r1 p => lo.then u1.gh e1 n1 p fun i ρ2 G2 H2 L2 u2 e2 n2 p => hi.then u2.gh e2 n2 p fun j ρ3 G3 H3 L3 u3 e3 n3 p => by
    have r3 := r1.mono (u2.g.trans u3.g)
    cases r3 with
    | @tup b us xs hs ra =>
      have ll := ra.length
      refine ⟨b, us, rfl, ex_t u3.gh hs.sq, fun h => ?_, fun h q o hq hd => ?_⟩
      · rw [ll] at h
        dsimp only at p
        rw [cut_whole h] at p
        exact p.ret (.refl u3.gh) e3 n3 (.tup hs ra)
      · exact p.ret (.new u3.gh hq) (e3.new u3.gh hq) n3 (.tup (.new hd) ((cut_ok ra i j).mono (Evl.Ex.new (fresh u3.gh hq))))
    | _ => exact p.elim
end
end Pv
set_option maxRecDepth 100000
set_option maxHeartbeats 4000000
namespace Pv
open PySem PySem.Spec PyProof.Rows L2
def lookD (kvs : List (Key × D)) (k : Key) : Option D := (kvs.find? fun p => decide (p.1 = k)).map (·.2)
def storeD (kvs : List (Key × D)) (k : Key) (x : D) : List (Key × D) :=
  if (kvs.any fun p => decide (p.1 = k)) = true then kvs.map (fun p => if p.1 = k then (p.1, x) else p) else kvs ++ [(k, x)]
def D.key : D → Option Key
  | .int i => some (.inl i)
  | .str s => some (.inr s)
  | _ => none
section
variable {K : PySem.W.Frag} {κ : Cls} {G H : Hp}
theorem Rp.key {v : V} {x : D} {k : Key} (r : Rp K κ G v x) (h : D.key x = some k) : v = kV k := by
  cases r <;> first | (cases h; rfl) | exact nomatch h
theorem KvAll.length : ∀ {ks : List (Key × V)} {kvs : List (Key × D)}, KvAll K κ G ks kvs → ks.length = kvs.length
  | [], [], _ => rfl
  | (_, _) :: _, (_, _) :: _, ⟨_, _, q⟩ => congrArg (· + 1) (KvAll.length q)
theorem KvAll.look {k : Key} : ∀ {ks : List (Key × V)} {kvs : List (Key × D)}, KvAll K κ G ks kvs → match lookD kvs k with
    | some x => ∃ v, valV ks k = some v ∧ Rp K κ G v x
    | none => valV ks k = none
  | [], [], _ => by
    show (valV ([] : List (Key × V)) k = none)
    rfl
  | (a, v) :: ks, (b, x) :: kvs, ⟨e, r, q⟩ => by
    subst e
    unfold lookD valV
    by_cases h : a = k
    · simp only [List.find?, decide_eq_true h]
      exact ⟨v, rfl, r⟩
    · simp only [List.find?, decide_eq_false h]
      exact KvAll.look q
theorem KvAll.any {k : Key} : ∀ {ks : List (Key × V)} {kvs : List (Key × D)}, KvAll K κ G ks kvs → (ks.any fun p => decide (p.1 = k)) = (kvs.any fun p => decide (p.1 = k))
  | [], [], _ => rfl
  | (a, v) :: ks, (b, x) :: kvs, ⟨e, r, q⟩ => by
    subst e
    simp only [List.any_cons, KvAll.any q]
theorem KvAll.mapped {k : Key} {v : V} {x : D} (h : Rp K κ G v x) : ∀ {ks : List (Key × V)} {kvs : List (Key × D)}, KvAll K κ G ks kvs → KvAll K κ G (ks.map fun p => if p.1 = k then (p.1, v) else p) (kvs.map fun p => if p.1 = k then (p.1, x) else p)
  | [], [], _ => trivial
  | (a, u) :: ks, (b, y) :: kvs, ⟨e, r, q⟩ => by
    subst e
    simp only [List.map_cons]
    by_cases z : a = k
    · rw [if_pos z, if_pos z]
      exact ⟨rfl, h, KvAll.mapped h q⟩
    · rw [if_neg z, if_neg z]
      exact ⟨rfl, r, KvAll.mapped h q⟩
theorem KvAll.snoc {k : Key} {v : V} {x : D} (h : Rp K κ G v x) : ∀ {ks : List (Key × V)} {kvs : List (Key × D)}, KvAll K κ G ks kvs → KvAll K κ G (ks ++ [(k, v)]) (kvs ++ [(k, x)])
  | [], [], _ => ⟨rfl, h, trivial⟩
  | (a, u) :: ks, (b, y) :: kvs, ⟨e, r, q⟩ => ⟨e, r, KvAll.snoc h q⟩
theorem KvAll.store {k : Key} {v : V} {x : D} {ks : List (Key × V)} {kvs : List (Key × D)} (r : KvAll K κ G ks kvs) (h : Rp K κ G v x) : KvAll K κ G (putK ks k v) (storeD kvs k x) := by
  unfold putK storeD
  rw [r.any]
  split
  · exact r.mapped h
  · exact r.snoc h
theorem KvAll.merge : ∀ {ms : List (Key × V)} {mvs : List (Key × D)} {ks : List (Key × V)} {kvs : List (Key × D)}, KvAll K κ G ms mvs → KvAll K κ G ks kvs → KvAll K κ G (mergeK ks ms) (mvs.foldl (fun acc p => storeD acc p.1 p.2) kvs)
  | [], [], _, _, _, r => r
  | (a, v) :: ms, (b, x) :: mvs, ks, kvs, ⟨e, h, q⟩, r => by
    subst e
    exact KvAll.merge (ms := ms) (mvs := mvs) q (r.store h)
theorem KvAll.keys : ∀ {ks : List (Key × V)} {kvs : List (Key × D)}, KvAll K κ G ks kvs → ks.map (·.1) = kvs.map (·.1)
  | [], [], _ => rfl
  | (_, _) :: _, (_, _) :: _, ⟨e, _, q⟩ => by
    rw [List.map_cons, List.map_cons, KvAll.keys q]
    exact congrArg (· :: _) e
/-- an owned dict of slot i, as it stands, and changed -/
theorem EnvR.dict {ρ : Env} {σ : St} {L : List Addr} {i : Nat} {kvs : List (Key × D)} (hG : Ex G H) (r : EnvR K κ G H ρ σ L) (nd : L.Nodup) (e : ρ[i]? = some (some (.md kvs))) :
    ∃ a ks, σ[i]? = some (some (.ref a)) ∧ G a = none ∧ H a = some (.dK ks) ∧ KvAll K κ G ks kvs ∧
      (∀ us ys, KvAll K κ G us ys → Stp G H L G (upd H a (.dK us)) L ∧ EnvR K κ G (upd H a (.dK us)) (ρ.set i (some (.md ys))) σ L) := by
  obtain ⟨v, A, B, C, h1, h2, h3, h4⟩ := r.at e
  obtain ⟨a, ks, rfl, rfl, g, h, q⟩ := h3
  subst h2
  have hi : σ.set i (some (.ref a)) = σ := set_same h1
  have nd1 := List.nodup_append.mp nd
  have nd2 := List.nodup_append.mp nd1.1
  have ne : ∀ b ∈ A ++ C, b ≠ a := fun b hb z => by
    subst z
    rcases List.mem_append.mp hb with hb | hb
    · exact nd2.2.2 b hb b (by simp) rfl
    · exact nd1.2.2 b (by simp) b hb rfl
  have there := r.there
  have nt : ∀ ps, H a ≠ some (.tbl ps) := fun ps z => by rw [h] at z; cases z
  refine ⟨a, ks, h1, g, h, q, fun us ys qu => ⟨⟨Evl.Ex.refl G, fun b o p n _ => ?_, fun b p => ?_, fun _ _ _ n => n, fun _ z => .inl z, fun b o p => ?_, tab_put nt⟩, ?_⟩⟩
  · have z : b ≠ a := fun z => n (by rw [z]; simp)
    rw [upd_ne z]; exact p
  · by_cases z : b = a
    · rw [z, upd_same] at p; cases p
    · rw [upd_ne z] at p; exact p
  · have z : b ≠ a := fun z => by rw [z, g] at p; cases p
    rw [upd_ne z]; exact hG b o p
  · have := h4 G (upd H a (.dK us)) (.md ys) (.ref a) [a] (Evl.Ex.refl G) (fun b hb => (there b (by
      rcases List.mem_append.mp hb with hb | hb <;> simp [hb])).2) (fun b hb o p => by rw [upd_ne (ne b hb)]; exact p) (fun t => t.put nt) ⟨a, us, rfl, rfl, g, upd_same, qu⟩
    rw [hi] at this
    exact this
/-- d[k] = v, d the name in slot i -/
def sSetD (i : Nat) (k e : SE K κ) : SS K κ where
  ts := fun Wx => sDPut (tVar i) (k.te Wx) (e.te Wx)
  sv := fun ρ => (e.ev ρ).bindD fun x ρ => match ρ[i]? with
    | some (some (.md _)) => (k.ev ρ).bindD fun y ρ => match D.key y, ρ[i]? with
      | some kk, some (some (.md kvs)) => if kvs.length < 1000000 then .ok .nx (ρ.set i (some (.md (storeD kvs kk x)))) else .bad
      | _, _ => .bad
    | _ => .bad
  asg := []
  ok := fun Wx G H ρ σ L E hG hE hN p => e.ok.thenS hG hE hN p fun x vx ρ1 G1 H1 L1 u1 e1 n1 r1 p => by
    split at p
    · rename_i kv0 h0
      obtain ⟨a0, _, s0, _⟩ := e1.dict u1.gh n1 h0
      refine ⟨_, s0, k.ok.thenS u1.gh e1 n1 p fun y vy ρ2 G2 H2 L2 u2 e2 n2 r2 p => ?_⟩
      split at p
      · rename_i kk kvs hk h
        split at p
        · rename_i hz
          obtain ⟨a, ks, s1, g, hd, q, put⟩ := e2.dict u2.gh n2 h
          rw [s0] at s1
          cases s1
          obtain ⟨st, en⟩ := put _ _ (q.store (k := kk) (r1.mono u2.g))
          have hl := q.length
          refine ⟨a0, _, rfl, ?_, p σ G2 _ L2 st en n2 (.refl _ _)⟩
          rw [r2.key hk]
          exact .k hd (Nat.lt_of_lt_of_le (by omega : ks.length < 1000000) (by decide))
        · exact p.elim
      · exact p.elim
    · exact p.elim
/-- d[k] -/
def eIxD (i : Nat) (k : SE K κ) : SE K κ where
  te := fun Wx => tDGet (tVar i) (k.te Wx)
  ev := fun ρ => match ρ[i]? with
    | some (some (.md _)) => (k.ev ρ).bindD fun y ρ => match D.key y, ρ[i]? with
      | some kk, some (some (.md kvs)) => R.of (lookD kvs kk) ρ
      | _, _ => .bad
    | _ => .bad
  ok := fun Wx G H ρ σ L Q hG hE hN p => by
    dsimp only at p
    split at p
    · rename_i kv0 h0
      obtain ⟨a0, _, s0, _⟩ := hE.dict hG hN h0
      refine ⟨_, s0, k.ok.then hG hE hN p fun y vy ρ2 G2 H2 L2 u2 e2 n2 r2 p => ?_⟩
      split at p
      · rename_i kk kvs hk h
        obtain ⟨a, ks, s1, g, hd, q, put⟩ := e2.dict u2.gh n2 h
        rw [s0] at s1
        cases s1
        obtain ⟨x, hx⟩ := p.some
        have hl := q.look (k := kk)
        rw [hx] at hl
        obtain ⟨v, hv, rv⟩ := hl
        refine ⟨a0, v, rfl, ?_, p.of hx (.refl u2.gh) e2 n2 rv⟩
        rw [r2.key hk, ← hv]
        exact .k hd
      · exact p.elim
    · exact p.elim
/-- d.get(k, x) -/
def eGetD (i : Nat) (k e : SE K κ) : SE K κ where
  te := fun Wx => tDGet2 (tVar i) (k.te Wx) (e.te Wx)
  ev := fun ρ => match ρ[i]? with
    | some (some (.md _)) => (k.ev ρ).bindD fun y ρ => (e.ev ρ).bindD fun z ρ => match D.key y, ρ[i]? with
      | some kk, some (some (.md kvs)) => .ok (.d ((lookD kvs kk).getD z)) ρ
      | _, _ => .bad
    | _ => .bad
  ok := fun Wx G H ρ σ L Q hG hE hN p => by
    dsimp only at p
    split at p
    · rename_i kv0 h0
      obtain ⟨a0, ks0, s0, _, hd0, _⟩ := hE.dict hG hN h0
      refine ⟨_, s0, a0, rfl, .inl ⟨ks0, .of hd0⟩, k.ok.then hG hE hN p fun y vy ρ2 G2 H2 L2 u2 e2 n2 r2 p => e.ok.then u2.gh e2 n2 p fun z vz ρ3 G3 H3 L3 u3 e3 n3 r3 p => ?_⟩
      split at p
      · rename_i kk kvs hk h
        obtain ⟨a, ks, s1, g, hd, q, put⟩ := e3.dict u3.gh n3 h
        rw [s0] at s1
        cases s1
        have hl := q.look (k := kk)
        refine ⟨valV ks kk, ?_, ?_⟩
        · rw [r2.key hk]
          exact .k hd
        · cases hx : lookD kvs kk with
          | none =>
            rw [hx] at hl p
            rw [hl]
            exact p.ret (.refl u3.gh) e3 n3 r3
          | some x =>
            rw [hx] at hl p
            obtain ⟨v, hv, rv⟩ := hl
            rw [hv]
            exact p.ret (.refl u3.gh) e3 n3 rv
      · exact p.elim
    · exact p.elim
/-- the ints of a dict's keys -/
def keysI : List (Key × D) → Option (List Int)
  | [] => some []
  | (.inl i, _) :: kvs => match keysI kvs with
    | some is => some (i :: is)
    | none => none
  | (.inr _, _) :: _ => none
theorem keysI_ok : ∀ {kvs : List (Key × D)} {is : List Int}, keysI kvs = some is → kvs.map (·.1) = is.map Sum.inl
  | [], is, e => by cases e; rfl
  | (.inl i, x) :: kvs, is, e => by
    simp only [keysI] at e
    split at e
    · rename_i js hj
      cases e
      rw [List.map_cons, List.map_cons, keysI_ok hj]
    · cases e
  | (.inr s, x) :: kvs, is, e => by cases e
def insI (i : Int) : List Int → List Int
  | [] => [i]
  | j :: js => if i ≤ j then i :: j :: js else j :: insI i js
def sortI : List Int → List Int
  | [] => []
  | i :: is => insI i (sortI is)
theorem insI_perm (i : Int) : ∀ js : List Int, (insI i js).Perm (i :: js)
  | [] => .refl _
  | j :: js => by
    unfold insI
    split
    · exact .refl _
    · exact ((insI_perm i js).cons j).trans (.swap i j js)
theorem sortI_perm : ∀ is : List Int, (sortI is).Perm is
  | [] => .refl _
  | i :: is => (insI_perm i (sortI is)).trans ((sortI_perm is).cons i)
theorem insI_sorted (i : Int) : ∀ {js : List Int}, js.Pairwise (· ≤ ·) → (insI i js).Pairwise (· ≤ ·)
  | [], _ => by simp [insI]
  | j :: js, h => by
    unfold insI
    have h' := List.pairwise_cons.mp h
    split
    · rename_i hij
      exact List.pairwise_cons.mpr ⟨fun a ha => by
        rcases List.mem_cons.mp ha with z | z
        · omega
        · have := h'.1 a z
          omega, h⟩
    · rename_i hij
      refine List.pairwise_cons.mpr ⟨fun a ha => ?_, insI_sorted i h'.2⟩
      rcases List.mem_cons.mp ((insI_perm i js).mem_iff.mp ha) with z | z
      · omega
      · exact h'.1 a z
theorem sortI_sorted : ∀ is : List Int, (sortI is).Pairwise (· ≤ ·)
  | [] => .nil
  | i :: is => insI_sorted i (sortI_sorted is)
theorem sorted_one : ∀ {xs ys : List Int}, xs.Perm ys → xs.Pairwise (· ≤ ·) → ys.Pairwise (· ≤ ·) → xs = ys
  | [], ys, p, _, _ => (List.nil_perm.mp p).symm
  | x :: xs, [], p, _, _ => absurd p.symm (by simp)
  | x :: xs, y :: ys, p, hx, hy => by
    have hx' := List.pairwise_cons.mp hx
    have hy' := List.pairwise_cons.mp hy
    have exy : x = y := by
      have m1 : x ∈ y :: ys := p.mem_iff.mp List.mem_cons_self
      have m2 : y ∈ x :: xs := p.mem_iff.mpr List.mem_cons_self
      rcases List.mem_cons.mp m1 with z | z
      · exact z
      · rcases List.mem_cons.mp m2 with z2 | z2
        · exact z2.symm
        · have := hx'.1 y z2
          have := hy'.1 x z
          omega
    subst exy
    rw [sorted_one (p.cons_inv) hx'.2 hy'.2]
/-- sorted(d), d the name in slot i, fewer than 64 whole numbers for keys -/
def rSortD : List V → Hp → VK → Prop := fun xs H Q => ∃ (a : Addr) (kvs : List (Key × V)) (ks : List Int), xs = [.ref a] ∧ Rd H a (.dK kvs) ∧ kvs.map (·.1) = ks.map Sum.inl ∧ ks.length < 64 ∧
    ∀ (ys : List Int) (p : Addr), ys.Perm ks → ys.Pairwise (· ≤ ·) → H p = none → Q (.ref p) (upd H p (.lst (ys.map V.int)))
theorem ints_ok {G : Hp} : ∀ is : List Int, RpAll K κ G (is.map V.int) (is.map D.int)
  | [] => .nil
  | i :: is => .cons (.int i) (ints_ok is)
def eSortD (i : Nat) : SE K κ where
  te := fun _ => tCB rSortD (tCons (tVar i) tNil)
  ev := fun ρ => match ρ[i]? with
    | some (some (.md kvs)) => match keysI kvs with
      | some is => if is.length < 64 then .ok (.d (.lst ((sortI is).map .int))) ρ else .bad
      | none => .bad
    | _ => .bad
  ok := fun Wx G H ρ σ L Q hG hE hN p => by
    dsimp only at p
    split at p
    · rename_i kvs h
      split at p
      · rename_i is hk
        split at p
        · rename_i hz
          obtain ⟨a, ks, s0, g, hd, q, _⟩ := hE.dict hG hN h
          refine ⟨_, s0, a, ks, is, rfl, .of hd, by rw [q.keys]; exact keysI_ok hk, hz, fun ys b py sy hb => ?_⟩
          have e := sorted_one (py.trans (sortI_perm is).symm) sy (sortI_sorted is)
          subst e
          exact p.ret (.new hG hb) (hE.new hG hb) hN (.lst (SqL.of upd_same) (ints_ok _))
        · exact p.elim
      · exact p.elim
    · exact p.elim
/-- the pairs of a sequence of tuples of two -/
def pairsD : List D → Option (List (Key × D))
  | [] => some []
  | .tup [x, y] :: xs => match D.key x, pairsD xs with
    | some k, some kvs => some ((k, y) :: kvs)
    | _, _ => none
  | _ :: _ => none
theorem pairs_ok {G : Hp} : ∀ {vs : List V} {xs : List D} {kvs : List (Key × D)}, RpAll K κ G vs xs → pairsD xs = some kvs → ∃ (ps : List Addr) (ks : List (Key × V)), vs = ps.map V.ref ∧ KvAll K κ G ks kvs ∧ Paired (fun p kv => SqT K G p [kV kv.1, kv.2]) ps ks
  | _, _, kvs, .nil, e => by
    cases e
    exact ⟨[], [], rfl, trivial, .nil⟩
  | _, _, kvs, .cons (x := x) h t, e => by
    cases h with
    | tup hs ra =>
      cases ra with
      | nil => cases e
      | cons h1 ra =>
        cases ra with
        | nil => cases e
        | cons h2 ra =>
          cases ra with
          | cons _ _ => cases e
          | nil =>
            simp only [pairsD] at e
            split at e
            · rename_i k kvs' hk hp
              cases e
              obtain ⟨ps, ks, rfl, q1, q2⟩ := pairs_ok t hp
              have ev := h1.key hk
              subst ev
              exact ⟨_ :: ps, (k, _) :: ks, rfl, ⟨rfl, h2, q1⟩, .cons hs.sq q2⟩
            · cases e
    | _ => cases e
def rDictP (K : PySem.W.Frag) : List V → Hp → VK → Prop := fun xs H Q => ∃ (a : Addr) (ps : List Addr) (kvs : List (Key × V)), xs = [.ref a] ∧ (SqL K H a (ps.map V.ref) ∨ Tp K H a (ps.map V.ref)) ∧ Paired (fun p kv => SqT K H p [kV kv.1, kv.2]) ps kvs ∧
    ∀ p, H p = none → Q (.ref p) (upd H p (.dK (mergeK [] kvs)))
/-- dict(e), e a list or tuple of pairs; the slot that is assigned it owns it -/
def eDict (a : SE K κ) : SE K κ where
  te := fun Wx => tCB (rDictP K) (tCons (a.te Wx) tNil)
  ev := fun ρ => (a.ev ρ).bindD fun x ρ => match D.seq x with
    | some xs => match pairsD xs with
      | some kvs => .ok (.md (kvs.foldl (fun acc p => storeD acc p.1 p.2) [])) ρ
      | none => .bad
    | none => .bad
  ok := fun Wx G H ρ σ L Q hG hE hN p => a.ok.then hG hE hN p fun x vx ρ1 G1 H1 L1 u1 e1 n1 r1 p => by
    have fin : ∀ (b : Addr) (vs : List V) (xs : List D), vx = .ref b → D.seq x = some xs → RpAll K κ G1 vs xs → (SqL K H1 b vs ∨ Tp K H1 b vs) → rDictP K [vx] H1 Q := fun b vs xs eb es ra hs => by
      subst eb
      rw [es] at p
      dsimp only at p
      split at p
      · rename_i kvs hp
        obtain ⟨ps, ks, rfl, q1, q2⟩ := pairs_ok ra hp
        refine ⟨b, ps, ks, rfl, hs, Paired.mapP q2 fun _ _ z => ex_t u1.gh z, fun c hc => ?_⟩
        exact p _ G1 _ [c] L1 (.own u1.gh hc) (e1.ownNew hc) ⟨c, _, rfl, rfl, fresh u1.gh hc, upd_same, KvAll.merge (ks := []) (kvs := []) q1 trivial⟩ (own_nodup hc e1 n1)
      · exact p.elim
    cases r1 with
    | tup hs ra => exact fin _ _ _ rfl rfl ra (.inr (hs.mono u1.gh))
    | lst hs ra => exact fin _ _ _ rfl rfl ra (.inl (ex_l u1.gh hs))
    | _ => exact p.elim
end
end Pv
set_option maxRecDepth 100000
set_option maxHeartbeats 4000000
namespace Pv
open PySem PySem.Spec PyProof.Rows L2
section
variable {K : PySem.W.Frag} {κ : Cls}
/-- -3, written -/
def eNegC (i : Int) : SE K κ where
  te := fun _ => tUn (rU fun i => .int (-i)) (tC (.int i))
  ev := fun ρ => .ok (.d (.int (-i))) ρ
  ok := fun Wx G H ρ σ L Q hG hE hN p => ⟨i, rfl, p.ret (.refl hG) hE hN (.int _)⟩
/-- t[::-1] of a tuple -/
def tRevT (K : PySem.W.Frag) (te : TE) : TE := fun σ H Q => te σ H fun x H1 => ∃ a xs, x = .ref a ∧ SqT K H1 a xs ∧ NewT xs.reverse H1 Q
def eRevT (a : SE K κ) : SE K κ where
  te := fun Wx => tRevT K (a.te Wx)
  ev := fun ρ => (a.ev ρ).bindD fun x ρ => match x with
    | .tup xs => .ok (.d (.tup xs.reverse)) ρ
    | _ => .bad
  ok := fun Wx G H ρ σ L Q hG hE hN p => a.ok.then hG hE hN p fun x vx ρ1 G1 H1 L1 u1 e1 n1 r1 p => by
    cases r1 with
    | @tup b us xs hs ra => exact ⟨b, us, rfl, ex_t u1.gh hs.sq, fun q o hq hd => p.ret (.new u1.gh hq) (e1.new u1.gh hq) n1 (.tup (.new hd) (ra.reverse.mono (Evl.Ex.new (fresh u1.gh hq))))⟩
    | _ => exact p.elim
end
section
variable {X : Cx} {P : Program} {w : World} {K : PySem.W.Frag} {mg : Str → Option Value} {base : Heap} {κ : Cls} {l k : Nat} {ps : List Str} {F : Fn} {W : WX} {x : Str} {p pos : Pos} {e : Expr} {es : List Expr} {t : TA}
theorem pe_defK (D : Def P w K κ mg base x l ps F) (hX : X.prog = P ∧ X.w = w ∧ X.K = K ∧ X.mg = mg ∧ X.base = base) (hr : Room k X.A) (hl : l ≤ k) (hq : X.A.guards = some []) (tk : Takes X W) (ha : PA X (e :: es) t) (hg : Gl X x := by rfl) (hdb : (x == ("__debug__" : Str)) = false := by decide)
    (he : starEach (e :: es) X.env = (false, eval e X.env) :: starEach es X.env := by rfl) (hpl : (backTo pos (starEach es X.env)).any (·.1) = false := by rfl) : PE X (.Call (.Name x p) (e :: es) [] pos) (tCallS (spF K κ ps.length F) (WE W) t) := by
  obtain ⟨rfl, rfl, rfl, rfl, rfl⟩ := hX
  exact pe_def D hr hl hq tk ha hg hdb he hpl
end
end Pv
set_option maxRecDepth 100000
set_option maxHeartbeats 4000000
namespace Pv
open PySem PySem.Spec PyProof.Rows L2
section
variable {K : PySem.W.Frag} {κ : Cls}
/-- x op= e, x the name in slot i: whole numbers -/
def sAugI (f : Int → Int → Int) (i : Nat) (e : SE K κ) : SS K κ where
  ts := fun Wx => tAug i (e.te Wx) (ipI f)
  sv := fun ρ => match ρ[i]? with
    | some (some (.d (.int m))) => (e.ev ρ).bindD fun y ρ => match y with
      | .int n => .ok .nx (ρ.set i (some (.d (.int (f m n)))))
      | _ => .bad
    | _ => .bad
  asg := [i]
  ok := fun Wx G H ρ σ L E hG hE hN p => by
    dsimp only at p
    split at p
    · rename_i m h
      obtain ⟨v, h1, h2⟩ := hE.data h
      cases h2
      refine ⟨_, h1, e.ok.thenS hG hE hN p fun y vy ρ1 G1 H1 L1 u1 e1 n1 r1 p => ?_⟩
      cases r1 with
      | int n =>
        dsimp only at p
        refine ⟨m, n, rfl, rfl, ?_⟩
        have hi : i < ρ1.length := by
          have hl := e1.length
          rw [hl]
          exact (List.getElem?_eq_some_iff.mp h1).1
        obtain ⟨L', f1, f2, f3⟩ := e1.put (w := .d (.int (f m n))) (v := .int (f m n)) (B := []) i ⟨rfl, .int _⟩ n1 hi
        exact p _ G1 H1 L' ((Stp.refl u1.gh).sub fun a z => by simpa using f3 a z) f1 f2 .set
      | _ => exact p.elim
    · exact p.elim
def sAugAdd := sAugI (K := K) (κ := κ) fun i j => i + j
def sAugSub := sAugI (K := K) (κ := κ) fun i j => i - j
def D.tru : D → Option Bool
  | .non => some false
  | .bl b => some b
  | .int i => some (i != 0)
  | _ => none
theorem Rp.tru {G H : Hp} {v : V} {x : D} {k : Bool} (r : Rp K κ G v x) (h : D.tru x = some k) : TruV K v H k := by
  cases r <;> first | (cases h; rfl) | exact nomatch h
/-- a or b: a where it is true, else b; data alone -/
def eOrD (a b : SE K κ) : SE K κ where
  te := fun Wx => tOrT K (a.te Wx) (b.te Wx)
  ev := fun ρ => (a.ev ρ).bindD fun x ρ => match D.tru x with
    | some true => .ok (.d x) ρ
    | some false => b.ev ρ
    | none => .bad
  ok := fun Wx G H ρ σ L Q hG hE hN p => a.ok.then hG hE hN p fun x vx ρ1 G1 H1 L1 u1 e1 n1 r1 p => by
    split at p
    · rename_i h
      exact ⟨true, r1.tru h, by rw [if_pos rfl]; exact p.ret (.refl u1.gh) e1 n1 r1⟩
    · rename_i h
      exact ⟨false, r1.tru h, by rw [if_neg Bool.false_ne_true]; exact b.ok Wx G1 H1 ρ1 σ L1 Q u1.gh e1 n1 p⟩
    · exact p.elim
def gIntOf : List D → Option D
  | [.int i] => some (.int i)
  | [.bl b] => some (.int (if b then 1 else 0))
  | _ => none
def rIntOf : List V → Hp → VK → Prop := fun xs H Q => (∃ i, xs = [.int i] ∧ Q (.int i) H) ∨ ∃ k, xs = [.bl k] ∧ Q (.int (if k then 1 else 0)) H
theorem cbIntOf : CbS K κ rIntOf gIntOf := fun G H vs xs z Q hG ra e k => by
  unfold gIntOf at e
  split at e
  · cases e
    cases ra with
    | cons h t =>
      cases t
      cases h
      exact .inl ⟨_, rfl, k _ G H (.refl0 hG) (.int _)⟩
  · cases e
    cases ra with
    | cons h t =>
      cases t
      cases h
      exact .inr ⟨_, rfl, k _ G H (.refl0 hG) (.int _)⟩
  · cases e
def eIntOf := eCB (K := K) (κ := κ) _ _ cbIntOf
def gCatL : D → D → Option D
  | .lst xs, .lst ys => if xs.length + ys.length ≤ 1000000 then some (.lst (xs ++ ys)) else none
  | _, _ => none
def eRepM (a k : SE K κ) : SE K κ where
  te := fun Wx => tOp rRep (a.te Wx) (k.te Wx)
  ev := fun ρ => match a.ev ρ with
    | .ok (.ml xs) ρ => (k.ev ρ).bindD fun y ρ => match y with
      | .int n => if 0 ≤ n ∧ n ≤ 1000 ∧ xs.length ≤ 1000 then .ok (.ml (List.replicate n.toNat xs).flatten) ρ else .bad
      | _ => .bad
    | _ => .bad
  ok := fun Wx G H ρ σ L Q hG hE hN p => by
    refine a.ok Wx G H ρ σ L _ hG hE hN ?_
    dsimp only at p
    cases h : a.ev ρ with
    | exc c f ρ1 => rw [h] at p; exact p.elim
    | bad => rw [h] at p; exact p.elim
    | ok w ρ1 =>
      rw [h] at p
      cases w with
      | d x => exact p.elim
      | md x => exact p.elim
      | mm z => exact p.elim
      | ml xs =>
        dsimp only at p
        intro v G1 H1 Lw L1 u1 e1 r1 n1
        have r1' := r1
        obtain ⟨c, vs, rfl, rfl, g1, h1, q1⟩ := r1
        have nda := List.nodup_append.mp n1
        have ncL : c ∉ L1 := fun z => nda.2.2 c (by simp) c z rfl
        have u1' : Stp G H L G1 H1 L1 := u1.sub fun b z => List.mem_append_right _ z
        refine k.ok.then (Wx := Wx) u1.gh e1 nda.2.1 (p.trans u1') fun y vy ρ2 G2 H2 L2 u2 e2 n2 r2 p => ?_
        have c2 : H2 c = some (.lst vs) := u2.h c _ h1 ncL ntL
        have q2 := q1.mono u2.g
        cases r2 with
        | int n =>
          dsimp only at p
          split at p
          · rename_i hz
            obtain ⟨z1, z2, z3⟩ := hz
            have hl := q2.length
            refine ⟨c, n, vs, rfl, rfl, c2, by omega, by omega, ?_, fun q hq => ?_⟩
            · rw [hl]
              have : xs.length * n.toNat ≤ 1000 * 1000 := Nat.mul_le_mul z3 (by omega)
              exact Nat.le_trans this (by decide)
            · refine p _ G2 _ [q] L2 (.own u2.gh hq) (e2.ownNew hq) ⟨q, _, rfl, rfl, fresh u2.gh hq, upd_same, ?_⟩ (own_nodup hq e2 n2)
              have rep : ∀ m : Nat, RpAll K κ G2 (List.replicate m vs).flatten (List.replicate m xs).flatten := by
                intro m
                induction m with
                | zero => exact .nil
                | succ m ih =>
                  rw [List.replicate_succ, List.replicate_succ, List.flatten_cons, List.flatten_cons]
                  exact q2.append ih
              exact rep _
          · exact p.elim
        | _ => exact p.elim
end
end Pv
set_option maxRecDepth 100000
set_option maxHeartbeats 4000000
namespace Pv
open PySem PySem.Spec PyProof.Rows L2
/-- t * n, n 0 or 1, t not empty -/
def rRep01 (K : PySem.W.Frag) : R2 := fun x y H Q => ∃ c k xs, x = .ref c ∧ y = .int k ∧ SqT K H c xs ∧ xs ≠ [] ∧ ((k = 1 ∧ Q (.ref c) H) ∨ (k = 0 ∧ NewT [] H Q))
section
variable {K : PySem.W.Frag} {κ : Cls}
def gRep01 : D → D → Option D
  | .tup (x :: xs), .int k => if k = 1 then some (.tup (x :: xs)) else if k = 0 then some (.tup []) else none
  | _, _ => none
theorem opRep01 : OpS K κ (rRep01 K) gRep01 := fun G H vx vy x y z Q hG rx ry e k => by
  unfold gRep01 at e
  split at e
  · rename_i x xs n
    cases rx with
    | tup hs ra =>
      cases ry
      have ne : ∀ {vs : List V}, RpAll K κ G vs (x :: xs) → vs ≠ [] := fun r z => by subst z; cases r
      split at e
      · rename_i h1
        cases e
        exact ⟨_, _, _, rfl, rfl, ex_t hG hs.sq, ne ra, .inl ⟨h1, k _ G H (.refl0 hG) (.tup hs ra)⟩⟩
      · split at e
        · rename_i h0
          cases e
          exact ⟨_, _, _, rfl, rfl, ex_t hG hs.sq, ne ra, .inr ⟨h0, fun p o hp hd => k _ _ _ (.new hG hp) (.tup (.new hd) .nil)⟩⟩
        · cases e
  · cases e
def eRep01 := eOp (K := K) (κ := κ) _ _ opRep01
end
end Pv
set_option maxRecDepth 100000
set_option maxHeartbeats 4000000
namespace Pv
open PySem PySem.Spec PyProof.Rows L2
def keyD : Key → D
  | .inl i => .int i
  | .inr s => .str s
def iItemsK (i : Nat) : TI := fun σ H R => ∃ (c : Addr) (ks : List (Key × V)), σ[i]? = some (some (.ref c)) ∧ H c = some (.dK ks) ∧ ∀ o, R (Iti c o ks) (upd H c (.frz o (.dK ks)))
section
variable {K : PySem.W.Frag} {κ : Cls}
theorem key_rp {G : Hp} : ∀ k : Key, Rp K κ G (kV k) (keyD k)
  | .inl i => .int i
  | .inr s => .str s
theorem KvAll.at {G : Hp} : ∀ {ks : List (Key × V)} {kvs : List (Key × D)} {i : Nat} {k : Key} {v : V}, KvAll K κ G ks kvs → ks[i]? = some (k, v) → ∃ x, kvs[i]? = some (k, x) ∧ Rp K κ G v x
  | (a, u) :: ks, (b, y) :: kvs, 0, k, v, ⟨e, r, q⟩, h => by
    simp only [List.getElem?_cons_zero, Option.some.injEq, Prod.mk.injEq] at h
    obtain ⟨rfl, rfl⟩ := h
    subst e
    exact ⟨y, rfl, r⟩
  | (a, u) :: ks, (b, y) :: kvs, i + 1, k, v, ⟨e, r, q⟩, h => by
    simp only [List.getElem?_cons_succ] at h
    obtain ⟨x, e1, e2⟩ := KvAll.at q h
    exact ⟨x, by simpa using e1, e2⟩
theorem yl_items {G : Hp} {c : Addr} {o : Obj} {ks : List (Key × V)} {kvs : List (Key × D)} (h : G c = some (.frz o (.dK ks))) (r : KvAll K κ G ks kvs) : Yl K κ (Iti c o ks) G (kvs.map fun p => .tupW [keyD p.1, p.2]) := fun G' H' i g gh => by
  have hl := r.length
  refine ⟨fun x e => ?_, fun n => ⟨gh _ _ (g _ _ h), by simpa [hl] using n⟩⟩
  rw [List.getElem?_map] at e
  cases hk : kvs[i]? with
  | none => rw [hk] at e; cases e
  | some p =>
    rw [hk] at e
    cases e
    have lt : i < ks.length := by
      rw [hl]
      exact (List.getElem?_eq_some_iff.mp hk).1
    refine ⟨⟨gh _ _ (g _ _ h), lt⟩, fun u H'' y => ?_⟩
    obtain ⟨T, k, v, e1, rfl, hT, rfl⟩ := y
    obtain ⟨x, e2, rx⟩ := r.at e1
    rw [hk] at e2
    cases e2
    have gT : G' T = none := fresh gh hT
    exact ⟨_, .new gh hT, .tupW (.inl (.inl upd_same)) (.cons (key_rp k) (.cons (rx.mono (g.trans (Evl.Ex.new gT))) .nil))⟩
def iItemsD (i : Nat) : SI K κ where
  ti := fun _ => iItemsK i
  ev := fun ρ => match ρ[i]? with
    | some (some (.md kvs)) => .ok (kvs.map fun p => .tupW [keyD p.1, p.2]) (ρ.set i none)
    | _ => .bad
  ok := fun Wx G H ρ σ L Q hG hE hN p => by
    dsimp only at p
    split at p
    · rename_i kvs h
      obtain ⟨v, B, L', h1, h2, h3, h4, h5⟩ := hE.take hN h
      obtain ⟨c, ks, rfl, rfl, gc, hc, q⟩ := h2
      have nd := List.nodup_append.mp h4
      have cL : c ∈ L := h5 c (by simp)
      have ne : ∀ b ∈ L', b ≠ c := fun b hb z => nd.2.2 c (by simp) b hb z.symm
      refine ⟨c, ks, h1, hc, fun o => ?_⟩
      have ex : Ex G (upd G c (.frz o (.dK ks))) := Evl.Ex.new gc
      have nt : ∀ ps, H c ≠ some (.tbl ps) := fun ps z => by rw [hc] at z; cases z
      refine p _ (upd G c (.frz o (.dK ks))) _ [] L' ⟨ex, fun b u e n _ => ?_, fun b e => ?_, fun b e n z => ?_, fun b z => .inl (h5 b (List.mem_append_right _ z)), fun b u e => ?_, tab_put nt⟩ (h3.keep ex (fun b hb => ?_) (fun b hb u e => ?_) fun t => (t.put nt).give fun ps z => by rw [upd_same] at z; cases z) ⟨rfl, yl_items upd_same (KvAll.mono ex q)⟩ nd.2.1
      · rw [upd_ne (fun z => n (by rw [z]; exact cL))]; exact e
      · by_cases z : b = c
        · rw [z, upd_same] at e; cases e
        · rw [upd_ne z] at e; exact e
      · rw [upd_ne (fun w => n (by rw [w]; exact cL))]; exact z
      · by_cases z : b = c
        · rw [z, upd_same] at e ⊢; exact e
        · rw [upd_ne z] at e ⊢; exact hG b u e
      · rw [upd_ne (ne b hb)]; exact (h3.there b hb).2
      · rw [upd_ne (ne b hb)]; exact e
    · exact p.elim
end
end Pv
set_option maxRecDepth 100000
set_option maxHeartbeats 4000000
namespace Pv
open PySem PySem.Spec PyProof.Rows L2
/-- the tuple at a and the list at b as they stand at each turn, n things in each -/
def ItzM (K : PySem.W.Frag) (a b : Addr) (n : Nat) : It :=
  ⟨fun i H => ∃ (xs ys : List V) (x y : V), SqT K H a xs ∧ SqL K H b ys ∧ xs.length = n ∧ ys.length = n ∧ xs[i]? = some x ∧ ys[i]? = some y,
   fun i H v H' => ∃ T x y, v = .ref T ∧ H T = none ∧ H' = upd H T (.tup [x, y]) ∧ (∀ xs, SqT K H a xs → xs[i]? = some x) ∧ ∀ ys, SqL K H b ys → ys[i]? = some y,
   fun i H => ∃ (xs ys : List V), SqT K H a xs ∧ SqL K H b ys ∧ xs.length = n ∧ ys.length = n ∧ n ≤ i⟩
def iZipM (K : PySem.W.Frag) (ta : TA) : TI := fun σ H R => ta σ H fun vs H1 => ∃ (a b : Addr) (xs ys : List V), vs = [.ref a, .ref b] ∧ SqT K H1 a xs ∧ SqL K H1 b ys ∧ xs.length = ys.length ∧ R (ItzM K a b xs.length) H1
section
variable {K : PySem.W.Frag} {κ : Cls}
def pairD (p : D × D) : D := .tupW [p.1, p.2]
theorem RpAll.at {G : Hp} {vs : List V} {xs : List D} {i : Nat} {v : V} {x : D} (r : RpAll K κ G vs xs) (hv : vs[i]? = some v) (hx : xs[i]? = some x) : Rp K κ G v x := by
  obtain ⟨v', e, q⟩ := r.get hx
  rw [hv] at e
  cases e
  exact q
theorem yl_zm {G : Hp} {a b : Addr} {us ws : List V} {xs ys : List D} {n : Nat} (ha : SqT K G a us) (hb : SqL K G b ws) (rx : RpAll K κ G us xs) (ry : RpAll K κ G ws ys) (l1 : us.length = n) (l2 : ws.length = n) : Yl K κ (ItzM K a b n) G ((xs.zip ys).map pairD) := fun G' H' i g gh => by
  have e1 := rx.length
  have e2 := ry.length
  have sa : SqT K H' a us := ex_t (g.trans gh) ha
  have sb : SqL K H' b ws := ex_l (g.trans gh) hb
  refine ⟨fun x e => ?_, fun le => ⟨us, ws, sa, sb, l1, l2, ?_⟩⟩
  · have lt : i < ((xs.zip ys).map pairD).length := (List.getElem?_eq_some_iff.mp e).1
    rw [List.length_map, List.length_zip] at lt
    obtain ⟨u, hu⟩ : ∃ u, us[i]? = some u := ⟨_, List.getElem?_eq_getElem (by omega)⟩
    obtain ⟨w, hw⟩ : ∃ w, ws[i]? = some w := ⟨_, List.getElem?_eq_getElem (by omega)⟩
    obtain ⟨x1, hx1, _⟩ := rx.get' hu
    obtain ⟨y1, hy1, _⟩ := ry.get' hw
    have ex : x = .tupW [x1, y1] := by
      have ez : (xs.zip ys)[i]? = some (x1, y1) := List.getElem?_zip_eq_some.mpr ⟨hx1, hy1⟩
      rw [List.getElem?_map, ez] at e
      exact (Option.some.inj e).symm
    subst ex
    refine ⟨⟨us, ws, u, w, sa, sb, l1, l2, hu, hw⟩, fun v H'' y => ?_⟩
    obtain ⟨T, x', y', rfl, hT, rfl, f1, f2⟩ := y
    have q1 := f1 us sa
    have q2 := f2 ws sb
    rw [hu] at q1
    rw [hw] at q2
    cases q1
    cases q2
    have gx : Ex G (upd G' T (.tup [u, w])) := g.trans (Evl.Ex.new (fresh gh hT))
    exact ⟨_, .new gh hT, .tupW (.inl (.inl upd_same)) (.cons ((rx.at hu hx1).mono gx) (.cons ((ry.at hw hy1).mono gx) .nil))⟩
  · rw [List.length_map, List.length_zip] at le
    omega
/-- zip(a, b), a a tuple, b a list, of one length -/
def iZip (a b : SE K κ) : SI K κ where
  ti := fun Wx => iZipM K (tCons (a.te Wx) (tCons (b.te Wx) tNil))
  ev := fun ρ => (a.ev ρ).bindD fun x ρ => (b.ev ρ).bindD fun y ρ => match x, y with
    | .tup xs, .lst ys => if xs.length = ys.length then .ok ((xs.zip ys).map pairD) ρ else .bad
    | _, _ => .bad
  ok := fun Wx G H ρ σ L Q hG hE hN p => a.ok.then hG hE hN p fun x vx ρ1 G1 H1 L1 u1 e1 n1 r1 p => b.ok.then u1.gh e1 n1 p fun y vy ρ2 G2 H2 L2 u2 e2 n2 r2 p => by
    cases r1 with
    | tup hs ra =>
      cases r2 with
      | lst ht rb =>
        dsimp only at p
        split at p
        · rename_i hl
          have la := ra.length
          have lb := rb.length
          exact ⟨_, _, _, _, rfl, ex_t (u2.g.trans u2.gh) hs.sq, ex_l u2.gh ht, by omega, p _ G2 H2 [] L2 (.refl u2.gh) e2 ⟨rfl, yl_zm (ex_t u2.g hs.sq) ht (ra.mono u2.g) rb rfl (by omega)⟩ n2⟩
        · exact p.elim
      | _ => exact p.elim
    | _ => cases r2 <;> exact p.elim
end
end Pv
set_option maxRecDepth 100000
set_option maxHeartbeats 4000000
namespace Pv
open PySem PySem.Spec PyProof.Rows L2
end Pv
set_option maxRecDepth 100000
set_option maxHeartbeats 4000000
namespace Pv
open PySem PySem.Spec PyProof.Rows L2
/-- the promise of such an __init__: self.f is what it was handed -/
def spInit (C : Addr) (f : Str) : Sp := fun vs H Q _ => ∃ (a : Addr) (v : V), vs = [.ref a, v] ∧ H a = some (exo a C none) ∧ ∀ d, H d = none → d ≠ a → Q .non (upd (upd H d (exd d [(f, v)])) a (exo a C (some d)))
section
variable {K : PySem.W.Frag} {κ : Cls}
/-- raise X(e), X the k-th class -/
def sRaiseF (k : Nat) (e : SE K κ) : SS K κ where
  ts := fun Wx => fun _ σ H => tMkO (κ.at_ k) (spInit (κ.at_ k) (κ.fld k)) [] (tCons (e.te Wx) tNil) σ H fun cls d H' => Wx cls d σ H'
  sv := fun ρ => (e.ev ρ).bindD fun x ρ => .exc k (some x) ρ
  asg := []
  ok := fun Wx G H ρ σ L E hG hE hN p => e.ok.thenS hG hE hN p fun x vx ρ1 G1 H1 L1 u1 e1 n1 r1 p => by
    refine ⟨by show 1 ≤ 1000; decide, fun a ha => ⟨a, vx, rfl, upd_same, fun d hd ne => ⟨rfl, d, [(κ.fld k, vx)], upd_same, ?_, ?_, ?_⟩⟩⟩
    · rw [upd_ne ne, upd_same]
    · rw [upd_ne ne] at hd; exact hd
    · have hd1 : H1 d = none := by rw [upd_ne ne] at hd; exact hd
      have eh : upd (del (upd (upd (upd H1 a (exo a (κ.at_ k) none)) d (exd d [(κ.fld k, vx)])) a (exo a (κ.at_ k) (some d))) a) d (.xd [(κ.fld k, vx)]) = upd H1 d (.xd [(κ.fld k, vx)]) := by
        funext b
        by_cases h1 : b = d
        · rw [h1, upd_same, upd_same]
        · rw [upd_ne h1, upd_ne h1]
          by_cases h2 : b = a
          · rw [h2, del_same, ha]
          · rw [del_ne h2, upd_ne h2, upd_ne h1, upd_ne h2]
      rw [eh]
      have gd := fresh u1.gh hd1
      exact p (some d) σ (upd G1 d (.xd [(κ.fld k, vx)])) _ L1 (.new u1.gh hd1) (e1.new u1.gh hd1) n1 (.refl _ _) ⟨d, vx, rfl, upd_same, r1.mono (Evl.Ex.new gd)⟩
def rIsX (C : Addr) : List V → Hp → VK → Prop := fun vs H Q => ∃ (a : Addr) (d : Option Addr), vs = [.ref a, .ref C] ∧ H a = some (ExV (.ref C) d a) ∧ Q (.bl true) H
/-- isinstance(e, X), X the k-th class, of one of its own -/
def eIsX (k : Nat) (a : SE K κ) : SE K κ where
  te := fun Wx => tCB (rIsX (κ.at_ k)) (tCons (a.te Wx) (tCons (tC (.ref (κ.at_ k))) tNil))
  ev := fun ρ => (a.ev ρ).bindD fun x ρ => match x with
    | .excF j _ => if j = k then .ok (.d (.bl true)) ρ else .bad
    | .exc j => if j = k then .ok (.d (.bl true)) ρ else .bad
    | _ => .bad
  ok := fun Wx G H ρ σ L Q hG hE hN p => a.ok.then hG hE hN p fun x vx ρ1 G1 H1 L1 u1 e1 n1 r1 p => by
    have r2 := r1.mono u1.gh
    cases r2 with
    | excF h _ _ =>
      dsimp only at p
      split at p
      · rename_i e
        rw [e] at h
        exact ⟨_, _, rfl, h, p.ret (.refl u1.gh) e1 n1 (.bl _)⟩
      · exact p.elim
    | exc h =>
      dsimp only at p
      split at p
      · rename_i e
        rw [e] at h
        exact ⟨_, _, rfl, h, p.ret (.refl u1.gh) e1 n1 (.bl _)⟩
      · exact p.elim
    | _ => exact p.elim
def tFldX (K : PySem.W.Frag) (C : Addr) (n : Str) (te : TE) : TE := fun σ H Q => te σ H fun x H1 => ∃ (a d : Addr) (fs : List (Str × V)) (v : V), x = .ref a ∧ H1 a = some (ExV (.ref C) (some d) a) ∧ XfC K C ∧ PySem.W.findIn K (.ref C) n = some none ∧ H1 d = some (.xd fs) ∧ fs.lookup n = some v ∧ Q v H1
/-- e.n, e an exception of the k-th class, n its field -/
def eFldX (k : Nat) (n : Str) (hn : κ.fld k = n) (T : XfC K (κ.at_ k)) (hno : PySem.W.findIn K (.ref (κ.at_ k)) n = some none) (a : SE K κ) : SE K κ where
  te := fun Wx => tFldX K (κ.at_ k) n (a.te Wx)
  ev := fun ρ => (a.ev ρ).bindD fun x ρ => match x with
    | .excF j y => if j = k then .ok (.d y) ρ else .bad
    | _ => .bad
  ok := fun Wx G H ρ σ L Q hG hE hN p => a.ok.then hG hE hN p fun x vx ρ1 G1 H1 L1 u1 e1 n1 r1 p => by
    cases r1 with
    | excF h1 h2 h3 =>
      dsimp only at p
      split at p
      · rename_i e
        rw [e] at h1 h2
        exact ⟨_, _, _, _, rfl, u1.gh _ _ h1, T, hno, u1.gh _ _ h2, by rw [hn]; simp [List.lookup], p.ret (.refl u1.gh) e1 n1 h3⟩
      · exact p.elim
    | _ => exact p.elim
end
end Pv
set_option maxRecDepth 100000
set_option maxHeartbeats 4000000
namespace Pv
open PySem PySem.Spec PyProof.Rows L2
structure DefW (P : Program) (w : World) (K : PySem.W.Frag) (κ : Cls) (mg : Str → Option Value) (base : Heap) (x : Str) (l : Nat) (ps : List Str) (F : Fn) : Prop where
  ex : ∃ (a : Addr) (fd : FuncData), FnX P w K κ mg base l a fd ps F ∧ mg x = some (.ref a) ∧ PySem.W.keepIn K (.ref a) = true ∧ Binds K fd ps [] ∧ ∀ us : List Value, us.length = ps.length → bindArgs fd ⟨[], ps.zip us⟩ = pure (ps.zip us)
section
variable {P : Program} {w : World} {K : PySem.W.Frag} {κ : Cls} {mg : Str → Option Value} {base : Heap}
theorem DefW.d {x : Str} {l : Nat} {ps : List Str} {F : Fn} (D : DefW P w K κ mg base x l ps F) : Def P w K κ mg base x l ps F :=
  let ⟨a, fd, h1, h2, h3, h4, _⟩ := D.ex
  ⟨a, fd, h1, h2, h3, h4⟩
end
section
variable {K : PySem.W.Frag} {κ : Cls}
def eCatM (i : Nat) (b : SE K κ) : SE K κ where
  te := fun Wx => tOp rCat (tVar i) (b.te Wx)
  ev := fun ρ => match ρ[i]? with
    | some (some (.ml _)) => match b.ev ρ with
      | .ok (.ml ys) ρ1 => match ρ1[i]? with
        | some (some (.ml xs)) => if xs.length + ys.length ≤ 1000000 then .ok (.ml (xs ++ ys)) ρ1 else .bad
        | _ => .bad
      | _ => .bad
    | _ => .bad
  ok := fun Wx G H ρ σ L Q hG hE hN p => by
    dsimp only at p
    split at p
    · rename_i zs h0
      obtain ⟨a, vs0, hs, _⟩ := hE.list hG hN h0
      refine ⟨_, hs, b.ok Wx G H ρ σ L _ hG hE hN ?_⟩
      cases hb : b.ev ρ with
      | exc c f ρ1 => rw [hb] at p; exact p.elim
      | bad => rw [hb] at p; exact p.elim
      | ok w ρ1 =>
        rw [hb] at p
        cases w with
        | d x => exact p.elim
        | md x => exact p.elim
        | mm z => exact p.elim
        | ml ys =>
          dsimp only at p
          intro v G1 H1 Lw L1 u1 e1 r1 n1
          obtain ⟨c, ws, rfl, rfl, gc, hc, qc⟩ := r1
          have nda := List.nodup_append.mp n1
          split at p
          · rename_i xs hx
            split at p
            · rename_i hz
              obtain ⟨a', vs, hs', ga, ha, qa, _⟩ := e1.list u1.gh nda.2.1 hx
              rw [hs] at hs'
              cases hs'
              have l1 := qa.length
              have l2 := qc.length
              refine ⟨a, c, vs, ws, rfl, rfl, ha, hc, Nat.le_trans (by omega : vs.length + ws.length ≤ 1000000) (by decide), fun q hq => ?_⟩
              have u2 : Stp G H L G1 H1 L1 := u1.sub fun b z => List.mem_append_right _ z
              exact p _ G1 _ [q] L1 (u2.trans (.own u1.gh hq)) (e1.ownNew hq) ⟨q, _, rfl, rfl, fresh u1.gh hq, upd_same, qa.append qc⟩ (own_nodup hq e1 nda.2.1)
            · exact p.elim
          · exact p.elim
    · exact p.elim
end
end Pv
set_option maxRecDepth 100000
set_option maxHeartbeats 1000000
namespace Pv
open PySem PySem.Spec PyProof.Rows L2
def ext (H : Hp) (N : Addr → Option HO) : Hp := fun b => match N b with
  | some o => some o
  | none => H b
theorem ext_old {H : Hp} {N : Addr → Option HO} {b : Addr} (h : N b = none) : ext H N b = H b := by unfold ext; rw [h]
theorem ext_new {H : Hp} {N : Addr → Option HO} {b : Addr} {o : HO} (h : N b = some o) : ext H N b = some o := by unfold ext; rw [h]
def pk (p : Int × Int) : Key × V := (.inl p.1, .int p.2)
def nS (c : Addr) (ts : List Addr) (os : Addr → Obj) (ps : List (Int × Int)) : Addr → Option HO := fun b =>
  if b = c then some (.lst (ts.map V.ref)) else match (ts.zip ps).lookup b with
    | some p => some (.frz (os b) (.tup [.int p.1, .int p.2]))
    | none => none
def Rising (ps : List (Int × Int)) : Prop := ps.Pairwise fun p q => p.1 < q.1
def tSortIt (te : TE) : TE := fun σ H Q => te σ H fun x H1 => ∃ (d : Addr) (ps : List (Int × Int)), x = .ref d ∧ H1 d = some (.dK (ps.map pk)) ∧ Rising ps ∧
  ∀ (c : Addr) (ts : List Addr) (os : Addr → Obj), H1 c = none → (∀ t ∈ ts, H1 t = none) → c ∉ ts → ts.Nodup → ts.length = ps.length → (∀ t ∈ ts, (os t).dict = none) → Q (.ref c) (ext H1 (nS c ts os ps))
theorem look_zip : ∀ {ts : List Addr} {ps : List (Int × Int)} {j : Nat} {t : Addr} {p : Int × Int}, ts.Nodup → ts[j]? = some t → ps[j]? = some p → (ts.zip ps).lookup t = some p
  | [], _, _, _, _, _, h, _ => by simp at h
  | _ :: _, [], _, _, _, _, _, h => by simp at h
  | a :: ts, q :: ps, 0, t, p, nd, h1, h2 => by
    simp only [List.getElem?_cons_zero, Option.some.injEq] at h1 h2
    subst h1 h2
    simp [List.lookup]
  | a :: ts, q :: ps, j + 1, t, p, nd, h1, h2 => by
    have n := List.nodup_cons.mp nd
    have h1 : ts[j]? = some t := by simpa using h1
    have h2 : ps[j]? = some p := by simpa using h2
    have ne : (t == a) = false := beq_eq_false_iff_ne.mpr fun z => n.1 (by rw [← z]; exact List.mem_of_getElem? h1)
    rw [List.zip_cons_cons]
    simp only [List.lookup, ne]
    exact look_zip n.2 h1 h2
theorem zip_mem : ∀ {ts : List Addr} {ps : List (Int × Int)} {b : Addr} {p : Int × Int}, (ts.zip ps).lookup b = some p → b ∈ ts
  | [], _, _, _, h => by simp at h
  | _ :: _, [], _, _, h => by simp at h
  | a :: ts, q :: ps, b, p, h => by
    rw [List.zip_cons_cons] at h
    by_cases e : b = a
    · rw [e]; exact List.mem_cons_self
    · have ne : (b == a) = false := beq_eq_false_iff_ne.mpr e
      simp only [List.lookup, ne] at h
      exact List.mem_cons_of_mem _ (zip_mem h)
end Pv
set_option maxRecDepth 100000
set_option maxHeartbeats 1000000
namespace Pv
open PySem PySem.Spec PyProof.Rows L2
section
variable {K : PySem.W.Frag} {κ : Cls}
def intPs : List (Key × D) → Option (List (Int × Int))
  | [] => some []
  | (.inl i, .int j) :: r => match intPs r with
    | some ps => some ((i, j) :: ps)
    | none => none
  | _ :: _ => none
theorem intPs_ok {G : Hp} : ∀ (ks : List (Key × V)) (kvs : List (Key × D)) (ps : List (Int × Int)), KvAll K κ G ks kvs → intPs kvs = some ps → ks = ps.map pk := by
  intro ks
  induction ks with
  | nil =>
    intro kvs ps r h
    cases kvs with
    | nil => cases h; rfl
    | cons p kvs => exact r.elim
  | cons q ks ih =>
    intro kvs ps r h
    cases kvs with
    | nil => exact r.elim
    | cons p kvs =>
      obtain ⟨a, v⟩ := q
      obtain ⟨b, x⟩ := p
      obtain ⟨e, rx, r⟩ := r
      subst e
      cases a with
      | inr s => cases h
      | inl i =>
        cases rx <;> first | (cases h; done) | skip
        rename_i j
        simp only [intPs] at h
        split at h
        · rename_i ps' hp
          cases h
          rw [ih kvs ps' r hp]
          rfl
        · cases h
theorem rpall_of {G : Hp} : ∀ (vs : List V) (xs : List D), vs.length = xs.length → (∀ (j : Nat) (v : V) (x : D), vs[j]? = some v → xs[j]? = some x → Rp K κ G v x) → RpAll K κ G vs xs := by
  intro vs
  induction vs with
  | nil =>
    intro xs hl _
    cases xs with
    | nil => exact .nil
    | cons _ _ => cases hl
  | cons v vs ih =>
    intro xs hl h
    cases xs with
    | nil => cases hl
    | cons x xs => exact .cons (h 0 v x rfl rfl) (ih xs (Nat.succ.inj hl) fun j v' x' h1 h2 => h (j + 1) v' x' (by simpa using h1) (by simpa using h2))
instance (ps : List (Int × Int)) : Decidable (Rising ps) := by unfold Rising; infer_instance
/-- sorted(e.items()), the dict's keys whole numbers that rise, its values whole numbers -/
def eSortIt (a : SE K κ) : SE K κ where
  te := fun Wx => tSortIt (a.te Wx)
  ev := fun ρ => match a.ev ρ with
    | .ok (.md kvs) ρ => match intPs kvs with
      | some ps => if Rising ps then .ok (.d (.lst (ps.map fun p => .tup [.int p.1, .int p.2]))) ρ else .bad
      | none => .bad
    | _ => .bad
  ok := fun Wx G H ρ σ L Q hG hE hN p => by
    refine a.ok Wx G H ρ σ L _ hG hE hN ?_
    dsimp only at p
    cases h : a.ev ρ with
    | exc c f ρ1 => rw [h] at p; exact p.elim
    | bad => rw [h] at p; exact p.elim
    | ok w ρ1 =>
      rw [h] at p
      cases w with
      | d x => exact p.elim
      | ml x => exact p.elim
      | mm z => exact p.elim
      | md kvs =>
        dsimp only at p
        intro v G1 H1 Lw L1 u1 e1 r1 n1
        obtain ⟨d, ks, rfl, rfl, gd, hd, q⟩ := r1
        split at p
        · rename_i ps hp
          split at p
          · rename_i rise
            have ek := intPs_ok ks kvs ps q hp
            subst ek
            refine ⟨d, ps, rfl, hd, rise, fun c ts os hc hts cts nd len hos => ?_⟩
            have dom : ∀ b o, nS c ts os ps b = some o → H1 b = none := fun b o hb => by
              unfold nS at hb
              split at hb
              · rename_i e; rw [e]; exact hc
              · split at hb
                · rename_i p0 hl; exact hts b (zip_mem hl)
                · cases hb
            have off : ∀ b, H1 b ≠ none → nS c ts os ps b = none := fun b hb => by
              cases e : nS c ts os ps b with
              | none => rfl
              | some o => exact absurd (dom b o e) hb
            have gH : ∀ {b : Addr} {o : HO}, G1 b = some o → H1 b ≠ none := fun {b o} e z => by
              rw [u1.gh b o e] at z
              cases z
            have exG : Ex G1 (ext G1 (nS c ts os ps)) := fun b o e => by rw [ext_old (off b (gH e))]; exact e
            have nda := List.nodup_append.mp n1
            have st : Stp G1 H1 L1 (ext G1 (nS c ts os ps)) (ext H1 (nS c ts os ps)) L1 := by
              refine ⟨exG, fun b o e _ _ => by rw [ext_old (off b (by rw [e]; exact Option.some_ne_none _))]; exact e, fun b e => ?_, fun b n _ g => by rw [ext_old (off b n)]; exact g, fun b z => .inl z, fun b o e => ?_, fun P ⟨ps, q, r⟩ => ⟨ps, by rw [ext_old (off P (by rw [q]; exact Option.some_ne_none _))]; exact q, r⟩⟩
              · cases z : nS c ts os ps b with
                | some o => rw [ext_new z] at e; cases e
                | none => rw [ext_old z] at e; exact e
              · cases z : nS c ts os ps b with
                | some o' => rw [ext_new z] at e ⊢; exact e
                | none => rw [ext_old z] at e ⊢; exact u1.gh b o e
            have env : EnvR K κ (ext G1 (nS c ts os ps)) (ext H1 (nS c ts os ps)) ρ1 σ L1 :=
              e1.keep exG (fun b hb => by rw [ext_old (off b (e1.there b hb).1)]; exact (e1.there b hb).2) (fun b hb o e => by rw [ext_old (off b (by rw [e]; exact Option.some_ne_none _))]; exact e) fun t P hP => by
                obtain ⟨⟨ps, q, r⟩, g⟩ := t P hP
                have o := off P (by rw [q]; exact Option.some_ne_none _)
                exact ⟨⟨ps, by rw [ext_old o]; exact q, r⟩, by rw [ext_old o]; exact g⟩
            have atc : nS c ts os ps c = some (.lst (ts.map V.ref)) := if_pos rfl
            have u2 : Stp G H L G1 H1 L1 := u1.sub fun b z => List.mem_append_right _ z
            refine p (.ref c) _ _ [] L1 (u2.trans st) env ⟨rfl, .lst (SqL.of (ext_new atc)) (rpall_of _ _ (by simp [len]) fun j v x h1 h2 => ?_)⟩ nda.2.1
            rw [List.getElem?_map] at h1 h2
            cases ht : ts[j]? with
            | none => rw [ht] at h1; cases h1
            | some t =>
              cases hq : ps[j]? with
              | none => rw [hq] at h2; cases h2
              | some q0 =>
                rw [ht] at h1
                rw [hq] at h2
                cases h1
                cases h2
                have tt : t ∈ ts := List.mem_of_getElem? ht
                have ne : t ≠ c := fun z => cts (by rw [← z]; exact tt)
                have att : nS c ts os ps t = some (.frz (os t) (.tup [.int q0.1, .int q0.2])) := by
                  unfold nS
                  rw [if_neg ne, look_zip nd ht hq]
                exact .tup (.inl ⟨os t, ext_new att, hos t tt⟩) (.cons (.int _) (.cons (.int _) .nil))
          · exact p.elim
        · exact p.elim
end
end Pv
set_option maxRecDepth 100000
set_option maxHeartbeats 1000000
namespace Pv
open PySem PySem.Spec PyProof.Rows L2
end Pv
set_option maxRecDepth 100000
set_option maxHeartbeats 4000000
namespace Pv
open PySem PySem.Spec PyProof.Rows L2
section
variable {K : PySem.W.Frag} {κ : Cls}
theorem eV_ev (i : Nat) : (eV (K := K) (κ := κ) i).ev = evV i := rfl
theorem eC_ev (x : D) (v : V) (r : ∀ G, Rp K κ G v x) : (eC (K := K) (κ := κ) x v r).ev = fun ρ => .ok (.d x) ρ := rfl
theorem eOp_ev (r : R2) (g : D → D → Option D) (h : OpS K κ r g) (a b : SE K κ) : (eOp (K := K) (κ := κ) r g h a b).ev = fun ρ => (a.ev ρ).bindD fun x ρ => (b.ev ρ).bindD fun y ρ => R.of (g x y) ρ := rfl
theorem eUn_ev (r : V → Hp → VK → Prop) (g : D → Option D) (h : UnS K κ r g) (a : SE K κ) : (eUn (K := K) (κ := κ) r g h a).ev = fun ρ => (a.ev ρ).bindD fun x ρ => R.of (g x) ρ := rfl
theorem eIsN_ev (a : SE K κ) : (eIsN (K := K) (κ := κ) a).ev = fun ρ => (a.ev ρ).bindD fun x ρ => .ok (.d (.bl (D.isN x))) ρ := rfl
theorem eNotN_ev (a : SE K κ) : (eNotN (K := K) (κ := κ) a).ev = fun ρ => (a.ev ρ).bindD fun x ρ => .ok (.d (.bl (!D.isN x))) ρ := rfl
theorem aNil_ev : (aNil (K := K) (κ := κ) ).ev = fun ρ => .ok [] ρ := rfl
theorem aCons_ev (a : SE K κ) (r : SA K κ) : (aCons (K := K) (κ := κ) a r).ev = fun ρ => (a.ev ρ).bindD fun x ρ => (r.ev ρ).bind fun as ρ => .ok (.a x :: as) ρ := rfl
theorem aM_ev (i : Nat) (r : SA K κ) : (aM (K := K) (κ := κ) i r).ev = fun ρ => match ρ[i]? with
    | some (some _) => (r.ev ρ).bind fun as ρ => .ok (.m i :: as) ρ
    | _ => .bad := rfl
theorem eTup_ev (r : SA K κ) : (eTup (K := K) (κ := κ) r).ev = fun ρ => (r.ev ρ).bind fun as ρ => evD as fun xs => if xs.length ≤ 1000000 then .ok (.d (.tup xs)) ρ else .bad := rfl
theorem eLst_ev (r : SA K κ) : (eLst (K := K) (κ := κ) r).ev = fun ρ => (r.ev ρ).bind fun as ρ => evD as fun xs => if xs.length ≤ 1000000 then .ok (.d (.lst xs)) ρ else .bad := rfl
theorem eLstM_ev (r : SA K κ) : (eLstM (K := K) (κ := κ) r).ev = fun ρ => (r.ev ρ).bind fun as ρ => evD as fun xs => if xs.length ≤ 1000000 then .ok (.ml xs) ρ else .bad := rfl
theorem eCall_ev (n : Nat) (f : Fn) (r : SA K κ) : (eCall (K := K) (κ := κ) n f r).ev = fun ρ => (r.ev ρ).bind fun as ρ => if as.length = n then callOn f as ρ else .bad := rfl
theorem eCB_ev (r : List V → Hp → VK → Prop) (g : List D → Option D) (h : CbS K κ r g) (a : SA K κ) : (eCB (K := K) (κ := κ) r g h a).ev = fun ρ => (a.ev ρ).bind fun as ρ => evD as fun xs => R.of (g xs) ρ := rfl
theorem tV_ev (a : SE K κ) : (tV (K := K) (κ := κ) a).ev = fun ρ => (a.ev ρ).bindD fun x ρ => match x with
    | .bl b => .ok b ρ
    | _ => .bad := rfl
theorem tV'_ev (a : SE K κ) : (tV' (K := K) (κ := κ) a).ev = (tV a).ev := rfl
theorem tAnd'_ev (a b : ST K κ) : (tAnd' (K := K) (κ := κ) a b).ev = fun ρ => (a.ev ρ).bind fun c ρ => if c = true then b.ev ρ else .ok false ρ := rfl
theorem tOr'_ev (a b : ST K κ) : (tOr' (K := K) (κ := κ) a b).ev = fun ρ => (a.ev ρ).bind fun c ρ => if c = true then .ok true ρ else b.ev ρ := rfl
theorem tNot'_ev (a : ST K κ) : (tNot' (K := K) (κ := κ) a).ev = fun ρ => (a.ev ρ).bind fun c ρ => .ok (!c) ρ := rfl
theorem eAndV_ev (a b : SE K κ) : (eAndV (K := K) (κ := κ) a b).ev = fun ρ => (a.ev ρ).bindD fun x ρ => match x with
    | .bl c => if c = true then b.ev ρ else .ok (.d (.bl false)) ρ
    | _ => .bad := rfl
theorem eOrV_ev (a b : SE K κ) : (eOrV (K := K) (κ := κ) a b).ev = fun ρ => (a.ev ρ).bindD fun x ρ => match x with
    | .bl c => if c = true then .ok (.d (.bl true)) ρ else b.ev ρ
    | _ => .bad := rfl
theorem eNotV_ev (a : SE K κ) : (eNotV (K := K) (κ := κ) a).ev = fun ρ => (a.ev ρ).bindD fun x ρ => match x with
    | .bl c => .ok (.d (.bl (!c))) ρ
    | _ => .bad := rfl
theorem eIf_ev (t : ST K κ) (a b : SE K κ) : (eIf (K := K) (κ := κ) t a b).ev = fun ρ => (t.ev ρ).bind fun c ρ => if c = true then a.ev ρ else b.ev ρ := rfl
theorem sNil_sv : (sNil (K := K) (κ := κ) ).sv = fun ρ => .ok .nx ρ := rfl
theorem sSeq_sv (a b : SS K κ) : (sSeq (K := K) (κ := κ) a b).sv = fun ρ => (a.sv ρ).flow b.sv := rfl
theorem sAsg_sv (i : Nat) (e : SE K κ) : (sAsg (K := K) (κ := κ) i e).sv = fun ρ => (e.ev ρ).bind fun w ρ => if i < ρ.length then .ok .nx (ρ.set i (some w)) else .bad := rfl
theorem sIf_sv (t : ST K κ) (a b : SS K κ) : (sIf (K := K) (κ := κ) t a b).sv = fun ρ => (t.ev ρ).bind fun c ρ => if c = true then a.sv ρ else b.sv ρ := rfl
theorem sRet_sv (e : SE K κ) : (sRet (K := K) (κ := κ) e).sv = fun ρ => (e.ev ρ).bind fun w ρ => .ok (.rt w) ρ := rfl
theorem sDrop_sv (e : SE K κ) : (sDrop (K := K) (κ := κ) e).sv = fun ρ => (e.ev ρ).bind fun _ ρ => .ok .nx ρ := rfl
theorem sSetL_sv (i j : Nat) (e : SE K κ) : (sSetL (K := K) (κ := κ) i j e).sv = fun ρ => (e.ev ρ).bindD fun x ρ => match ρ[i]? with
    | some (some (.ml xs)) => if j < xs.length then .ok .nx (ρ.set i (some (.ml (xs.set j x)))) else .bad
    | _ => .bad := rfl
theorem sApp_sv (K' : PySem.W.Frag) (hK : K' = K) (i : Nat) (e : SE K κ) : (sApp (K := K) (κ := κ) K' hK i e).sv = fun ρ => match ρ[i]? with
    | some (some (.ml _)) => (e.ev ρ).bindD fun x ρ => match ρ[i]? with
      | some (some (.ml xs)) => if xs.length < 1000000 then .ok .nx (ρ.set i (some (.ml (xs ++ [x])))) else .bad
      | _ => .bad
    | _ => .bad := rfl
theorem eIxM_ev (i : Nat) (b : SE K κ) : (eIxM (K := K) (κ := κ) i b).ev = fun ρ => match ρ[i]? with
    | some (some (.ml _)) => (b.ev ρ).bindD fun y ρ => match y, ρ[i]? with
      | .int j, some (some (.ml xs)) => match atI xs j with
        | some z => .ok (.d z) ρ
        | none => .bad
      | _, _ => .bad
    | _ => .bad := rfl
theorem eLenM_ev (i : Nat) : (eLenM (K := K) (κ := κ) i).ev = fun ρ => match ρ[i]? with
    | some (some (.ml xs)) => .ok (.d (.int xs.length)) ρ
    | _ => .bad := rfl
theorem iT_ev (a : SE K κ) : (iT (K := K) (κ := κ) a).ev = fun ρ => (a.ev ρ).bindD fun x ρ => match x with
    | .tup xs => .ok xs ρ
    | _ => .bad := rfl
theorem iL_ev (a : SE K κ) : (iL (K := K) (κ := κ) a).ev = fun ρ => (a.ev ρ).bindD fun x ρ => match x with
    | .lst xs => .ok xs ρ
    | _ => .bad := rfl
theorem iR1_ev (a : SE K κ) : (iR1 (K := K) (κ := κ) a).ev = fun ρ => (a.ev ρ).bindD fun x ρ => match x with
    | .int n => if -(2 ^ 62) ≤ n ∧ n < 2 ^ 62 then .ok (nums 0 n.toNat) ρ else .bad
    | _ => .bad := rfl
theorem iR2_ev (a b : SE K κ) : (iR2 (K := K) (κ := κ) a b).ev = fun ρ => (a.ev ρ).bindD fun x ρ => (b.ev ρ).bindD fun y ρ => match x, y with
    | .int m, .int n => if -(2 ^ 62) ≤ m ∧ m < 2 ^ 62 ∧ -(2 ^ 62) ≤ n ∧ n < 2 ^ 62 then .ok (nums m (n - m).toNat) ρ else .bad
    | _, _ => .bad := rfl
theorem gN_put (i : Nat) : (gN (K := K) (κ := κ) i).put = fun x ρ => if i < ρ.length then some (ρ.set i (some (.d x))) else none := rfl
theorem gs0_put : (gs0 (K := K) (κ := κ) ).put = fun xs ρ => match xs with
    | [] => some ρ
    | _ => none := rfl
theorem gs1_put (g : SG K κ) (r : SGs K κ) : (gs1 (K := K) (κ := κ) g r).put = fun xs ρ => match xs with
    | x :: xs => match g.put x ρ with
      | some ρ => r.put xs ρ
      | none => none
    | [] => none := rfl
theorem gT_put (n : Nat) (r : SGs K κ) : (gT (K := K) (κ := κ) n r).put = fun x ρ => match x with
    | .tup xs => if xs.length = n then r.put xs ρ else none
    | .tupW xs => if xs.length = n then r.put xs ρ else none
    | _ => none := rfl
theorem sAsgG_sv (g : SG K κ) (e : SE K κ) : (sAsgG (K := K) (κ := κ) g e).sv = fun ρ => (e.ev ρ).bindD fun x ρ => match g.put x ρ with
    | some ρ => .ok .nx ρ
    | none => .bad := rfl
theorem tYes'_ev : (tYes' (K := K) (κ := κ) ).ev = fun ρ => .ok true ρ := rfl
theorem eIs_ev (c : V) (u : Value) (hc : ClsV c u) (g : D → Option Bool) (hg : ∀ x b, g x = some b → IsK K κ x ∧ PySem.W.kitOne K (tyD κ x) u = some b) (a : SE K κ) : (eIs (K := K) (κ := κ) c u hc g hg a).ev = fun ρ => (a.ev ρ).bindD fun x ρ => match g x with
    | some b => .ok (.d (.bl b)) ρ
    | none => .bad := rfl
theorem sRaise_sv (k : Nat) : (sRaise (K := K) (κ := κ) k).sv = fun ρ => .exc k none ρ := rfl
theorem sTry_sv (c : Value) (i j : Nat) (hij : i ≠ j) (f : Nat → Bool) (hf : ∀ k, f k = true → PySem.W.exmOne K (.ref (κ.at_ k)) c = some true) (b : SS K κ) : (sTry (K := K) (κ := κ) c i j hij f hf b).sv = fun ρ => match b.sv ρ with
    | .exc k x ρ => if f k = true ∧ i < ρ.length ∧ j < ρ.length then .ok .nx ((ρ.set i none).set j (some (.d (D.ofExc k x)))) else .bad
    | r => r := rfl
theorem sNever_sv : (sNever (K := K) (κ := κ) ).sv = fun _ => .bad := rfl
theorem sPar_sv (i j : Nat) (hij : i ≠ j) (a b : SE K κ) : (sPar (K := K) (κ := κ) i j hij a b).sv = fun ρ => (a.ev ρ).bindD fun x ρ => (b.ev ρ).bindD fun y ρ => if i < ρ.length ∧ j < ρ.length then .ok .nx ((ρ.set i (some (.d x))).set j (some (.d y))) else .bad := rfl
theorem o0_ev : (o0 (K := K) (κ := κ) ).ev = fun ρ => .ok none ρ := rfl
theorem o1_ev (a : SE K κ) : (o1 (K := K) (κ := κ) a).ev = fun ρ => (a.ev ρ).bindD fun x ρ => match x with
    | .int i => .ok (some i) ρ
    | _ => .bad := rfl
theorem eSlT_ev (a : SE K κ) (lo hi : SO K κ) : (eSlT (K := K) (κ := κ) a lo hi).ev = fun ρ => (a.ev ρ).bindD fun x ρ => (lo.ev ρ).bind fun i ρ => (hi.ev ρ).bind fun j ρ => match x with
    | .tup xs => .ok (.d (.tup (cutD xs i j))) ρ
    | _ => .bad := rfl
theorem sSetD_sv (i : Nat) (k e : SE K κ) : (sSetD (K := K) (κ := κ) i k e).sv = fun ρ => (e.ev ρ).bindD fun x ρ => match ρ[i]? with
    | some (some (.md _)) => (k.ev ρ).bindD fun y ρ => match D.key y, ρ[i]? with
      | some kk, some (some (.md kvs)) => if kvs.length < 1000000 then .ok .nx (ρ.set i (some (.md (storeD kvs kk x)))) else .bad
      | _, _ => .bad
    | _ => .bad := rfl
theorem eIxD_ev (i : Nat) (k : SE K κ) : (eIxD (K := K) (κ := κ) i k).ev = fun ρ => match ρ[i]? with
    | some (some (.md _)) => (k.ev ρ).bindD fun y ρ => match D.key y, ρ[i]? with
      | some kk, some (some (.md kvs)) => R.of (lookD kvs kk) ρ
      | _, _ => .bad
    | _ => .bad := rfl
theorem eGetD_ev (i : Nat) (k e : SE K κ) : (eGetD (K := K) (κ := κ) i k e).ev = fun ρ => match ρ[i]? with
    | some (some (.md _)) => (k.ev ρ).bindD fun y ρ => (e.ev ρ).bindD fun z ρ => match D.key y, ρ[i]? with
      | some kk, some (some (.md kvs)) => .ok (.d ((lookD kvs kk).getD z)) ρ
      | _, _ => .bad
    | _ => .bad := rfl
theorem eSortD_ev (i : Nat) : (eSortD (K := K) (κ := κ) i).ev = fun ρ => match ρ[i]? with
    | some (some (.md kvs)) => match keysI kvs with
      | some is => if is.length < 64 then .ok (.d (.lst ((sortI is).map .int))) ρ else .bad
      | none => .bad
    | _ => .bad := rfl
theorem eDict_ev (a : SE K κ) : (eDict (K := K) (κ := κ) a).ev = fun ρ => (a.ev ρ).bindD fun x ρ => match D.seq x with
    | some xs => match pairsD xs with
      | some kvs => .ok (.md (kvs.foldl (fun acc p => storeD acc p.1 p.2) [])) ρ
      | none => .bad
    | none => .bad := rfl
theorem eNegC_ev (i : Int) : (eNegC (K := K) (κ := κ) i).ev = fun ρ => .ok (.d (.int (-i))) ρ := rfl
theorem eRevT_ev (a : SE K κ) : (eRevT (K := K) (κ := κ) a).ev = fun ρ => (a.ev ρ).bindD fun x ρ => match x with
    | .tup xs => .ok (.d (.tup xs.reverse)) ρ
    | _ => .bad := rfl
theorem sAugI_sv (f : Int → Int → Int) (i : Nat) (e : SE K κ) : (sAugI (K := K) (κ := κ) f i e).sv = fun ρ => match ρ[i]? with
    | some (some (.d (.int m))) => (e.ev ρ).bindD fun y ρ => match y with
      | .int n => .ok .nx (ρ.set i (some (.d (.int (f m n)))))
      | _ => .bad
    | _ => .bad := rfl
theorem eOrD_ev (a b : SE K κ) : (eOrD (K := K) (κ := κ) a b).ev = fun ρ => (a.ev ρ).bindD fun x ρ => match D.tru x with
    | some true => .ok (.d x) ρ
    | some false => b.ev ρ
    | none => .bad := rfl
theorem eRepM_ev (a k : SE K κ) : (eRepM (K := K) (κ := κ) a k).ev = fun ρ => match a.ev ρ with
    | .ok (.ml xs) ρ => (k.ev ρ).bindD fun y ρ => match y with
      | .int n => if 0 ≤ n ∧ n ≤ 1000 ∧ xs.length ≤ 1000 then .ok (.ml (List.replicate n.toNat xs).flatten) ρ else .bad
      | _ => .bad
    | _ => .bad := rfl
theorem iItemsD_ev (i : Nat) : (iItemsD (K := K) (κ := κ) i).ev = fun ρ => match ρ[i]? with
    | some (some (.md kvs)) => .ok (kvs.map fun p => .tupW [keyD p.1, p.2]) (ρ.set i none)
    | _ => .bad := rfl
theorem iZip_ev (a b : SE K κ) : (iZip (K := K) (κ := κ) a b).ev = fun ρ => (a.ev ρ).bindD fun x ρ => (b.ev ρ).bindD fun y ρ => match x, y with
    | .tup xs, .lst ys => if xs.length = ys.length then .ok ((xs.zip ys).map pairD) ρ else .bad
    | _, _ => .bad := rfl
theorem sRaiseF_sv (k : Nat) (e : SE K κ) : (sRaiseF (K := K) (κ := κ) k e).sv = fun ρ => (e.ev ρ).bindD fun x ρ => .exc k (some x) ρ := rfl
theorem eIsX_ev (k : Nat) (a : SE K κ) : (eIsX (K := K) (κ := κ) k a).ev = fun ρ => (a.ev ρ).bindD fun x ρ => match x with
    | .excF j _ => if j = k then .ok (.d (.bl true)) ρ else .bad
    | .exc j => if j = k then .ok (.d (.bl true)) ρ else .bad
    | _ => .bad := rfl
theorem eFldX_ev (k : Nat) (n : Str) (hn : κ.fld k = n) (T : XfC K (κ.at_ k)) (hno : PySem.W.findIn K (.ref (κ.at_ k)) n = some none) (a : SE K κ) : (eFldX (K := K) (κ := κ) k n hn T hno a).ev = fun ρ => (a.ev ρ).bindD fun x ρ => match x with
    | .excF j y => if j = k then .ok (.d y) ρ else .bad
    | _ => .bad := rfl
theorem eCatM_ev (i : Nat) (b : SE K κ) : (eCatM (K := K) (κ := κ) i b).ev = fun ρ => match ρ[i]? with
    | some (some (.ml _)) => match b.ev ρ with
      | .ok (.ml ys) ρ1 => match ρ1[i]? with
        | some (some (.ml xs)) => if xs.length + ys.length ≤ 1000000 then .ok (.ml (xs ++ ys)) ρ1 else .bad
        | _ => .bad
      | _ => .bad
    | _ => .bad := rfl
theorem eSortIt_ev (a : SE K κ) : (eSortIt (K := K) (κ := κ) a).ev = fun ρ => match a.ev ρ with
    | .ok (.md kvs) ρ => match intPs kvs with
      | some ps => if Rising ps then .ok (.d (.lst (ps.map fun p => .tup [.int p.1, .int p.2]))) ρ else .bad
      | none => .bad
    | _ => .bad := rfl
end
end Pv
namespace Pv
theorem ite_t {α : Sort _} {a b : α} : (if (true = true) then a else b) = a := rfl
theorem ite_f {α : Sort _} {a b : α} : (if (false = true) then a else b) = b := rfl
section
variable {put : D → Env → Option Env} {body : Env → R Env Flow} {x : D} {xs : List D} {ρ ρ1 ρ2 : Env} {w : W}
theorem loop_nx (hp : put x ρ = some ρ1) (hb : body ρ1 = .ok .nx ρ2) : loopS put body (x :: xs) ρ = loopS put body xs ρ2 := by
  rw [loopS.eq_2, hp]
  simp only [hb]
theorem loop_rt (hp : put x ρ = some ρ1) (hb : body ρ1 = .ok (.rt w) ρ2) : loopS put body (x :: xs) ρ = .ok (.rt w) ρ2 := by
  rw [loopS.eq_2, hp]
  simp only [hb]
end
end Pv
local macro_rules | `(tactic| simp? [$xs,*]) => `(tactic| simp only [Pv.eV_ev, Pv.eC_ev, Pv.eOp_ev, Pv.eUn_ev, Pv.eIsN_ev, Pv.eNotN_ev, Pv.aNil_ev, Pv.aCons_ev, Pv.aM_ev, Pv.eTup_ev, Pv.eLst_ev, Pv.eLstM_ev, Pv.eCall_ev, Pv.eCB_ev, Pv.tV_ev, Pv.tV'_ev, Pv.tAnd'_ev, Pv.tOr'_ev, Pv.tNot'_ev, Pv.eAndV_ev, Pv.eOrV_ev, Pv.eNotV_ev, Pv.eIf_ev, Pv.sNil_sv, Pv.sSeq_sv, Pv.sAsg_sv, Pv.sIf_sv, Pv.sRet_sv, Pv.sDrop_sv, Pv.sSetL_sv, Pv.sApp_sv, Pv.eIxM_ev, Pv.eLenM_ev, Pv.iT_ev, Pv.iL_ev, Pv.iR1_ev, Pv.iR2_ev, Pv.gN_put, Pv.gs0_put, Pv.gs1_put, Pv.gT_put, Pv.sAsgG_sv, Pv.tYes'_ev, Pv.eIs_ev, Pv.sRaise_sv, Pv.sTry_sv, Pv.sNever_sv, Pv.sPar_sv, Pv.o0_ev, Pv.o1_ev, Pv.eSlT_ev, Pv.sSetD_sv, Pv.eIxD_ev, Pv.eGetD_ev, Pv.eSortD_ev, Pv.eDict_ev, Pv.eNegC_ev, Pv.eRevT_ev, Pv.eOrD_ev, Pv.eRepM_ev, Pv.sAugI_sv, Pv.iItemsD_ev, Pv.iZip_ev, Pv.sRaiseF_sv, Pv.eIsX_ev, Pv.eFldX_ev, Pv.eCatM_ev, Pv.eSortIt_ev, Pv.sAugAdd, Pv.sAugSub, Pv.eIntOf, Pv.eRep01, Pv.eStrOf, Pv.eTupOf, Pv.eLstOf, Pv.eCatT, Pv.eInt, Pv.eStr, Pv.eBl, Pv.eNon, Pv.eAdd, Pv.eSub, Pv.eMul, Pv.eMulW, Pv.eMod, Pv.eDiv, Pv.ePow, Pv.eLt, Pv.eLe, Pv.eGt, Pv.eGe, Pv.eEq, Pv.eNe, Pv.eIxL, Pv.eIxT, Pv.eLen, Pv.eMax2, Pv.eMin2, Pv.eAll, Pv.eAny, Pv.eSum, Pv.eIsTy, Pv.R.bindD_ok, Pv.gI, Pv.R.bindD_ok, Pv.R.bindD_exc, Pv.R.bind_ok, Pv.R.bind_exc, Pv.R.bind_bad, Pv.R.of, Pv.R.flow, Pv.evV, Pv.evD, Pv.dat, Pv.pull, Pv.push, Pv.callOn, Pv.left, Pv.begun, List.length_cons, List.length_nil, List.getElem?_cons_zero, List.getElem?_cons_succ, List.set_cons_zero, List.set_cons_succ, if_true, if_false, Pv.ite_t, Pv.ite_f, Nat.reduceAdd, Nat.reduceLT, Nat.reduceSub, Nat.reduceEqDiff, Nat.reduceLeDiff, List.map_cons, List.map_nil, List.replicate, List.append_nil, List.nil_append, List.cons_append, and_self, true_and, and_true, Bool.not_true, Bool.not_false, Bool.false_eq_true, reduceIte, Nat.zero_add, Nat.lt_add_left_iff_pos, $xs,*])
set_option maxRecDepth 100000
set_option maxHeartbeats 4000000
namespace Pv
open PySem PySem.Spec PyProof.Rows L2
theorem loopC_f {vs : List Nat} {put : D → Env → Option Env} {t : Env → R Env Bool} {e : Env → R Env W} {x : D} {xs acc : List D} {ρ ρ1 ρ2 : Env} (hp : put x ρ = some ρ1) (ht : t ρ1 = .ok false ρ2) :
    loopC vs put t e (x :: xs) ρ acc = loopC vs put t e xs (wipeE ρ2 vs) acc := by
  rw [loopC.eq_2, hp]
  simp only [ht]
theorem loopC_t {vs : List Nat} {put : D → Env → Option Env} {t : Env → R Env Bool} {e : Env → R Env W} {x y : D} {xs acc : List D} {ρ ρ1 ρ2 ρ3 : Env} (hp : put x ρ = some ρ1) (ht : t ρ1 = .ok true ρ2) (he : e ρ2 = .ok (.d y) ρ3) (hl : acc.length < 1000000) :
    loopC vs put t e (x :: xs) ρ acc = loopC vs put t e xs (wipeE ρ3 vs) (acc ++ [y]) := by
  rw [loopC.eq_2, hp]
  simp only [ht, he, if_pos hl]
section
variable {K : PySem.W.Frag} {κ : Cls} {mg : Str → Option Value}
theorem fn_rt {n : Nat} {asg : List Nat} {sv : Env → R Env Flow} {ws us : List W} {ρ : Env} {w : W} (h : sv (begun n ws) = .ok (.rt w) ρ) (l : left asg ρ 0 ws = some us) : fnOf n asg sv ws = .ok w us := by
  unfold fnOf
  rw [h]
  show (match left asg ρ 0 ws with | some us => R.ok w us | none => .bad) = _
  rw [l]
theorem for_of {it : SI K κ} {g : SG K κ} {b : SS K κ} {ρ ρ1 : Env} {xs : List D} {r : R Env Flow} (hi : it.ev ρ = .ok xs ρ1) (hl : loopS g.put b.sv xs ρ1 = r) : (sFor it g b).sv ρ = r := by
  show (it.ev ρ).bind _ = r
  rw [hi]
  exact hl
theorem seq_nx {a b : SS K κ} {ρ ρ' : Env} {r : R Env Flow} (h : a.sv ρ = .ok .nx ρ') (k : b.sv ρ' = r) : (sSeq a b).sv ρ = r := by
  show (a.sv ρ).flow b.sv = r
  rw [h]
  exact k
theorem seq_rt {a b : SS K κ} {ρ ρ' : Env} {w : W} (h : a.sv ρ = .ok (.rt w) ρ') : (sSeq a b).sv ρ = .ok (.rt w) ρ' := by
  show (a.sv ρ).flow b.sv = _
  rw [h]
  rfl
theorem at_in {xs : List D} {j : Int} (h : 0 ≤ j) (h' : j < xs.length) : ∃ z, L2.atI xs j = some z ∧ z ∈ xs := by
  have l : j.toNat < xs.length := by omega
  refine ⟨xs[j.toNat], ?_, List.getElem_mem l⟩
  unfold L2.atI L2.ixN
  rw [if_pos h, if_pos h']
  exact List.getElem?_eq_getElem l
theorem call2_of {f : Fn} {a b : SE K κ} {ρ ρ1 ρ2 : Env} {x y z : D} (ha : a.ev ρ = .ok (.d x) ρ1) (hb : b.ev ρ1 = .ok (.d y) ρ2) (hf : f [.d x, .d y] = .ok (.d z) [.d x, .d y]) : (eCall 2 f (aCons a (aCons b aNil))).ev ρ = .ok (.d z) ρ2 := by
  simp? [ha, hb, hf]
theorem asg_of {i : Nat} {e : SE K κ} {ρ ρ1 : Env} {w : W} (h : e.ev ρ = .ok w ρ1) (hi : i < ρ1.length) : (sAsg i e).sv ρ = .ok .nx (ρ1.set i (some w)) := by
  show (e.ev ρ).bind _ = _
  rw [h]
  exact if_pos hi
theorem divW12 {d n : Int} (h : 0 < n) (h' : n < 10 ^ 12) : CDivW d n := ⟨h, by
  have : n.natAbs.log2 < 40 := (Nat.log2_lt (by omega)).mpr (Nat.lt_trans (by omega : n.natAbs < 10 ^ 12) (by decide))
  omega⟩
theorem gEq_int (i j : Int) : gEq (.int i) (.int j) = some (.bl (i == j)) := by kernel_rfl
theorem loopC_map {α : Type} {vs : List Nat} {put : D → Env → Option Env} {t : Env → R Env Bool} {e : Env → R Env W} {ρ0 : Env} (f : α → D) (h : α → Option D) : ∀ (qs : List α) (acc : List D),
    (∀ a ∈ qs, ∃ ρ1 ρ2, put (f a) ρ0 = some ρ1 ∧ match h a with
      | some y => ∃ ρ3, t ρ1 = .ok true ρ2 ∧ e ρ2 = .ok (.d y) ρ3 ∧ wipeE ρ3 vs = ρ0
      | none => t ρ1 = .ok false ρ2 ∧ wipeE ρ2 vs = ρ0) → acc.length + qs.length ≤ 1000 → loopC vs put t e (qs.map f) ρ0 acc = .ok (acc ++ qs.filterMap h) ρ0 := by
  intro qs
  induction qs with
  | nil => intro acc _ _; simp [loopC]
  | cons q qs ih =>
    intro acc hq hl
    simp only [List.length_cons] at hl
    obtain ⟨ρ1, ρ2, hp, hm⟩ := hq q (by simp)
    rw [List.map_cons]
    cases hh : h q with
    | none =>
      rw [hh] at hm
      rw [loopC_f hp hm.1, hm.2, ih acc (fun a z => hq a (by simp [z])) (by omega), List.filterMap_cons, hh]
    | some y =>
      rw [hh] at hm
      obtain ⟨ρ3, h1, h2, h3⟩ := hm
      rw [loopC_t hp h1 h2 (by omega), h3, ih (acc ++ [y]) (fun a z => hq a (by simp [z])) (by simp; omega), List.filterMap_cons, hh]
      simp
theorem lc_of {it : SI K κ} {g : SG K κ} {t : ST K κ} {e : SE K κ} {vs : List Nat} {hv : ∀ i ∈ g.asg, i ∈ vs} {ρ ρi ρ0 ρ' : Env} {xs ys : List D} (hi : it.ev ρ = .ok xs ρi) (hw : wipeE ρi vs = ρ0) (hl : loopC vs g.put t.ev e.ev xs ρ0 [] = .ok ys ρ0) (hu : unwE ρ0 vs = ρ') :
    (eLc it g t e vs hv).ev ρ = .ok (.d (.lst ys)) ρ' := by
  show ((it.ev ρ).bind fun xs ρ => (loopC vs g.put t.ev e.ev xs (wipeE ρ vs) []).bind fun ys ρ => .ok ys (unwE ρ vs)).bind _ = _
  rw [hi]
  show ((loopC vs g.put t.ev e.ev xs (wipeE ρi vs) []).bind fun ys ρ => .ok ys (unwE ρ vs)).bind _ = _
  rw [hw, hl]
  show R.ok (W.d (.lst ys)) (unwE ρ0 vs) = _
  rw [hu]
theorem numsOf_map : ∀ is : List Int, numsOf (is.map .int) = some is
  | [] => rfl
  | i :: is => by
    show numsOf (.int i :: is.map .int) = _
    unfold numsOf
    rw [numsOf_map is]
theorem gSum_map (is : List Int) : gSum [.lst (is.map .int)] = some (.int is.sum) := by
  show (match numsOf (is.map .int) with | some is => some (D.int is.sum) | none => none) = _
  rw [numsOf_map is]
end
end Pv
set_option maxRecDepth 100000
set_option maxHeartbeats 4000000
namespace Pv
open PySem PySem.Spec PyProof.Rows L2
end Pv
set_option maxRecDepth 100000
set_option maxHeartbeats 4000000
namespace Pv
open PySem PySem.Spec PyProof.Rows L2
end Pv
set_option maxRecDepth 100000
set_option maxHeartbeats 2000000
namespace Pv
open PySem PySem.Spec PyProof.Rows L2
abbrev dfK (d : Value) : List (Str × Value) := [(Str.ofString "default", d)]
section
variable {prog : Program} {w : World} {A : Around} {R : Result → Shared → Prop} {I S : Addr} {fp wr : List Addr} {n : Nat} {P : Nat → Value → Prop} {St : Nat → Heap → Prop} {d : Value} {bt : Nat → Nat → Bool}
abbrev two (v : Value) (c : Nat) : Obj := { cls := .type "list", dict := none, data := .seq #[v, v] c, slots := #[] }
theorem mxd_loop (V : Walks prog w A.in1 I fp wr n P St) (cmp : CmpOf prog w A.in1 .Gt P bt) (nf : S ∉ fp) : ∀ (k j : Nat) (s : Shared) (vb : Value) (c : Nat), n - (j + 1) = k → j + 1 ≤ n → St (j + 1) s.heap → P (argBest bt j) vb → s.heap.get? S = some (two vb c) →
    (∀ v h' tk, P (argBest bt (n - 1)) v → (∀ b o, b ∉ wr → b ≠ S → s.heap.get? b = some o → h'.get? b = some o) → R (.ok (.ret v)) { s with heap := h', toks := tk }) → codeAny (model prog w) A (.builtin "max.loop" ⟨[.ref I, .none, .ref S], dfK d⟩) R s := by
  have nw : S ∉ wr := fun z => nf (V.sub _ z)
  have nm : (toString "max" ++ toString ".loop" : String) = "max.loop" := by decide
  intro k
  induction k with
  | zero =>
    intro j s vb c hk hj st pb hS hR
    have all : j + 1 = n := by omega
    refine codeAny_builtin PySem.F.entry_max_loop ?_
    rw [Around.under_plainId PySem.F.plain_max_loop _]
    show wpAny _ A.in1 (seqItems? (.ref S) >>= _) _ _ s
    refine wpAny_bind (wpAny_seqItems hS rfl ?_)
    show wpAny _ A.in1 (tryCatch (pyNext (.ref I)) _ >>= _) _ _ s
    refine wpAny_bind (wpAny_tryCatch (V.done s _ _ (all ▸ st) fun h1 tk k1 => ?_))
    have hS1 := k1 S _ nw hS
    show wpAny _ A.in1 (updateSeq S (fun _ => #[]) >>= _) _ _ _
    refine wpAny_bind ?_
    refine wpAny_updateSeq hS1 rfl (wpAny_bind (wpAny_letGo (wpAny_pure ?_)))
    exact hR vb _ tk (by rw [← all]; exact pb) fun b o b1 b2 e => (Heap.get?_update_other _ _ (Ne.symm b2)).trans (k1 b o b1 e)
  | succ k ih =>
    intro j s vb c hk hj st pb hS hR
    have lt : j + 1 < n := by omega
    refine codeAny_builtin PySem.F.entry_max_loop ?_
    rw [Around.under_plainId PySem.F.plain_max_loop _]
    show wpAny _ A.in1 (seqItems? (.ref S) >>= _) _ _ s
    refine wpAny_bind (wpAny_seqItems hS rfl ?_)
    show wpAny _ A.in1 (tryCatch (pyNext (.ref I)) _ >>= _) _ _ s
    refine wpAny_bind (wpAny_tryCatch (V.item (j + 1) s _ _ lt st fun v h1 tk pv st1 k1 => ?_))
    have hS1 := k1 S _ nw hS
    show wpAny _ A.in1 (tryCatch (holding [v, v] (richCompare .Gt v vb >>= _)) _ >>= _) _ _ _
    refine wpAny_bind (wpAny_tryCatch (wpAny_holding (wpAny_bind (cmp (j + 1) (argBest bt j) v vb _ _ _ pv pb ?_))))
    refine wpAny_bind (wpAny_holding (wpAny_truthy_bool ?_))
    refine wpAny_bind (wpAny_letGo (wpAny_pure ?_))
    cases hb : bt (j + 1) (argBest bt j) with
    | true =>
      simp only [if_true]
      refine wpAny_bind ?_
      refine wpAny_updateSeq hS1 rfl (wpAny_bind (wpAny_letGo ?_))
      rw [nm]
      have nx := ih (j + 1) { s with heap := h1.update S (Obj.mapSeq fun _ => #[v, v]), toks := tk } v _ (by omega) lt (V.frame _ _ _ st1 fun b hb o e => (Heap.get?_update_other _ _ (fun z : S = b => nf (by rw [z]; exact hb))).trans e) (by simp only [argBest, hb, if_true]; exact pv) (Heap.get?_update_self _ hS1 rfl) fun v2 h2 tk2 p2 k2 => hR v2 h2 tk2 p2 fun b o b1 b2 e => k2 b o b1 b2 ((Heap.get?_update_other _ _ (Ne.symm b2)).trans (k1 b o b1 e))
      exact wpAny_pure ⟨plainId_quiet PySem.F.plain_max_loop _, nx⟩
    | false =>
      simp only [Bool.false_eq_true, if_false]
      refine wpAny_bind (wpAny_letGo ?_)
      rw [nm]
      have nx := ih (j + 1) { s with heap := h1, toks := tk } vb c (by omega) lt st1 (by simp only [argBest, hb, Bool.false_eq_true, if_false]; exact pb) hS1 fun v2 h2 tk2 p2 k2 => hR v2 h2 tk2 p2 fun b o b1 b2 e => k2 b o b1 b2 (k1 b o b1 e)
      exact wpAny_pure ⟨plainId_quiet PySem.F.plain_max_loop _, nx⟩
abbrev nil0 (c : Nat) : Obj := { cls := .type "list", dict := none, data := .seq #[] c, slots := #[] }
theorem mxd_first (V : Walks prog w A.in1 I fp wr n P St) (cmp : CmpOf prog w A.in1 .Gt P bt) (nf : S ∉ fp) {s : Shared} {c : Nat} (st : St 0 s.heap) (hS : s.heap.get? S = some (nil0 c))
    (hN : n = 0 → ∀ h' tk, (∀ b o, b ∉ wr → b ≠ S → s.heap.get? b = some o → h'.get? b = some o) → R (.ok (.ret d)) { s with heap := h', toks := tk })
    (hR : 0 < n → ∀ v h' tk, P (argBest bt (n - 1)) v → (∀ b o, b ∉ wr → b ≠ S → s.heap.get? b = some o → h'.get? b = some o) → R (.ok (.ret v)) { s with heap := h', toks := tk }) : codeAny (model prog w) A (.builtin "max.loop" ⟨[.ref I, .none, .ref S], dfK d⟩) R s := by
  have nw : S ∉ wr := fun z => nf (V.sub _ z)
  have nm : (toString "max" ++ toString ".loop" : String) = "max.loop" := by decide
  refine codeAny_builtin PySem.F.entry_max_loop ?_
  rw [Around.under_plainId PySem.F.plain_max_loop _]
  show wpAny _ A.in1 (seqItems? (.ref S) >>= _) _ _ s
  refine wpAny_bind (wpAny_seqItems hS rfl ?_)
  show wpAny _ A.in1 (tryCatch (pyNext (.ref I)) _ >>= _) _ _ s
  rcases Nat.eq_zero_or_pos n with z | pos
  · subst z
    refine wpAny_bind (wpAny_tryCatch (V.done s _ _ st fun h1 tk k1 => ?_))
    refine wpAny_bind (wpAny_rule (wpAny_pure ?_))
    exact hN rfl h1 tk fun b o b1 b2 e => k1 b o b1 e
  · refine wpAny_bind (wpAny_tryCatch (V.item 0 s _ _ pos st fun v h1 tk pv st1 k1 => ?_))
    have hS1 := k1 S _ nw hS
    show wpAny _ A.in1 (updateSeq S (fun _ => #[v, v]) >>= _) _ _ _
    refine wpAny_bind ?_
    refine wpAny_updateSeq hS1 rfl ?_
    rw [nm]
    have nx := mxd_loop (d := d) (R := R) V cmp nf _ 0 { s with heap := h1.update S (Obj.mapSeq fun _ => #[v, v]), toks := tk } v _ rfl pos (V.frame _ _ _ st1 fun b hb o e => (Heap.get?_update_other _ _ (fun z : S = b => nf (by rw [z]; exact hb))).trans e) pv (Heap.get?_update_self _ hS1 rfl) fun v2 h2 tk2 p2 k2 => hR pos v2 h2 tk2 p2 fun b o b1 b2 e => k2 b o b1 b2 ((Heap.get?_update_other _ _ (Ne.symm b2)).trans (k1 b o b1 e))
    exact wpAny_pure ⟨plainId_quiet PySem.F.plain_max_loop _, nx⟩
end
section
variable {prog : Program} {w : World} {A : Around} {E : Value → Shared → Prop} {s : Shared} {l : Addr} {xs : Array (Int × Tok)} {d : Value}
theorem mxd_args (a d : Value) : argsOk "max" ⟨[a], dfK d⟩ := by unfold argsOk; kernel_rfl
theorem mxd_call {Q : Value → Shared → Prop} (hh : A.handled = none) (hl : s.heap.IsList l (intItems xs))
    (hN : xs.size = 0 → ∀ h' tk, (∀ b o, s.heap.get? b = some o → h'.get? b = some o) → Q d { s with heap := h', toks := tk })
    (hR : 0 < xs.size → ∀ v h' tk, (intItems xs)[argBest (fun i j => decide (numAt xs i > numAt xs j)) (xs.size - 1)]? = some v → (∀ b o, s.heap.get? b = some o → h'.get? b = some o) → Q v { s with heap := h', toks := tk }) :
    wpAny (model prog w) A (call (.builtin "max") [.ref l] (dfK d)) Q E s := by
  have nm : (toString "max" ++ toString ".loop" : String) = "max.loop" := by decide
  refine kmk_tree PySem.F.kind_max PySem.F.plain_max PySem.F.entry_max (mxd_args _ _) ?_
  show wpAny _ A.in1 (Builtin.Builtins.bindParams "max" ["key", "default"] 0 ⟨[], dfK d⟩ >>= _) _ _ s
  refine wpAny_bind (wpAny_of_eq (show Builtin.Builtins.bindParams "max" ["key", "default"] 0 ⟨[], dfK d⟩ = pure [none, some d] from rfl) ?_)
  refine wpAny_bind (wpAny_pure ?_)
  refine wpAny_bind (iter_intList hl fun s2 e st hfp hlI => ?_)
  subst e
  refine wpAny_bind (wpAny_newObj_type ?_)
  rw [nm]
  have W := Walks.list (prog := prog) (w := w) (A := A.in1) hh s.heap.objs.size l hlI (intItems xs)
  have sz : (intItems xs).size = xs.size := by simp [intItems]
  have nf := fun (z : (s.heap.push { cls := .type "list_iterator", data := .fields #[.ref l, .int 0 0] }).objs.size ∈ [s.heap.objs.size, l]) => Nat.lt_irrefl _ (hfp _ z)
  have old : ∀ h' : Heap, (∀ b o, b ∉ [s.heap.objs.size] → b ≠ (s.heap.push { cls := .type "list_iterator", data := .fields #[.ref l, .int 0 0] }).objs.size → ((s.heap.push { cls := .type "list_iterator", data := .fields #[.ref l, .int 0 0] }).push (nil0 0)).get? b = some o → h'.get? b = some o) → ∀ b o, s.heap.get? b = some o → h'.get? b = some o := fun h' k b o e =>
    have e1 := Heap.get?_push_of_some (o := { cls := .type "list_iterator", data := .fields #[.ref l, .int 0 0] }) e
    k b o (fun z => by
      rw [List.mem_singleton] at z
      exact absurd (z ▸ Heap.lt_size e) (Nat.lt_irrefl _)) (Nat.ne_of_lt (Heap.lt_size e1)) (Heap.get?_push_of_some _ e1)
  refine wpAny_pure ⟨plainId_quiet PySem.F.plain_max_loop _, mxd_first (d := d) W (CmpOf.ints_gt (numAt xs) (fun _ _ => intItems_at)) nf (W.frame _ _ _ st fun b _ o e => Heap.get?_push_of_some _ e) (Heap.get?_push_size _ rfl) (fun z h' tk k => ?_) fun z v h' tk hP k => ?_⟩
  · exact hN (by omega) h' tk (old h' k)
  · exact hR (by omega) v h' tk (by rw [← sz]; exact hP) (old h' k)
end
/-- the greatest, the least of some -/
def topI : Int → List Int → Int
  | m, [] => m
  | m, n :: ns => topI (if m < n then n else m) ns
def lowI : Int → List Int → Int
  | m, [] => m
  | m, n :: ns => lowI (if n < m then n else m) ns
theorem topI_spec : ∀ (ns : List Int) (m : Int), (topI m ns = m ∨ topI m ns ∈ ns) ∧ m ≤ topI m ns ∧ ∀ y ∈ ns, y ≤ topI m ns
  | [], m => ⟨.inl rfl, Int.le_refl m, fun y hy => nomatch hy⟩
  | n :: ns, m => by
    obtain ⟨h1, h2, h3⟩ := topI_spec ns (if m < n then n else m)
    have e : topI m (n :: ns) = topI (if m < n then n else m) ns := rfl
    rw [e]
    refine ⟨?_, ?_, fun y hy => ?_⟩
    · rcases h1 with h | h
      · rw [h]
        split
        · exact .inr (by simp)
        · exact .inl rfl
      · exact .inr (by simp [h])
    · have q : m ≤ (if m < n then n else m) := by split <;> omega
      omega
    · rcases List.mem_cons.mp hy with rfl | hy
      · have q : y ≤ (if m < y then y else m) := by split <;> omega
        omega
      · exact h3 y hy
theorem lowI_spec : ∀ (ns : List Int) (m : Int), (lowI m ns = m ∨ lowI m ns ∈ ns) ∧ lowI m ns ≤ m ∧ ∀ y ∈ ns, lowI m ns ≤ y
  | [], m => ⟨.inl rfl, Int.le_refl m, fun y hy => nomatch hy⟩
  | n :: ns, m => by
    obtain ⟨h1, h2, h3⟩ := lowI_spec ns (if n < m then n else m)
    have e : lowI m (n :: ns) = lowI (if n < m then n else m) ns := rfl
    rw [e]
    refine ⟨?_, ?_, fun y hy => ?_⟩
    · rcases h1 with h | h
      · rw [h]
        split
        · exact .inr (by simp)
        · exact .inl rfl
      · exact .inr (by simp [h])
    · have q : (if n < m then n else m) ≤ m := by split <;> omega
      omega
    · rcases List.mem_cons.mp hy with rfl | hy
      · have q : (if y < m then y else m) ≤ y := by split <;> omega
        omega
      · exact h3 y hy
def topD (ns : List Int) (d : D) : D := match ns with
  | [] => d
  | n :: ns => .int (topI n ns)
def lowD (ns : List Int) (d : D) : D := match ns with
  | [] => d
  | n :: ns => .int (lowI n ns)
def rTopK (K : PySem.W.Frag) (up : Bool) : List V → List V → Hp → VK → Prop := fun vs zs H Q => ∃ (a : Addr) (ns : List Int) (d : V), vs = [V.ref a] ∧ zs = [d] ∧ SqL K H a (ns.map V.int) ∧ (ns = [] → Q d H) ∧
  ∀ m, m ∈ ns → (∀ y, y ∈ ns → if up then y ≤ m else m ≤ y) → Q (.int m) H
theorem cr_topK {X : Cx} (hc : X.calm = true) : CallRK X (.builtin "max") [Str.ofString "default"] (rTopK X.K true) := by
  intro pins s σ H vs zs us ws Q I r rz h
  obtain ⟨a, ns, d, rfl, rfl, hs, q0, q⟩ := h
  obtain ⟨its, rv, hl, _⟩ := I.list hs
  obtain rfl := Vals.ref1 r
  obtain ⟨w1, rfl, e1⟩ := vals1 rz
  have hi := rv.ints
  obtain ⟨xs, e⟩ := hi.allInts.items
  have hn : PySem.numsOf (intItems xs).toList = ns := by rw [← e]; exact hi.numsOf
  rw [nums_intItems] at hn
  subst hn
  have hl := hl.isList
  rw [e] at hl
  refine mxd_call (I.ok.hd hc) hl (fun z h' tk hk => ?_) fun hsz v h' tk hv hk => ?_
  · exact ⟨d, H, I.kept hk, e1, q0 (by rw [List.map_eq_nil_iff]; exact List.eq_nil_of_length_eq_zero (by rw [Array.length_toList]; exact z))⟩
  · obtain ⟨t, rfl⟩ := intItems_at hv
    obtain ⟨h1, h2⟩ := argBest_gt (numAt xs) (xs.size - 1)
    refine ⟨.int _, H, I.kept hk, ⟨_, rfl⟩, q _ ?_ fun y hy => ?_⟩
    · rw [numAt_eq]; exact PySem.getD_mem (by rw [List.length_map, Array.length_toList]; omega)
    · obtain ⟨j, hj, rfl⟩ := mem_getD hy
      rw [List.length_map, Array.length_toList] at hj
      rw [← numAt_eq]; exact h2 j (by omega)
section
variable {K : PySem.W.Frag} {κ : Cls}
/-- the greatest (least) of a list of ints, y where it is empty -/
def eTopDf (a b : SE K κ) : SE K κ where
  te := fun Wx => tCKw (rTopK K true) (tCons (a.te Wx) tNil) (tCons (b.te Wx) tNil)
  ev := fun ρ => (a.ev ρ).bindD fun x ρ => (b.ev ρ).bindD fun y ρ => match x with
    | .lst xs => match numsOf xs with
      | some ns => .ok (.d (topD ns y)) ρ
      | none => .bad
    | _ => .bad
  ok := fun Wx G H ρ σ L Q hG hE hN p => a.ok.then hG hE hN p fun x vx ρ1 G1 H1 L1 u1 e1 n1 r1 p => b.ok.then u1.gh e1 n1 p fun y vy ρ2 G2 H2 L2 u2 e2 n2 r2 p => by
    have r1 := r1.mono u2.g
    cases r1 with
    | @lst a1 us xs hs ra =>
      dsimp only at p
      cases hn : numsOf xs with
      | none => rw [hn] at p; exact p.elim
      | some ns =>
        rw [hn] at p
        have ev := numsOf_ok ra hn
        subst ev
        refine ⟨a1, ns, vy, rfl, rfl, ex_l u2.gh hs, fun z => ?_, fun m hm hy => ?_⟩
        · subst z
          exact p.ret (.refl u2.gh) e2 n2 r2
        · cases ns with
          | nil => cases hm
          | cons n ns =>
            obtain ⟨s1, s2, s3⟩ := topI_spec ns n
            have e : m = topI n ns := by
              have a1 : topI n ns ≤ m := by
                rcases s1 with z | z
                · rw [z]; exact hy n (by simp)
                · exact hy _ (by simp [z])
              have a2 : m ≤ topI n ns := by
                rcases List.mem_cons.mp hm with rfl | z
                · exact s2
                · exact s3 m z
              omega
            subst e
            exact p.ret (.refl u2.gh) e2 n2 (.int _)
    | _ => exact p.elim
def eLowDf (a b : SE K κ) : SE K κ where
  te := fun Wx => tCKw (rTopK K false) (tCons (a.te Wx) tNil) (tCons (b.te Wx) tNil)
  ev := fun ρ => (a.ev ρ).bindD fun x ρ => (b.ev ρ).bindD fun y ρ => match x with
    | .lst xs => match numsOf xs with
      | some ns => .ok (.d (lowD ns y)) ρ
      | none => .bad
    | _ => .bad
  ok := fun Wx G H ρ σ L Q hG hE hN p => a.ok.then hG hE hN p fun x vx ρ1 G1 H1 L1 u1 e1 n1 r1 p => b.ok.then u1.gh e1 n1 p fun y vy ρ2 G2 H2 L2 u2 e2 n2 r2 p => by
    have r1 := r1.mono u2.g
    cases r1 with
    | @lst a1 us xs hs ra =>
      dsimp only at p
      cases hn : numsOf xs with
      | none => rw [hn] at p; exact p.elim
      | some ns =>
        rw [hn] at p
        have ev := numsOf_ok ra hn
        subst ev
        refine ⟨a1, ns, vy, rfl, rfl, ex_l u2.gh hs, fun z => ?_, fun m hm hy => ?_⟩
        · subst z
          exact p.ret (.refl u2.gh) e2 n2 r2
        · cases ns with
          | nil => cases hm
          | cons n ns =>
            obtain ⟨s1, s2, s3⟩ := lowI_spec ns n
            have e : m = lowI n ns := by
              have a1 : m ≤ lowI n ns := by
                rcases s1 with z | z
                · rw [z]; exact hy n (by simp)
                · exact hy _ (by simp [z])
              have a2 : lowI n ns ≤ m := by
                rcases List.mem_cons.mp hm with rfl | z
                · exact s2
                · exact s3 m z
              omega
            subst e
            exact p.ret (.refl u2.gh) e2 n2 (.int _)
    | _ => exact p.elim
end
end Pv
set_option maxRecDepth 100000
set_option maxHeartbeats 1000000
namespace Pv
open PySem PySem.Spec PyProof.Rows L2
def rCatL (K : PySem.W.Frag) : R2 := fun x y H Q => ∃ l b xs zs, x = .ref l ∧ y = .ref b ∧ SqL K H l xs ∧ SqL K H b zs ∧ xs.length + zs.length ≤ sizeLine ∧ ∀ p, H p = none → Q (.ref p) (upd H p (.lst (xs ++ zs)))
theorem op_catL {X : Cx} : OpR X (binaryOp .Add) (rCatL X.K) := by
  intro pins s σ H x y v u Q I rx ry h
  obtain ⟨l, b, xs, zs, rfl, rfl, hH, hB, hz, q⟩ := h
  cases rx
  cases ry
  obtain ⟨its, r, ⟨o1, n1, e1, c1, d1, s1⟩, _⟩ := I.list hH
  obtain ⟨its2, r2, ⟨o2, n2, e2, c2, d2, s2⟩, _⟩ := I.list hB
  have l1 := r.length
  have l2 := r2.length
  obtain ⟨oc, od, ot, os⟩ := o1
  obtain ⟨oc2, od2, ot2, os2⟩ := o2
  dsimp only at c1 d1 s1 c2 d2 s2
  subst c1 d1 s1 c2 d2 s2
  have both : its.toArray ++ its2.toArray = (its ++ its2).toArray := by simp
  refine concat_meets ⟨_, e1, rfl⟩ ⟨_, e2, rfl⟩ noFill_list_add seq_list_add F.slot_list_add F.entry_list_add (F.args_list_add_2 _ _)
    (list_addW l b its.toArray its2.toArray n1 n2 none none os os2 (by rw [List.size_toArray, List.size_toArray]; omega)) ⟨e1, e2, ?_⟩
  rw [both]
  exact ⟨.ref _, _, I.lnew (t' := s.toks) (r.append r2) (by rw [List.length_append]; omega), rfl, q _ I.fresh⟩
section
variable {K : PySem.W.Frag} {κ : Cls}
theorem opCatL : OpS K κ (rCatL K) gCatL := fun G H vx vy x y z Q hG rx ry e k => by
  cases rx with
  | @lst a1 us1 xs hs ra =>
    cases ry with
    | @lst a2 us2 ys ht rb =>
      have e : (if xs.length + ys.length ≤ 1000000 then some (D.lst (xs ++ ys)) else none) = some z := e
      by_cases hz : xs.length + ys.length ≤ 1000000
      · rw [if_pos hz] at e
        cases e
        have la := ra.length
        have lb := rb.length
        exact ⟨_, _, _, _, rfl, rfl, ex_l hG hs, ex_l hG ht, Nat.le_trans (by omega : _ ≤ 1000000) (by decide), fun p hp => k _ _ _ (.new hG hp) (.lst (SqL.of upd_same) ((ra.append rb).mono (Evl.Ex.new (fresh hG hp))))⟩
      · rw [if_neg hz] at e
        cases e
    | _ => cases e
  | _ => cases ry <;> cases e
/-- list + list, as data -/
def eCatL := eOp (K := K) (κ := κ) _ _ opCatL
/-- a list's slice, as data -/
def eSlL (a : SE K κ) (lo hi : SO K κ) : SE K κ where
  te := fun Wx => tSl (rSlL K) (a.te Wx) (lo.to Wx) (hi.to Wx)
  ev := fun ρ => (a.ev ρ).bindD fun x ρ => (lo.ev ρ).bind fun i ρ => (hi.ev ρ).bind fun j ρ => match x with
    | .lst xs => .ok (.d (.lst (cutD xs i j))) ρ
    | _ => .bad
  ok := fun Wx G H ρ σ L Q hG hE hN p => a.ok.then hG hE hN p fun x vx ρ1 G1 H1 L1 u1 e1 n1 r1 p => lo.then u1.gh e1 n1 p fun i ρ2 G2 H2 L2 u2 e2 n2 p => hi.then u2.gh e2 n2 p fun j ρ3 G3 H3 L3 u3 e3 n3 p => by
    have r3 := r1.mono (u2.g.trans u3.g)
    cases r3 with
    | @lst b us xs hs ra => exact ⟨b, us, rfl, ex_l u3.gh hs, fun q hq => p.ret (.new u3.gh hq) (e3.new u3.gh hq) n3 (.lst (SqL.of upd_same) ((cut_ok ra i j).mono (Evl.Ex.new (fresh u3.gh hq))))⟩
    | _ => exact p.elim
theorem yl_zl {G : Hp} {a b : Addr} {us ws : List V} {xs ys : List D} {n : Nat} (ha : SqL K G a us) (hb : SqL K G b ws) (rx : RpAll K κ G us xs) (ry : RpAll K κ G ws ys) (l1 : us.length = n) (l2 : ws.length = n) : Yl K κ (Itz K a b) G ((xs.zip ys).map pairD) := fun G' H' i g gh => by
  have e1 := rx.length
  have e2 := ry.length
  have sa : SqL K H' a us := ex_l (g.trans gh) ha
  have sb : SqL K H' b ws := ex_l (g.trans gh) hb
  refine ⟨fun x e => ?_, fun le => ⟨us, ws, sa, sb, ?_⟩⟩
  · have lt : i < ((xs.zip ys).map pairD).length := (List.getElem?_eq_some_iff.mp e).1
    rw [List.length_map, List.length_zip] at lt
    obtain ⟨u, hu⟩ : ∃ u, us[i]? = some u := ⟨_, List.getElem?_eq_getElem (by omega)⟩
    obtain ⟨w, hw⟩ : ∃ w, ws[i]? = some w := ⟨_, List.getElem?_eq_getElem (by omega)⟩
    obtain ⟨x1, hx1, _⟩ := rx.get' hu
    obtain ⟨y1, hy1, _⟩ := ry.get' hw
    have ex : x = .tupW [x1, y1] := by
      have ez : (xs.zip ys)[i]? = some (x1, y1) := List.getElem?_zip_eq_some.mpr ⟨hx1, hy1⟩
      rw [List.getElem?_map, ez] at e
      exact (Option.some.inj e).symm
    subst ex
    refine ⟨⟨us, ws, u, w, sa, sb, hu, hw⟩, fun v H'' y => ?_⟩
    obtain ⟨T, x', y', rfl, hT, rfl, f1, f2⟩ := y
    have q1 := f1 us sa
    have q2 := f2 ws sb
    rw [hu] at q1
    rw [hw] at q2
    cases q1
    cases q2
    have gx : Ex G (upd G' T (.tup [u, w])) := g.trans (Evl.Ex.new (fresh gh hT))
    exact ⟨_, .new gh hT, .tupW (.inl (.inl upd_same)) (.cons ((rx.at hu hx1).mono gx) (.cons ((ry.at hw hy1).mono gx) .nil))⟩
  · rw [List.length_map, List.length_zip] at le
    omega
def iZipL (a b : SE K κ) : SI K κ where
  ti := fun Wx => RZ.iZipA K (tCons (a.te Wx) (tCons (b.te Wx) tNil))
  ev := fun ρ => (a.ev ρ).bindD fun x ρ => (b.ev ρ).bindD fun y ρ => match x, y with
    | .lst xs, .lst ys => if xs.length = ys.length then .ok ((xs.zip ys).map pairD) ρ else .bad
    | _, _ => .bad
  ok := fun Wx G H ρ σ L Q hG hE hN p => a.ok.then hG hE hN p fun x vx ρ1 G1 H1 L1 u1 e1 n1 r1 p => b.ok.then u1.gh e1 n1 p fun y vy ρ2 G2 H2 L2 u2 e2 n2 r2 p => by
    cases r1 with
    | lst hs ra =>
      cases r2 with
      | lst ht rb =>
        dsimp only at p
        split at p
        · rename_i hl
          have la := ra.length
          have lb := rb.length
          exact ⟨_, _, _, _, rfl, .inl ⟨ex_l (u2.g.trans u2.gh) hs, ex_l u2.gh ht, p _ G2 H2 [] L2 (.refl u2.gh) e2 ⟨rfl, yl_zl (ex_l u2.g hs) ht (ra.mono u2.g) rb rfl (by omega)⟩ n2⟩⟩
        · exact p.elim
      | _ => exact p.elim
    | _ => cases r2 <;> exact p.elim
/-- [..] * n, as data -/
def eRepL (a k : SE K κ) : SE K κ where
  te := fun Wx => tOp rRep (a.te Wx) (k.te Wx)
  ev := fun ρ => match a.ev ρ with
    | .ok (.ml xs) ρ => (k.ev ρ).bindD fun y ρ => match y with
      | .int n => if 0 ≤ n ∧ n ≤ 1000 ∧ xs.length ≤ 1000 then .ok (.d (.lst (List.replicate n.toNat xs).flatten)) ρ else .bad
      | _ => .bad
    | _ => .bad
  ok := fun Wx G H ρ σ L Q hG hE hN p => by
    refine a.ok Wx G H ρ σ L _ hG hE hN ?_
    dsimp only at p
    cases h : a.ev ρ with
    | exc c f ρ1 => rw [h] at p; exact p.elim
    | bad => rw [h] at p; exact p.elim
    | ok w ρ1 =>
      rw [h] at p
      cases w with
      | d x => exact p.elim
      | md x => exact p.elim
      | mm z => exact p.elim
      | ml xs =>
        dsimp only at p
        intro v G1 H1 Lw L1 u1 e1 r1 n1
        obtain ⟨c, vs, rfl, rfl, g1, h1, q1⟩ := r1
        have nda := List.nodup_append.mp n1
        have ncL : c ∉ L1 := fun z => nda.2.2 c (by simp) c z rfl
        have u1' : Stp G H L G1 H1 L1 := u1.sub fun b z => List.mem_append_right _ z
        refine k.ok.then (Wx := Wx) u1.gh e1 nda.2.1 (p.trans u1') fun y vy ρ2 G2 H2 L2 u2 e2 n2 r2 p => ?_
        have c2 : H2 c = some (.lst vs) := u2.h c _ h1 ncL ntL
        have q2 := q1.mono u2.g
        cases r2 with
        | int n =>
          dsimp only at p
          split at p
          · rename_i hz
            obtain ⟨z1, z2, z3⟩ := hz
            have hl := q2.length
            refine ⟨c, n, vs, rfl, rfl, c2, by omega, by omega, ?_, fun q hq => ?_⟩
            · rw [hl]
              have : xs.length * n.toNat ≤ 1000 * 1000 := Nat.mul_le_mul z3 (by omega)
              exact Nat.le_trans this (by decide)
            · have rep : ∀ m : Nat, RpAll K κ G2 (List.replicate m vs).flatten (List.replicate m xs).flatten := by
                intro m
                induction m with
                | zero => exact .nil
                | succ m ih =>
                  rw [List.replicate_succ, List.replicate_succ, List.flatten_cons, List.flatten_cons]
                  exact q2.append ih
              exact p.ret (.new u2.gh hq) (e2.new u2.gh hq) n2 (.lst (SqL.of upd_same) ((rep _).mono (Evl.Ex.new (fresh u2.gh hq))))
          · exact p.elim
        | _ => exact p.elim
end
end Pv
set_option maxRecDepth 100000
set_option maxHeartbeats 2000000
namespace Pv
open PySem PySem.Spec PyProof.Rows L2
/-- owned lists as data, other owned things unknown -/
def peekW : Option W → Option W
  | some (.d x) => some (.d x)
  | some (.ml xs) => some (.d (.lst xs))
  | _ => none
def peekE (ρ : Env) : Env := ρ.map peekW
def D.f0 : D → Bool
  | .non => true
  | .bl _ => true
  | .int _ => true
  | .str _ => true
  | _ => false
section
variable {K : PySem.W.Frag} {κ : Cls}
theorem Rp.f0 {G G' : Hp} {v : V} {x : D} (r : Rp K κ G v x) (h : D.f0 x = true) : Rp K κ G' v x := by
  cases r with
  | non => exact .non
  | bl b => exact .bl b
  | int i => exact .int i
  | str s => exact .str s
  | _ => cases h
theorem EnvR.peek {G G' H : Hp} (e : Ex G G') : ∀ {ρ : Env} {σ : St} {L : List Addr}, EnvR K κ G H ρ σ L → (∀ a ∈ L, ∀ o, H a = some o → G' a = some o) → (Tb κ G H → Tb κ G' H) → EnvR K κ G' H (peekE ρ) σ []
  | [], [], L, r, _, tt => ⟨rfl, tt r.2⟩
  | none :: ρ, _ :: σ, L, r, k, tt => EnvR.peek (ρ := ρ) (σ := σ) e r k tt
  | some w :: ρ, some v :: σ, L, ⟨L1, L2, e1, r, q⟩, k, tt => by
    subst e1
    have t := EnvR.peek e q (fun a z => k a (List.mem_append_right _ z)) tt
    cases w with
    | d x =>
      obtain ⟨rfl, r⟩ := r
      exact ⟨[], [], rfl, ⟨rfl, r.mono e⟩, t⟩
    | ml xs =>
      obtain ⟨a, vs, rfl, rfl, g, h, ra⟩ := r
      exact ⟨[], [], rfl, ⟨rfl, .lst (SqL.of (k a (by simp) _ h)) (ra.mono e)⟩, t⟩
    | md kvs => exact t
    | mm zs => exact t
/-- all that is owned, known -/
def allG (G H : Hp) (L : List Addr) : Hp := fun a => if a ∈ L then H a else G a
theorem Tb.all {G H : Hp} {L : List Addr} (t : Tb κ G H) (n : ∀ a ∈ L, ∀ o, H a = some o → NoTab o) : Tb κ (allG G H L) H := fun P hP => by
  obtain ⟨⟨ps, q, r⟩, g⟩ := t P hP
  have z : P ∉ L := fun z => n P z _ q ps rfl
  exact ⟨⟨ps, q, r⟩, by unfold allG; rw [if_neg z]; exact g⟩
theorem allG_ex {G H : Hp} {L : List Addr} (h : ∀ a ∈ L, H a ≠ none ∧ G a = none) : Ex G (allG G H L) := fun a o e => by
  unfold allG
  split
  · rename_i z
    rw [(h a z).2] at e
    cases e
  · exact e
theorem allG_le {G H : Hp} {L : List Addr} (h : Ex G H) : Ex (allG G H L) H := fun a o e => by
  unfold allG at e
  split at e
  · exact e
  · exact h _ _ e
theorem allG_in {G H : Hp} {L : List Addr} : ∀ a ∈ L, ∀ o, H a = some o → allG G H L a = some o := fun a z o e => by
  unfold allG
  rw [if_pos z]
  exact e
theorem peek_stp {G H Ĝ G' H' : Hp} {L L' : List Addr} (hG : Ex G Ĝ) (s : Stp Ĝ H [] G' H' L') : Stp G H L G H' L :=
  ⟨Evl.Ex.refl G, fun a o e _ nt => s.h a o e (by simp) nt, s.t, fun _ _ _ q => q, fun a z => .inl z, fun a o e => s.gh a o (s.g a o (hG a o e)), s.tb⟩
theorem peek_env {G H Ĝ G' H' : Hp} {L L' : List Addr} {ρ : Env} {σ : St} (hE : EnvR K κ G H ρ σ L) (s : Stp Ĝ H [] G' H' L') : EnvR K κ G H' ρ σ L :=
  hE.keep (Evl.Ex.refl G) (fun a z => (hE.there a z).2) (fun a z o e => s.h a o e (by simp) (hE.ntb a z o e)) fun t P hP => ⟨s.tb P (t P hP).1, (t P hP).2⟩
def ePk (e : SE K κ) : SE K κ where
  te := e.te
  ev := fun ρ => match e.ev (peekE ρ) with
    | .ok (.d x) _ => if D.f0 x = true then .ok (.d x) ρ else .bad
    | _ => .bad
  ok := fun Wx G H ρ σ L Q hG hE hN p => by
    refine e.ok Wx (allG G H L) H (peekE ρ) σ [] Q (allG_le hG) (hE.peek (allG_ex hE.there) allG_in fun t => t.all hE.ntb) List.nodup_nil ?_
    dsimp only at p
    cases h : e.ev (peekE ρ) with
    | bad => rw [h] at p; exact p.elim
    | exc c f ρ1 => rw [h] at p; exact p.elim
    | ok w ρ1 =>
      rw [h] at p
      cases w with
      | d x =>
        dsimp only at p
        split at p
        · rename_i hx
          intro v G1 H1 Lw L1 s _ r _
          obtain ⟨rfl, r⟩ := r
          exact p v G H1 [] L (peek_stp (allG_ex hE.there) s) (peek_env hE s) ⟨rfl, r.f0 hx⟩ hN
        · exact p.elim
      | _ => exact p.elim
def tPk (t : ST K κ) : ST K κ where
  tt := t.tt
  ev := fun ρ => match t.ev (peekE ρ) with
    | .ok b _ => .ok b ρ
    | _ => .bad
  ok := fun Wx G H ρ σ L Q hG hE hN p => by
    refine t.ok Wx (allG G H L) H (peekE ρ) σ [] Q (allG_le hG) (hE.peek (allG_ex hE.there) allG_in fun t => t.all hE.ntb) List.nodup_nil ?_
    dsimp only at p
    cases h : t.ev (peekE ρ) with
    | bad => rw [h] at p; exact p.elim
    | exc c f ρ1 => rw [h] at p; exact p.elim
    | ok b ρ1 =>
      rw [h] at p
      intro v G1 H1 Lw L1 s _ r _
      obtain ⟨rfl, rfl⟩ := r
      exact p b G H1 [] L (peek_stp (allG_ex hE.there) s) (peek_env hE s) ⟨rfl, rfl⟩ hN
def sSetX (i : Nat) (k e : SE K κ) : SS K κ where
  ts := fun Wx => tAsg (e.te Wx) (gSub (tVar i) (k.te Wx) rSetL)
  sv := fun ρ => (e.ev ρ).bindD fun x ρ => match ρ[i]? with
    | some (some (.ml _)) => (k.ev ρ).bindD fun y ρ => match y, ρ[i]? with
      | .int j, some (some (.ml xs)) => match L2.ixN xs.length j with
        | some n => .ok .nx (ρ.set i (some (.ml (xs.set n x))))
        | none => .bad
      | _, _ => .bad
    | _ => .bad
  asg := []
  ok := fun Wx G H ρ σ L E hG hE hN p => e.ok.thenS hG hE hN p fun x vx ρ1 G1 H1 L1 u1 e1 n1 r1 p => by
    split at p
    · rename_i ys h0
      obtain ⟨a, vs, h1, _⟩ := e1.list u1.gh n1 h0
      refine ⟨_, h1, k.ok.thenS u1.gh e1 n1 p fun y vy ρ2 G2 H2 L2 u2 e2 n2 r2 p => ?_⟩
      split at p
      · rename_i j xs h
        cases r2
        split at p
        · rename_i n hn
          obtain ⟨a', us, k1, k2, k3, k4, k5, k6, _⟩ := e2.list u2.gh n2 h
          rw [h1] at k1
          cases k1
          obtain ⟨st, en⟩ := k6 (us.set n vx) (xs.set n x) (k4.set (r1.mono u2.g) n)
          have hl := k4.length
          exact ⟨a, us, j, n, rfl, rfl, k3, by rw [hl]; exact hn, p σ G2 _ L2 st en n2 (.refl _ _)⟩
        · exact p.elim
      · exact p.elim
    · exact p.elim
def eSortL (a : SE K κ) : SE K κ where
  te := fun Wx => tCB (rSorted K) (tCons (a.te Wx) tNil)
  ev := fun ρ => (a.ev ρ).bindD fun x ρ => match x with
    | .lst xs => match numsOf xs with
      | some is => if is.length < 64 then .ok (.d (.lst ((sortI is).map .int))) ρ else .bad
      | none => .bad
    | _ => .bad
  ok := fun Wx G H ρ σ L Q hG hE hN p => a.ok.then hG hE hN p fun x vx ρ1 G1 H1 L1 u1 e1 n1 r1 p => by
    cases r1 with
    | @lst a1 us xs hs ra =>
      dsimp only at p
      cases hn : numsOf xs with
      | none => rw [hn] at p; exact p.elim
      | some is =>
        rw [hn] at p
        dsimp only at p
        split at p
        · rename_i hz
          have ev := numsOf_ok ra hn
          subst ev
          refine ⟨a1, is, rfl, ex_l u1.gh hs, hz, fun ys b py sy hb => ?_⟩
          have e := sorted_one (py.trans (sortI_perm is).symm) sy (sortI_sorted is)
          subst e
          exact p.ret (.new u1.gh hb) (e1.new u1.gh hb) n1 (.lst (SqL.of upd_same) (ints_ok _))
        · exact p.elim
    | _ => exact p.elim
def D.fv : D → Option V
  | .non => some .non
  | .bl b => some (.bl b)
  | .int i => some (.int i)
  | .str s => some (.str s)
  | _ => none
def D.fvs : List D → Option (List V)
  | [] => some []
  | x :: xs => match D.fv x, D.fvs xs with
    | some v, some vs => some (v :: vs)
    | _, _ => none
theorem fv_ok {G : Hp} {v u : V} {x : D} (r : Rp K κ G v x) (h : D.fv x = some u) : v = u ∧ flatV v = true := by
  cases r <;> first | (cases h; exact ⟨rfl, rfl⟩) | cases h
theorem fvs_ok {G : Hp} : ∀ {vs us : List V} {xs : List D}, RpAll K κ G vs xs → D.fvs xs = some us → vs = us ∧ vs.all flatV = true
  | _, _, _, .nil, e => by cases e; exact ⟨rfl, rfl⟩
  | _, _, _, .cons (x := x) (xs := xs) h t, e => by
    simp only [D.fvs] at e
    split at e
    · rename_i v vs h1 h2
      cases e
      obtain ⟨rfl, f1⟩ := fv_ok h h1
      obtain ⟨rfl, f2⟩ := fvs_ok t h2
      exact ⟨rfl, by rw [List.all_cons, f1, f2]; rfl⟩
    · cases e
def inD (x : D) (xs : List D) : Option Bool := match D.fv x, D.fvs xs with
  | some v, some vs => some (inV v vs)
  | _, _ => none
def gInS (neg : Bool) : D → D → Option D
  | x, .lst xs => (inD x xs).map fun b => .bl (if neg then !b else b)
  | x, .tup xs => (inD x xs).map fun b => .bl (if neg then !b else b)
  | _, _ => none
theorem opInS (neg : Bool) : OpS K κ (rIn K neg) (gInS neg) := fun G H vx vy x y z Q hG rx ry e k => by
  have key : ∀ {us : List V} {xs : List D}, RpAll K κ G us xs → (inD x xs).map (fun b => D.bl (if neg then !b else b)) = some z → flatV vx = true ∧ us.all flatV = true ∧ z = .bl (if neg then !inV vx us else inV vx us) := fun {us xs} ra e => by
    unfold inD at e
    cases h1 : D.fv x with
    | none => rw [h1] at e; cases e
    | some v =>
      cases h2 : D.fvs xs with
      | none => rw [h1, h2] at e; cases e
      | some vs =>
        rw [h1, h2] at e
        obtain ⟨rfl, f1⟩ := fv_ok rx h1
        obtain ⟨rfl, f2⟩ := fvs_ok ra h2
        cases e
        exact ⟨f1, f2, rfl⟩
  cases ry with
  | @lst a us xs hs ra =>
    obtain ⟨f1, f2, rfl⟩ := key ra e
    exact ⟨a, us, rfl, .inl (ex_l hG hs), f1, f2, k _ G H (.refl0 hG) (.bl _)⟩
  | @tup a us xs hs ra =>
    obtain ⟨f1, f2, rfl⟩ := key ra e
    exact ⟨a, us, rfl, .inr (ex_t hG hs.sq), f1, f2, k _ G H (.refl0 hG) (.bl _)⟩
  | _ => cases x <;> cases e
def eInS := eOp (K := K) (κ := κ) _ _ (opInS false)
def eNotInS := eOp (K := K) (κ := κ) _ _ (opInS true)
def eCatLM (a b : SE K κ) : SE K κ where
  te := fun Wx => tOp (rCatL K) (a.te Wx) (b.te Wx)
  ev := fun ρ => (a.ev ρ).bindD fun x ρ => (b.ev ρ).bindD fun y ρ => match x, y with
    | .lst xs, .lst ys => if xs.length + ys.length ≤ 1000000 then .ok (.ml (xs ++ ys)) ρ else .bad
    | _, _ => .bad
  ok := fun Wx G H ρ σ L Q hG hE hN p => a.ok.then hG hE hN p fun x vx ρ1 G1 H1 L1 u1 e1 n1 r1 p => b.ok.then u1.gh e1 n1 p fun y vy ρ2 G2 H2 L2 u2 e2 n2 r2 p => by
    have r1 := r1.mono u2.g
    cases r1 with
    | @lst a1 us1 xs hs ra =>
      cases r2 with
      | @lst a2 us2 ys ht rb =>
        dsimp only at p
        split at p
        · rename_i hz
          have la := ra.length
          have lb := rb.length
          refine ⟨_, _, _, _, rfl, rfl, ex_l u2.gh hs, ex_l u2.gh ht, Nat.le_trans (by omega : _ ≤ 1000000) (by decide), fun q hq => ?_⟩
          exact p _ G2 _ [q] L2 (.own u2.gh hq) (e2.ownNew hq) ⟨q, _, rfl, rfl, fresh u2.gh hq, upd_same, ra.append rb⟩ (own_nodup hq e2 n2)
        · exact p.elim
      | _ => exact p.elim
    | _ => exact p.elim
def D.truL : D → Option Bool
  | .non => some false
  | .bl b => some b
  | .int i => some (i != 0)
  | .lst xs => some (!xs.isEmpty)
  | .tup xs => some (!xs.isEmpty)
  | _ => none
theorem Rp.truL {G H : Hp} {v : V} {x : D} {k : Bool} (e : Ex G H) (r : Rp K κ G v x) (h : D.truL x = some k) : TruV K v H k := by
  have em : ∀ {us : List V} {xs : List D}, RpAll K κ G us xs → xs.isEmpty = us.isEmpty := fun ra => by cases ra <;> rfl
  cases r with
  | non => cases h; rfl
  | bl b => cases h; rfl
  | int i => cases h; rfl
  | @lst a us xs hs ra =>
    cases h
    exact .inl ⟨us, ex_l e hs, by rw [em ra]⟩
  | @tup a us xs hs ra =>
    cases h
    exact .inr (.inl ⟨us, ex_t e hs.sq, by rw [em ra]⟩)
  | _ => cases h
def tTr (a : SE K κ) : ST K κ where
  tt := fun Wx => fun σ H Q => a.te Wx σ H fun x H' => ∃ k, TruV K x H' k ∧ Q k H'
  ev := fun ρ => (a.ev ρ).bindD fun x ρ => match D.truL x with
    | some b => .ok b ρ
    | none => .bad
  ok := fun Wx G H ρ σ L Q hG hE hN p => a.ok.then hG hE hN p fun x vx ρ1 G1 H1 L1 u1 e1 n1 r1 p => by
    split at p
    · rename_i b h
      exact ⟨b, r1.truL u1.gh h, p b G1 H1 [] L1 (.refl u1.gh) e1 ⟨rfl, rfl⟩ n1⟩
    · exact p.elim
def eTop1 (a : SE K κ) : SE K κ where
  te := fun Wx => tCB (rMax K) (tCons (a.te Wx) tNil)
  ev := fun ρ => (a.ev ρ).bindD fun x ρ => match x with
    | .lst xs => match numsOf xs with
      | some (n :: ns) => .ok (.d (.int (topI n ns))) ρ
      | _ => .bad
    | _ => .bad
  ok := fun Wx G H ρ σ L Q hG hE hN p => a.ok.then hG hE hN p fun x vx ρ1 G1 H1 L1 u1 e1 n1 r1 p => by
    cases r1 with
    | @lst a1 us xs hs ra =>
      dsimp only at p
      split at p
      · rename_i n ns hn
        have ev := numsOf_ok ra hn
        subst ev
        refine ⟨a1, _, rfl, ex_l u1.gh hs, by simp, fun m hm hy => ?_⟩
        obtain ⟨s1, s2, s3⟩ := topI_spec ns n
        have e : m = topI n ns := by
          have a1 : topI n ns ≤ m := by
            rcases s1 with z | z
            · rw [z]; exact hy n (by simp)
            · exact hy _ (by simp [z])
          have a2 : m ≤ topI n ns := by
            rcases List.mem_cons.mp hm with rfl | z
            · exact s2
            · exact s3 m z
          omega
        subst e
        exact p.ret (.refl u1.gh) e1 n1 (.int _)
      · exact p.elim
    | _ => exact p.elim
def eLow1 (a : SE K κ) : SE K κ where
  te := fun Wx => tCB (rMin K) (tCons (a.te Wx) tNil)
  ev := fun ρ => (a.ev ρ).bindD fun x ρ => match x with
    | .lst xs => match numsOf xs with
      | some (n :: ns) => .ok (.d (.int (lowI n ns))) ρ
      | _ => .bad
    | _ => .bad
  ok := fun Wx G H ρ σ L Q hG hE hN p => a.ok.then hG hE hN p fun x vx ρ1 G1 H1 L1 u1 e1 n1 r1 p => by
    cases r1 with
    | @lst a1 us xs hs ra =>
      dsimp only at p
      split at p
      · rename_i n ns hn
        have ev := numsOf_ok ra hn
        subst ev
        refine ⟨a1, _, rfl, ex_l u1.gh hs, by simp, fun m hm hy => ?_⟩
        obtain ⟨s1, s2, s3⟩ := lowI_spec ns n
        have e : m = lowI n ns := by
          have a1 : m ≤ lowI n ns := by
            rcases s1 with z | z
            · rw [z]; exact hy n (by simp)
            · exact hy _ (by simp [z])
          have a2 : lowI n ns ≤ m := by
            rcases List.mem_cons.mp hm with rfl | z
            · exact s2
            · exact s3 m z
          omega
        subst e
        exact p.ret (.refl u1.gh) e1 n1 (.int _)
      · exact p.elim
    | _ => exact p.elim
end
end Pv
set_option maxRecDepth 100000
set_option maxHeartbeats 2000000
namespace Pv
open PySem PySem.Spec PyProof.Rows L2
section
variable {K : PySem.W.Frag} {κ : Cls}
/-- xs[::-1] of a list, as data -/
def eRevL (a : SE K κ) : SE K κ where
  te := fun Wx => tRevL K (a.te Wx)
  ev := fun ρ => (a.ev ρ).bindD fun x ρ => match x with
    | .lst xs => .ok (.d (.lst xs.reverse)) ρ
    | _ => .bad
  ok := fun Wx G H ρ σ L Q hG hE hN p => a.ok.then hG hE hN p fun x vx ρ1 G1 H1 L1 u1 e1 n1 r1 p => by
    cases r1 with
    | @lst b us xs hs ra => exact ⟨b, us, rfl, ex_l u1.gh hs, fun q hq => p.ret (.new u1.gh hq) (e1.new u1.gh hq) n1 (.lst (SqL.of upd_same) (ra.reverse.mono (Evl.Ex.new (fresh u1.gh hq))))⟩
    | _ => exact p.elim
/-- list(xs), xs an owned list, that stays so -/
def eCopyM (i : Nat) : SE K κ where
  te := fun _ => tCB (rLstOf K) (tCons (tVar i) tNil)
  ev := fun ρ => match ρ[i]? with
    | some (some (.ml xs)) => .ok (.d (.lst xs)) ρ
    | _ => .bad
  ok := fun Wx G H ρ σ L Q hG hE hN p => by
    dsimp only at p
    split at p
    · rename_i xs h
      obtain ⟨a, vs, h1, h2, h3, h4, _⟩ := hE.list hG hN h
      exact ⟨_, h1, a, vs, rfl, .inl (SqL.of h3), fun l hl => p.ret (.new hG hl) (hE.new hG hl) hN (.lst (SqL.of upd_same) (h4.mono (Evl.Ex.new (fresh hG hl))))⟩
    · exact p.elim
/-- a new list, from now on known -/
def eFz (a : SE K κ) : SE K κ where
  te := a.te
  ev := fun ρ => match a.ev ρ with
    | .ok (.ml xs) ρ => .ok (.d (.lst xs)) ρ
    | .ok (.d x) ρ => .ok (.d x) ρ
    | .exc c f ρ => .exc c f ρ
    | _ => .bad
  ok := fun Wx G H ρ σ L Q hG hE hN p => by
    refine a.ok Wx G H ρ σ L Q hG hE hN ?_
    dsimp only at p
    cases h : a.ev ρ with
    | bad => rw [h] at p; exact p.elim
    | exc c f ρ1 => rw [h] at p; exact p
    | ok w ρ1 =>
      rw [h] at p
      cases w with
      | d x => exact p
      | ml xs =>
        intro v G1 H1 Lw L1 u e r nd
        obtain ⟨a1, vs, rfl, rfl, g, hh, ra⟩ := r
        have nda := List.nodup_append.mp nd
        have na : ∀ b ∈ L1, b ≠ a1 := fun b hb z => nda.2.2 a1 (by simp) b hb z.symm
        refine p (.ref a1) (upd G1 a1 (.lst vs)) H1 [] L1 ⟨u.g.trans (Evl.Ex.new g), u.h, u.t, fun b e1 n1 q => ?_, fun b z => u.ln b (List.mem_append_right _ z), fun b o z => ?_, u.tb⟩ ?_ ⟨rfl, .lst (SqL.of upd_same) (ra.mono (Evl.Ex.new g))⟩ nda.2.1
        · have ne : b ≠ a1 := fun z => by
            subst z
            rcases u.ln b (by simp) with m | m
            · exact n1 m
            · exact e1 m
          rw [upd_ne ne]
          exact u.gn b e1 n1 q
        · by_cases z1 : b = a1
          · subst z1
            rw [upd_same] at z
            cases z
            exact hh
          · rw [upd_ne z1] at z
            exact u.gh b o z
        · refine e.keep (Evl.Ex.new g) (fun b z => ?_) (fun b z o q => q) fun t => t.give fun ps z => by rw [hh] at z; cases z
          rw [upd_ne (na b z)]
          exact (e.there b z).2
      | _ => exact p.elim
end
section
variable {P : Program} {w : World} {K : PySem.W.Frag} {κ : Cls} {mg : Str → Option Value} {base : Heap}
theorem fnx_bad {k : Nat} {f : Addr} {fd : FuncData} {ps : List Str} : FnX P w K κ mg base k f fd ps (fun _ => .bad) :=
  ⟨fun vs H Q E h => by obtain ⟨_, _, _, h, _⟩ := h; exact h, fun A outer s H args us vs Q E hr hq he hb hv h => by obtain ⟨_, _, _, _, _, _, _, _, z⟩ := h; exact z.elim⟩
/-- F 0 is never asked; F (n + 1) is the body that asks F n -/
theorem fnx_rec {l : Nat} {a : Addr} {fd : FuncData} {ps : List Str} {F : Nat → Fn} (h0 : F 0 = fun _ => .bad) (h : ∀ n, FnX P w K κ mg base (l + n) a fd ps (F n) → FnX P w K κ mg base (l + (n + 1)) a fd ps (F (n + 1))) : ∀ n, FnX P w K κ mg base (l + n) a fd ps (F n)
  | 0 => by rw [h0]; exact fnx_bad
  | n + 1 => h n (fnx_rec h0 h n)
end
end Pv
set_option maxRecDepth 100000
set_option maxHeartbeats 4000000
namespace Pv
open PySem PySem.Spec PyProof.Rows L2
section
variable {K : PySem.W.Frag} {κ : Cls}
theorem eSlL_ev (a : SE K κ) (lo hi : SO K κ) : (eSlL (K := K) (κ := κ) a lo hi).ev = fun ρ => (a.ev ρ).bindD fun x ρ => (lo.ev ρ).bind fun i ρ => (hi.ev ρ).bind fun j ρ => match x with
    | .lst xs => .ok (.d (.lst (cutD xs i j))) ρ
    | _ => .bad := rfl
theorem iZipL_ev (a b : SE K κ) : (iZipL (K := K) (κ := κ) a b).ev = fun ρ => (a.ev ρ).bindD fun x ρ => (b.ev ρ).bindD fun y ρ => match x, y with
    | .lst xs, .lst ys => if xs.length = ys.length then .ok ((xs.zip ys).map pairD) ρ else .bad
    | _, _ => .bad := rfl
theorem eRepL_ev (a k : SE K κ) : (eRepL (K := K) (κ := κ) a k).ev = fun ρ => match a.ev ρ with
    | .ok (.ml xs) ρ => (k.ev ρ).bindD fun y ρ => match y with
      | .int n => if 0 ≤ n ∧ n ≤ 1000 ∧ xs.length ≤ 1000 then .ok (.d (.lst (List.replicate n.toNat xs).flatten)) ρ else .bad
      | _ => .bad
    | _ => .bad := rfl
theorem eTopDf_ev (a b : SE K κ) : (eTopDf (K := K) (κ := κ) a b).ev = fun ρ => (a.ev ρ).bindD fun x ρ => (b.ev ρ).bindD fun y ρ => match x with
    | .lst xs => match numsOf xs with
      | some ns => .ok (.d (topD ns y)) ρ
      | none => .bad
    | _ => .bad := rfl
theorem eLowDf_ev (a b : SE K κ) : (eLowDf (K := K) (κ := κ) a b).ev = fun ρ => (a.ev ρ).bindD fun x ρ => (b.ev ρ).bindD fun y ρ => match x with
    | .lst xs => match numsOf xs with
      | some ns => .ok (.d (lowD ns y)) ρ
      | none => .bad
    | _ => .bad := rfl
theorem ePk_ev (e : SE K κ) : (ePk (K := K) (κ := κ) e).ev = fun ρ => match e.ev (peekE ρ) with
    | .ok (.d x) _ => if D.f0 x = true then .ok (.d x) ρ else .bad
    | _ => .bad := rfl
theorem tPk_ev (t : ST K κ) : (tPk (K := K) (κ := κ) t).ev = fun ρ => match t.ev (peekE ρ) with
    | .ok b _ => .ok b ρ
    | _ => .bad := rfl
theorem sSetX_sv (i : Nat) (k e : SE K κ) : (sSetX (K := K) (κ := κ) i k e).sv = fun ρ => (e.ev ρ).bindD fun x ρ => match ρ[i]? with
    | some (some (.ml _)) => (k.ev ρ).bindD fun y ρ => match y, ρ[i]? with
      | .int j, some (some (.ml xs)) => match L2.ixN xs.length j with
        | some n => .ok .nx (ρ.set i (some (.ml (xs.set n x))))
        | none => .bad
      | _, _ => .bad
    | _ => .bad := rfl
theorem eSortL_ev (a : SE K κ) : (eSortL (K := K) (κ := κ) a).ev = fun ρ => (a.ev ρ).bindD fun x ρ => match x with
    | .lst xs => match numsOf xs with
      | some is => if is.length < 64 then .ok (.d (.lst ((sortI is).map .int))) ρ else .bad
      | none => .bad
    | _ => .bad := rfl
theorem eCatLM_ev (a b : SE K κ) : (eCatLM (K := K) (κ := κ) a b).ev = fun ρ => (a.ev ρ).bindD fun x ρ => (b.ev ρ).bindD fun y ρ => match x, y with
    | .lst xs, .lst ys => if xs.length + ys.length ≤ 1000000 then .ok (.ml (xs ++ ys)) ρ else .bad
    | _, _ => .bad := rfl
theorem tTr_ev (a : SE K κ) : (tTr (K := K) (κ := κ) a).ev = fun ρ => (a.ev ρ).bindD fun x ρ => match D.truL x with
    | some b => .ok b ρ
    | none => .bad := rfl
theorem eTop1_ev (a : SE K κ) : (eTop1 (K := K) (κ := κ) a).ev = fun ρ => (a.ev ρ).bindD fun x ρ => match x with
    | .lst xs => match numsOf xs with
      | some (n :: ns) => .ok (.d (.int (topI n ns))) ρ
      | _ => .bad
    | _ => .bad := rfl
theorem eLow1_ev (a : SE K κ) : (eLow1 (K := K) (κ := κ) a).ev = fun ρ => (a.ev ρ).bindD fun x ρ => match x with
    | .lst xs => match numsOf xs with
      | some (n :: ns) => .ok (.d (.int (lowI n ns))) ρ
      | _ => .bad
    | _ => .bad := rfl
theorem eRevL_ev (a : SE K κ) : (eRevL (K := K) (κ := κ) a).ev = fun ρ => (a.ev ρ).bindD fun x ρ => match x with
    | .lst xs => .ok (.d (.lst xs.reverse)) ρ
    | _ => .bad := rfl
theorem eCopyM_ev (i : Nat) : (eCopyM (K := K) (κ := κ) i).ev = fun ρ => match ρ[i]? with
    | some (some (.ml xs)) => .ok (.d (.lst xs)) ρ
    | _ => .bad := rfl
theorem eFz_ev (a : SE K κ) : (eFz (K := K) (κ := κ) a).ev = fun ρ => match a.ev ρ with
    | .ok (.ml xs) ρ => .ok (.d (.lst xs)) ρ
    | .ok (.d x) ρ => .ok (.d x) ρ
    | .exc c f ρ => .exc c f ρ
    | _ => .bad := rfl
end
end Pv
set_option maxRecDepth 100000
set_option maxHeartbeats 2000000
namespace Pv
open PySem PySem.Spec PyProof.Rows L2
section
variable {K : PySem.W.Frag} {κ : Cls} {ρ ρ1 ρ2 ρp ρ' : Env} {e k : SE K κ} {t u : ST K κ} {a b : SS K κ} {x y : D} {w : W} {c : Bool} {r : R Env Flow}
theorem tpk_of (hp : peekE ρ = ρp) (h : t.ev ρp = .ok c ρ') : (tPk t).ev ρ = .ok c ρ := by
  simp only [tPk_ev, hp, h]
theorem if_tr (ht : t.ev ρ = .ok true ρ1) (h : a.sv ρ1 = r) : (sIf t a b).sv ρ = r := by
  show (t.ev ρ).bind _ = r
  rw [ht]
  exact h
theorem if_fa (ht : t.ev ρ = .ok false ρ1) (h : b.sv ρ1 = r) : (sIf t a b).sv ρ = r := by
  show (t.ev ρ).bind _ = r
  rw [ht]
  exact h
/-- an if of which nothing comes -/
theorem if_no (ht : t.ev ρ = .ok false ρ1) : (sIf t a sNil).sv ρ = .ok .nx ρ1 := if_fa ht rfl
theorem ret_of (h : e.ev ρ = .ok w ρ1) : (sRet e).sv ρ = .ok (.rt w) ρ1 := by
  show (e.ev ρ).bind _ = _
  rw [h]
  rfl
/-- the last row of a def: return -/
theorem seq_ret (h : e.ev ρ = .ok w ρ1) : (sSeq (sRet e) b).sv ρ = .ok (.rt w) ρ1 := seq_rt (ret_of h)
theorem or_t (ht : t.ev ρ = .ok true ρ1) : (tOr' t u).ev ρ = .ok true ρ1 := by
  show (t.ev ρ).bind _ = _
  rw [ht]
  rfl
theorem or_f (ht : t.ev ρ = .ok false ρ1) : (tOr' t u).ev ρ = u.ev ρ1 := by
  show (t.ev ρ).bind _ = _
  rw [ht]
  rfl
theorem call1_of {f : Fn} {a : SE K κ} {z : W} (ha : a.ev ρ = .ok (.d x) ρ1) (hf : f [.d x] = .ok z [.d x]) : (eCall 1 f (aCons a aNil)).ev ρ = .ok z ρ1 := by
  simp? [ha, hf]
end
end Pv
local macro_rules | `(tactic| simp?! [$xs,*]) => `(tactic| simp only [Pv.eV_ev, Pv.eC_ev, Pv.eOp_ev, Pv.eUn_ev, Pv.eIsN_ev, Pv.eNotN_ev, Pv.aNil_ev, Pv.aCons_ev, Pv.aM_ev, Pv.eTup_ev, Pv.eLst_ev, Pv.eLstM_ev, Pv.eCall_ev, Pv.eCB_ev, Pv.tV_ev, Pv.tV'_ev, Pv.tAnd'_ev, Pv.tOr'_ev, Pv.tNot'_ev, Pv.eAndV_ev, Pv.eOrV_ev, Pv.eNotV_ev, Pv.eIf_ev, Pv.sNil_sv, Pv.sSeq_sv, Pv.sAsg_sv, Pv.sIf_sv, Pv.sRet_sv, Pv.sDrop_sv, Pv.sSetL_sv, Pv.sApp_sv, Pv.eIxM_ev, Pv.eLenM_ev, Pv.iT_ev, Pv.iL_ev, Pv.iR1_ev, Pv.iR2_ev, Pv.gN_put, Pv.gs0_put, Pv.gs1_put, Pv.gT_put, Pv.sAsgG_sv, Pv.tYes'_ev, Pv.eIs_ev, Pv.sRaise_sv, Pv.sTry_sv, Pv.sNever_sv, Pv.sPar_sv, Pv.o0_ev, Pv.o1_ev, Pv.eSlT_ev, Pv.sSetD_sv, Pv.eIxD_ev, Pv.eGetD_ev, Pv.eSortD_ev, Pv.eDict_ev, Pv.eNegC_ev, Pv.eRevT_ev, Pv.eOrD_ev, Pv.eRepM_ev, Pv.sAugI_sv, Pv.iItemsD_ev, Pv.iZip_ev, Pv.sRaiseF_sv, Pv.eIsX_ev, Pv.eFldX_ev, Pv.eCatM_ev, Pv.eSortIt_ev, Pv.sAugAdd, Pv.sAugSub, Pv.eIntOf, Pv.eRep01, Pv.eStrOf, Pv.eTupOf, Pv.eLstOf, Pv.eCatT, Pv.eInt, Pv.eStr, Pv.eBl, Pv.eNon, Pv.eAdd, Pv.eSub, Pv.eMul, Pv.eMulW, Pv.eMod, Pv.eDiv, Pv.ePow, Pv.eLt, Pv.eLe, Pv.eGt, Pv.eGe, Pv.eEq, Pv.eNe, Pv.eIxL, Pv.eIxT, Pv.eLen, Pv.eMax2, Pv.eMin2, Pv.eAll, Pv.eAny, Pv.eSum, Pv.eIsTy, Pv.R.bindD_ok, Pv.gI, Pv.R.bindD_ok, Pv.R.bindD_exc, Pv.R.bind_ok, Pv.R.bind_exc, Pv.R.bind_bad, Pv.R.of, Pv.R.flow, Pv.evV, Pv.evD, Pv.dat, Pv.pull, Pv.push, Pv.callOn, Pv.left, Pv.begun, List.length_cons, List.length_nil, List.getElem?_cons_zero, List.getElem?_cons_succ, List.set_cons_zero, List.set_cons_succ, if_true, if_false, Pv.ite_t, Pv.ite_f, Nat.reduceAdd, Nat.reduceLT, Nat.reduceSub, Nat.reduceEqDiff, Nat.reduceLeDiff, List.map_cons, List.map_nil, List.replicate, List.append_nil, List.nil_append, List.cons_append, and_self, true_and, and_true, Bool.not_true, Bool.not_false, Bool.false_eq_true, reduceIte, Nat.zero_add, Nat.lt_add_left_iff_pos, Pv.eSlL_ev, Pv.iZipL_ev, Pv.eRepL_ev, Pv.eTopDf_ev, Pv.eLowDf_ev, Pv.ePk_ev, Pv.tPk_ev, Pv.sSetX_sv, Pv.eSortL_ev, Pv.eCatLM_ev, Pv.tTr_ev, Pv.eTop1_ev, Pv.eLow1_ev, Pv.eRevL_ev, Pv.eCopyM_ev, Pv.eFz_ev, Pv.peekE, Pv.peekW, Pv.D.f0, Pv.eCatL, Pv.eInS, Pv.eNotInS, Pv.D.truL, $xs,*])
set_option maxRecDepth 100000
set_option maxHeartbeats 2000000
namespace Pv
open PySem PySem.Spec PyProof.Rows L2
theorem eqv_me {x : D} (h : D.flat 60 x = true) : D.eqv x x = true := SeqAt.eqv_refl_plain _ (PyData.plain_of_canLay0 _ (flat_lay x 60 h).1)
theorem gEq_me {x : D} (h : D.flat 60 x = true) : gEq x x = some (.bl true) := by
  unfold gEq
  rw [if_pos ⟨h, h⟩, eqv_me h]
theorem gNe_me {x : D} (h : D.flat 60 x = true) : gNe x x = some (.bl false) := by
  unfold gNe
  rw [if_pos ⟨h, h⟩, eqv_me h]
  rfl
theorem bools_yes {α : Type} (xs : List α) : bools (xs.map fun _ => D.bl true) = some (xs.map fun _ => true) := by
  induction xs with
  | nil => rfl
  | cons x xs ih =>
    rw [List.map_cons, List.map_cons]
    unfold bools
    rw [ih]
theorem gAll_yes {α : Type} (xs : List α) : gAll [.lst (xs.map fun _ => D.bl true)] = some (.bl true) := by
  show (match bools (xs.map fun _ => D.bl true) with | some bs => some (D.bl (bs.all id)) | none => none) = _
  rw [bools_yes]
  simp
end Pv
set_option maxRecDepth 100000
set_option maxHeartbeats 2000000
namespace Pv
open PySem PySem.Spec PyProof.Rows L2
end Pv
set_option maxRecDepth 100000
set_option maxHeartbeats 2000000
namespace Pv
open PySem PySem.Spec PyProof.Rows L2
section
variable {K : PySem.W.Frag} {κ : Cls} {ρ ρ1 ρ2 : Env} {t : ST K κ} {b : SS K κ} {a c : SE K κ} {w : W}
theorem top1_of {n : Int} {ns : List Int} (ha : a.ev ρ = .ok (.d (.lst ((n :: ns).map .int))) ρ1) : (eTop1 a).ev ρ = .ok (.d (.int (topI n ns))) ρ1 := by
  show (a.ev ρ).bindD _ = _
  rw [ha]
  show (match numsOf ((n :: ns).map .int) with | some (n :: ns) => R.ok (W.d (.int (topI n ns))) ρ1 | _ => .bad) = _
  rw [numsOf_map]
end
end Pv
set_option maxRecDepth 100000
set_option maxHeartbeats 2000000
namespace Pv
open PySem PySem.Spec PyProof.Rows L2
section
variable {K : PySem.W.Frag} {κ : Cls} {G H G' H' : Hp} {L : List Addr} {ρ : Env} {σ : St}
theorem MLs.all : ∀ {xss : List (List D)} {bs : List Addr}, MLs K κ G H xss bs → Ex G G' → (∀ b ∈ bs, ∀ o, H b = some o → G' b = some o) → RpAll K κ G' (bs.map V.ref) (xss.map .lst)
  | [], [], _, _, _ => .nil
  | xs :: xss, b :: bs, ⟨⟨g, vs, h, r⟩, m⟩, e, k => .cons (.lst (SqL.of (k b (by simp) _ h)) (r.mono e)) (MLs.all m e fun c z => k c (by simp [z]))
theorem MLs.vs {xss : List (List D)} {bs : List Addr} (m : MLs K κ G H xss bs) {n : Nat} (h : n < xss.length) : ∃ b xs vs, bs[n]? = some b ∧ xss[n]? = some xs ∧ G b = none ∧ H b = some (.lst vs) ∧ RpAll K κ G vs xs := by
  have hb : n < bs.length := by rw [← m.len]; exact h
  obtain ⟨xs, vs, q⟩ := m.at (List.getElem?_eq_getElem hb)
  exact ⟨_, xs, vs, List.getElem?_eq_getElem hb, q⟩
end
end Pv
set_option maxRecDepth 100000
set_option maxHeartbeats 2000000
namespace Pv
open PySem PySem.Spec PyProof.Rows L2
end Pv
set_option maxRecDepth 100000
set_option maxHeartbeats 2000000
namespace Pv
open PySem PySem.Spec PyProof.Rows L2
section
variable {K : PySem.W.Frag} {κ : Cls}
theorem RpAll.f0 {G G' : Hp} : ∀ {vs : List V} {xs : List D}, RpAll K κ G vs xs → xs.all D.f0 = true → RpAll K κ G' vs xs
  | _, _, .nil, _ => .nil
  | _, _, .cons h r, e => by
    rw [List.all_cons, Bool.and_eq_true] at e
    exact .cons (h.f0 e.1) (RpAll.f0 r e.2)
end
end Pv
set_option maxRecDepth 100000
set_option maxHeartbeats 2000000
namespace Pv
open PySem PySem.Spec PyProof.Rows L2
section
variable {K : PySem.W.Frag} {κ : Cls}
def yesE : Env → R Env Bool := fun ρ => .ok true ρ
/-- the inner walk: items of it go behind what stands at D -/
theorem in_ok {it : SI K κ} {g : SG K κ} {e : SE K κ} {vs : List Nat} (hv : ∀ i ∈ g.asg, i ∈ vs) {G H : Hp} {ρ : Env} {σ : St} {L : List Addr} {D : Addr} {us : List V} {acc : List Pv.D} {Nx : Hp → Prop} {xs : List Pv.D} {ρ1 : Env}
    (hG : Ex G H) (hE : EnvR K κ G H ρ σ L) (hN : ([D] ++ L).Nodup) (gD : G D = none) (hD : H D = some (.lst us)) (ra : RpAll K κ G us acc) (hi : it.ev ρ = .ok xs ρ1) {ys : List Pv.D} {ρ' : Env}
    (hl : loopC vs g.put yesE e.ev xs (wipeE ρ1 vs) acc = .ok ys ρ')
    (k : ∀ us' G' H' L', Stp G H ([D] ++ L) G' H' ([D] ++ L') → EnvR K κ G' H' ρ' (wipe σ vs) L' → ([D] ++ L').Nodup → G' D = none → H' D = some (.lst us') → RpAll K κ G' us' ys → Nx H') :
    it.ti W0 σ H fun J1 H4 => ∃ W1 : Nat → Nat → Hp → Prop, (∃ m, W1 0 m H4) ∧ ∀ j k H, W1 j k H →
      (J1.stop j H ∧ Nx H) ∨ (J1.go j H ∧ ∃ Nx1 : Hp → Prop, (∀ H', Nx1 H' → ∃ k', k' < k ∧ W1 (j + 1) k' H') ∧ ∀ x H', J1.yld j H x H' → g.tg x (wipe σ vs) H' fun σ3 H5 => wipe σ3 vs = wipe σ vs ∧ tYes σ3 H5 fun b H6 =>
        if b = true then (e.te W0) σ3 H6 fun y H7 => ∃ acc, H7 D = some (.lst acc) ∧ acc.length < sizeLine ∧ Nx1 (upd H7 D (.lst (acc ++ [y]))) else Nx1 H6) := by
  have ndL := List.nodup_append.mp hN
  refine it.ok W0 G H ρ σ L _ hG hE ndL.2.1 ?_
  rw [hi]
  intro J G1 H1 Lw L1 u e1 y nd
  obtain ⟨rfl, y⟩ := y
  have nd : L1.Nodup := nd
  have u : Stp G H L G1 H1 L1 := u
  have DL : D ∉ L := fun z => ndL.2.2 D (by simp) D z rfl
  have DL1 : D ∉ L1 := fun z => (u.ln D z).elim DL fun q => by rw [hD] at q; cases q
  have gD1 : G1 D = none := u.gn D (by rw [hD]; exact Option.some_ne_none _) DL gD
  have hD1 : H1 D = some (.lst us) := u.h D _ hD DL ntL
  obtain ⟨Lw, w1, w2, w3⟩ := wipe_ok (vs := vs) e1 nd
  have ndD : ([D] ++ Lw).Nodup := List.nodup_append.mpr ⟨by simp, w2, fun a x b y z => by
    simp only [List.mem_singleton] at x
    subst x z
    exact DL1 (w3 _ y)⟩
  refine ⟨fun i m H' => m = xs.length - i ∧ i ≤ xs.length ∧ ∃ G' L' ρ' us acc', Ex G1 G' ∧ Stp G H ([D] ++ L) G' H' ([D] ++ L') ∧ EnvR K κ G' H' ρ' (wipe σ vs) L' ∧ ([D] ++ L').Nodup ∧ G' D = none ∧ H' D = some (.lst us) ∧ RpAll K κ G' us acc' ∧ loopC vs g.put yesE e.ev xs (wipeE ρ1 vs) acc = loopC vs g.put yesE e.ev (xs.drop i) ρ' acc',
    ⟨xs.length, by simp, Nat.zero_le _, G1, Lw, wipeE ρ1 vs, us, acc, Evl.Ex.refl _, u.wide (fun a z => List.mem_append_right _ z) (fun a z => ?_), w1, ndD, gD1, hD1, ra.mono u.g, by simp⟩, ?_⟩
  · rcases List.mem_append.mp z with z | z
    · exact .inr (List.mem_append_left _ z)
    · exact .inl (w3 a z)
  rintro i m H' ⟨rfl, hle, G', L', ρ2', us, acc', g1, st, e', n', gD, hD', ra, eq⟩
  have yy := y G' H' i g1 st.gh
  have nda := List.nodup_append.mp n'
  by_cases hlt : i < xs.length
  · have hx : xs[i]? = some xs[i] := List.getElem?_eq_getElem hlt
    obtain ⟨go, yd⟩ := yy.1 _ hx
    have hd : xs.drop i = xs[i] :: xs.drop (i + 1) := List.drop_eq_getElem_cons hlt
    rw [hd] at eq
    refine .inr ⟨go, fun H2 => ∃ G2 L2 ρ2 us acc', Ex G1 G2 ∧ Stp G H ([D] ++ L) G2 H2 ([D] ++ L2) ∧ EnvR K κ G2 H2 ρ2 (wipe σ vs) L2 ∧ ([D] ++ L2).Nodup ∧ G2 D = none ∧ H2 D = some (.lst us) ∧ RpAll K κ G2 us acc' ∧ loopC vs g.put yesE e.ev xs (wipeE ρ1 vs) acc = loopC vs g.put yesE e.ev (xs.drop (i + 1)) ρ2 acc', fun H2 z => ⟨xs.length - (i + 1), by omega, rfl, by omega, z⟩, fun v H'' hy => ?_⟩
    obtain ⟨G'', s1, rv⟩ := yd v H'' hy
    have e'' := e'.grow s1
    have st1 : Stp G H ([D] ++ L) G'' H'' ([D] ++ L') := st.trans s1.grow
    have gD1 : G'' D = none := s1.gn D (by rw [hD']; exact Option.some_ne_none _) (fun z => nomatch z) gD
    have hD1 : H'' D = some (.lst us) := s1.h D _ hD' (fun z => nomatch z) ntL
    have ra1 := ra.mono s1.g
    simp only [loopC] at eq
    cases hp : g.put xs[i] ρ2' with
    | none => rw [hp] at eq; rw [eq] at hl; cases hl
    | some ρ2 =>
      rw [hp] at eq
      refine g.ok G'' H'' ρ2' ρ2 _ L' v _ _ s1.gh e'' nda.2.1 rv hp fun σ2 L2 e2 n2 s2 k2 => ?_
      have len2 : σ2.length = σ.length := k2.1.trans (wipe_length σ vs)
      have wk : wipe σ2 vs = wipe σ vs := wipe_keep len2 fun j nj => k2.2 j fun z => nj (hv j z)
      refine ⟨wk, ?_⟩
      have st3 : Stp G H ([D] ++ L) G'' H'' ([D] ++ L2) := st1.sub fun a z => by
        rcases List.mem_append.mp z with z | z
        · exact List.mem_append_left _ z
        · exact List.mem_append_right _ (s2 a z)
      have nD3 : D ∉ L2 := fun z => nda.2.2 D (by simp) D (s2 D z) rfl
      dsimp only [yesE] at eq
      change e.te W0 σ2 H'' _
      refine e.ok W0 G'' H'' ρ2 σ2 L2 _ s1.gh e2 n2 ?_
      cases he : e.ev ρ2 with
      | exc c f ρ4 => rw [he] at eq; rw [eq] at hl; cases hl
      | bad => rw [he] at eq; rw [eq] at hl; cases hl
      | ok w ρ4 =>
        rw [he] at eq
        cases w with
        | ml _ => rw [eq] at hl; cases hl
        | md _ => rw [eq] at hl; cases hl
        | mm _ => rw [eq] at hl; cases hl
        | d yy' =>
          dsimp only at eq
          by_cases hz : acc'.length < 1000000
          · rw [if_pos hz] at eq
            intro v4 G4 H4 Lx L4 s4 e4 r4 n4
            obtain ⟨rfl, r4⟩ := r4
            have s4 : Stp G'' H'' L2 G4 H4 L4 := s4
            have n4 : L4.Nodup := n4
            have nD4 : D ∉ L4 := fun z => (s4.ln D z).elim nD3 fun q => by rw [hD1] at q; cases q
            have st4 : Stp G H ([D] ++ L) G4 H4 ([D] ++ L4) := st3.trans (s4.wide (fun a z => List.mem_append_right _ z) fun a z => by
              rcases List.mem_append.mp z with z | z
              · exact .inr (List.mem_append_left _ z)
              · exact .inl z)
            have gD4 : G4 D = none := s4.gn D (by rw [hD1]; exact Option.some_ne_none _) nD3 gD1
            have hD4 : H4 D = some (.lst us) := s4.h D _ hD1 nD3 ntL
            have ra4 := (ra1.mono s4.g).append (.cons r4 .nil)
            have hl2 := ra.length
            refine ⟨us, hD4, Nat.lt_of_lt_of_le (by omega : us.length < 1000000) (by decide), ?_⟩
            obtain ⟨L5, w1, w2, w3⟩ := wipe_ok (vs := vs) e4 n4
            rw [wk] at w1
            have nD5 : D ∉ L5 := fun z => nD4 (w3 D z)
            have nt4 : ∀ ps, H4 D ≠ some (.tbl ps) := fun ps z => by rw [hD4] at z; cases z
            have s5 : Stp G4 H4 ([D] ++ L4) G4 (upd H4 D (.lst (us ++ [v4]))) ([D] ++ L5) := by
              refine ⟨Evl.Ex.refl _, fun b o q n _ => ?_, fun b q => ?_, fun _ _ _ q => q, fun b z => ?_, fun b o q => ?_, tab_put nt4⟩
              · rw [upd_ne (fun z => n (by simp [z]))]; exact q
              · by_cases z : b = D
                · rw [z, upd_same] at q; cases q
                · rw [upd_ne z] at q; exact q
              · rcases List.mem_append.mp z with z | z
                · exact .inl (List.mem_append_left _ z)
                · exact .inl (List.mem_append_right _ (w3 b z))
              · have z : b ≠ D := fun z => by rw [z, gD4] at q; cases q
                rw [upd_ne z]; exact s4.gh b o q
            refine ⟨G4, L5, wipeE ρ4 vs, us ++ [v4], acc' ++ [yy'], g1.trans (s1.g.trans s4.g), st4.trans s5, w1.keep (Evl.Ex.refl _) (fun a z => (w1.there a z).2) (fun a z o q => ?_) (fun t => t.put nt4), List.nodup_append.mpr ⟨by simp, w2, fun a x b y z => ?_⟩, gD4, upd_same, ra4, eq⟩
            · rw [upd_ne (fun q => nD5 (by rw [← q]; exact z))]; exact q
            · simp only [List.mem_singleton] at x
              subst x z
              exact nD5 y
          · rw [if_neg hz] at eq
            rw [eq] at hl
            cases hl
  · have hi' : i = xs.length := by omega
    subst hi'
    rw [List.drop_length] at eq
    refine .inl ⟨yy.2 (Nat.le_refl _), ?_⟩
    have eq' : loopC vs g.put yesE e.ev xs (wipeE ρ1 vs) acc = .ok acc' ρ2' := eq
    rw [hl] at eq'
    cases eq'
    exact k us G' H' L' st e' n' gD hD' ra
def loopC2 (vs vs1 : List Nat) (put : D → Env → Option Env) (it1 : Env → R Env (List D)) (put1 : D → Env → Option Env) (e : Env → R Env W) : List D → Env → List D → R Env (List D)
  | [], ρ, acc => .ok acc ρ
  | x :: xs, ρ, acc => match put x ρ with
    | none => .bad
    | some ρ1 => match it1 ρ1 with
      | .ok ys ρ2 => match loopC vs1 put1 yesE e ys (wipeE ρ2 vs1) acc with
        | .ok acc' ρ3 => loopC2 vs vs1 put it1 put1 e xs (wipeE ρ3 vs) acc'
        | _ => .bad
      | _ => .bad
def evLc2 (it : Env → R Env (List D)) (put : D → Env → Option Env) (it1 : Env → R Env (List D)) (put1 : D → Env → Option Env) (e : Env → R Env W) (vs vs1 : List Nat) : Env → R Env (List D) := fun ρ =>
  (it ρ).bind fun xs ρ => (loopC2 vs vs1 put it1 put1 e xs (wipeE ρ vs) []).bind fun ys ρ => .ok ys (unwE ρ vs)
theorem wipe_sub {σ : St} {vs vs1 : List Nat} (h : ∀ i ∈ vs1, i ∈ vs) : wipe (wipe σ vs1) vs = wipe σ vs := wipe_keep (wipe_length σ vs1) fun i n => by rw [wipe_ne n, wipe_ne fun z => n (h i z)]
theorem lc2_ok {it : SI K κ} {g : SG K κ} {it1 : SI K κ} {g1 : SG K κ} {e : SE K κ} {vs vs1 : List Nat} (hv : ∀ i ∈ g.asg, i ∈ vs) (hv1 : ∀ i ∈ g1.asg, i ∈ vs1) (hs : ∀ i ∈ vs1, i ∈ vs) {Wx : WX} {G H : Hp} {ρ : Env} {σ : St} {L : List Addr} {Q : VK} (hG : Ex G H) (hE : EnvR K κ G H ρ σ L) (hN : L.Nodup)
    (hne : ∀ c f ρ', it.ev ρ = .exc c f ρ' → ∀ dd G' H' L', Stp G H L G' H' L' → EnvR K κ G' H' ρ' σ L' → L'.Nodup → ExF K κ G' c f dd → Wx (.ref (κ.at_ c)) dd σ H') (hnb : evLc2 it.ev g.put it1.ev g1.put e.ev vs vs1 ρ ≠ .bad)
    (k : ∀ ys ρ' a us G' H' L', evLc2 it.ev g.put it1.ev g1.put e.ev vs vs1 ρ = .ok ys ρ' → Stp G H L G' H' ([a] ++ L') → EnvR K κ G' H' ρ' σ L' → ([a] ++ L').Nodup → G' a = none → H' a = some (.lst us) → RpAll K κ G' us ys → Q (.ref a) H') :
    tLc2 (it.ti Wx) g.tg tYes (it1.ti W0) g1.tg tYes (e.te W0) vs vs1 σ H Q := by
  refine it.ok Wx G H ρ σ L _ hG hE hN ?_
  unfold evLc2 at hnb k
  cases hi : it.ev ρ with
  | exc c f ρ1 => exact hne c f ρ1 hi
  | bad => rw [hi] at hnb; exact absurd rfl hnb
  | ok xs ρ1 =>
    rw [hi] at hnb k
    intro J G1 H1 Lw L1 u e1 y nd
    obtain ⟨rfl, y⟩ := y
    have nd : L1.Nodup := nd
    have u : Stp G H L G1 H1 L1 := u
    intro D hD
    obtain ⟨Lw, w1, w2, w3⟩ := wipe_ok (vs := vs) e1 nd
    have ndD : ([D] ++ Lw).Nodup := own_nodup hD w1 w2
    simp only [R.bind_ok] at hnb k
    refine ⟨fun i m H' => m = xs.length - i ∧ i ≤ xs.length ∧ ∃ G' L' ρ' us acc, Ex G1 G' ∧ Stp G H L G' H' ([D] ++ L') ∧ EnvR K κ G' H' ρ' (wipe σ vs) L' ∧ ([D] ++ L').Nodup ∧ G' D = none ∧ H' D = some (.lst us) ∧ RpAll K κ G' us acc ∧ loopC2 vs vs1 g.put it1.ev g1.put e.ev xs (wipeE ρ1 vs) [] = loopC2 vs vs1 g.put it1.ev g1.put e.ev (xs.drop i) ρ' acc,
      ⟨xs.length, by simp, Nat.zero_le _, G1, Lw, wipeE ρ1 vs, [], [], Evl.Ex.refl _, u.trans ((Stp.own u.gh hD).sub fun a z => ?_), w1.ownNew hD, ndD, fresh u.gh hD, upd_same, .nil, by simp⟩, ?_⟩
    · rcases List.mem_append.mp z with z | z
      · exact List.mem_append_left _ z
      · exact List.mem_append_right _ (w3 a z)
    rintro i m H' ⟨rfl, hle, G', L', ρ', us, acc, g1', st, e', n', gD, hD', ra, eq⟩
    have yy := y G' H' i g1' st.gh
    have nda := List.nodup_append.mp n'
    by_cases hlt : i < xs.length
    · have hx : xs[i]? = some xs[i] := List.getElem?_eq_getElem hlt
      obtain ⟨go, yd⟩ := yy.1 _ hx
      have hd : xs.drop i = xs[i] :: xs.drop (i + 1) := List.drop_eq_getElem_cons hlt
      rw [hd] at eq
      refine .inr ⟨go, fun H2 => ∃ G2 L2 ρ2 us acc, Ex G1 G2 ∧ Stp G H L G2 H2 ([D] ++ L2) ∧ EnvR K κ G2 H2 ρ2 (wipe σ vs) L2 ∧ ([D] ++ L2).Nodup ∧ G2 D = none ∧ H2 D = some (.lst us) ∧ RpAll K κ G2 us acc ∧ loopC2 vs vs1 g.put it1.ev g1.put e.ev xs (wipeE ρ1 vs) [] = loopC2 vs vs1 g.put it1.ev g1.put e.ev (xs.drop (i + 1)) ρ2 acc, fun H2 z => ⟨xs.length - (i + 1), by omega, rfl, by omega, z⟩, fun v H'' hy => ?_⟩
      obtain ⟨G'', s1, rv⟩ := yd v H'' hy
      have e'' := e'.grow s1
      have st1 : Stp G H L G'' H'' ([D] ++ L') := st.trans s1.grow
      have gD1 : G'' D = none := s1.gn D (by rw [hD']; exact Option.some_ne_none _) (fun z => nomatch z) gD
      have hD1 : H'' D = some (.lst us) := s1.h D _ hD' (fun z => nomatch z) ntL
      have ra1 := ra.mono s1.g
      simp only [loopC2] at eq
      cases hp : g.put xs[i] ρ' with
      | none => rw [hp] at eq; rw [eq] at hnb; exact absurd rfl hnb
      | some ρ2 =>
        rw [hp] at eq
        refine g.ok G'' H'' ρ' ρ2 _ L' v _ _ s1.gh e'' nda.2.1 rv hp fun σ2 L2 e2 n2 s2 k2 => ?_
        have len2 : σ2.length = σ.length := k2.1.trans (wipe_length σ vs)
        have wk : wipe σ2 vs = wipe σ vs := wipe_keep len2 fun j nj => k2.2 j fun z => nj (hv j z)
        refine ⟨wk, ?_⟩
        have st2 : Stp G H L G'' H'' ([D] ++ L2) := st1.sub fun a z => by
          rcases List.mem_append.mp z with z | z
          · exact List.mem_append_left _ z
          · exact List.mem_append_right _ (s2 a z)
        have nD2 : D ∉ L2 := fun z => nda.2.2 D (by simp) D (s2 D z) rfl
        have ndD2 : ([D] ++ L2).Nodup := List.nodup_append.mpr ⟨by simp, n2, fun a x b y z => by
          simp only [List.mem_singleton] at x
          subst x z
          exact nD2 y⟩
        dsimp only at eq
        cases h1 : it1.ev ρ2 with
        | exc c f ρ3 => rw [h1] at eq; rw [eq] at hnb; exact absurd rfl hnb
        | bad => rw [h1] at eq; rw [eq] at hnb; exact absurd rfl hnb
        | ok ys ρ3 =>
          rw [h1] at eq
          dsimp only at eq
          cases h2 : loopC vs1 g1.put yesE e.ev ys (wipeE ρ3 vs1) acc with
          | exc c f ρ4 => rw [h2] at eq; rw [eq] at hnb; exact absurd rfl hnb
          | bad => rw [h2] at eq; rw [eq] at hnb; exact absurd rfl hnb
          | ok acc' ρ4 =>
            rw [h2] at eq
            dsimp only at eq
            refine in_ok (it := it1) (g := g1) (e := e) hv1 (σ := σ2) (L := L2) (D := D) s1.gh e2 ndD2 gD1 hD1 ra1 h1 h2 fun us' G4 H4 L4 s4 e4 n4 gD4 hD4 ra4 => ?_
            obtain ⟨L5, w1, w2, w3⟩ := wipe_ok (vs := vs) e4 (List.nodup_append.mp n4).2.1
            rw [wipe_sub hs, wk] at w1
            refine ⟨G4, L5, wipeE ρ4 vs, us', acc', g1'.trans (s1.g.trans s4.g), (st2.trans s4).sub fun a z => ?_, w1, List.nodup_append.mpr ⟨by simp, w2, fun a x b y z => (List.nodup_append.mp n4).2.2 a x b (w3 b y) z⟩, gD4, hD4, ra4, eq⟩
            rcases List.mem_append.mp z with z | z
            · exact List.mem_append_left _ z
            · exact List.mem_append_right _ (w3 a z)
    · have hi' : i = xs.length := by omega
      subst hi'
      rw [List.drop_length] at eq
      refine .inl ⟨yy.2 (Nat.le_refl _), ?_⟩
      have eq' : loopC2 vs vs1 g.put it1.ev g1.put e.ev xs (wipeE ρ1 vs) [] = .ok acc ρ' := eq
      rw [eq'] at k
      obtain ⟨L2, k1, k2, k3⟩ := unw_ok e' nda.2.1
      refine k acc (unwE ρ' vs) D us G' H' L2 rfl (st.sub fun a z => ?_) k1 (List.nodup_append.mpr ⟨nda.1, k2, fun a x b y => nda.2.2 a x b (k3 b y)⟩) gD hD' ra
      rcases List.mem_append.mp z with z | z
      · exact List.mem_append_left _ z
      · exact List.mem_append_right _ (k3 a z)
theorem evLc2_exc {it : Env → R Env (List D)} {put : D → Env → Option Env} {it1 : Env → R Env (List D)} {put1 : D → Env → Option Env} {e : Env → R Env W} {vs vs1 : List Nat} {ρ ρ' : Env} {c : Nat} {f : Option D} (h : it ρ = .exc c f ρ') : evLc2 it put it1 put1 e vs vs1 ρ = .exc c f ρ' := by
  unfold evLc2
  rw [h]
  rfl
/-- [e for x in xs for y in ys], never changed -/
def eLc2 (it : SI K κ) (g : SG K κ) (it1 : SI K κ) (g1 : SG K κ) (e : SE K κ) (vs vs1 : List Nat) (hv : ∀ i ∈ g.asg, i ∈ vs) (hv1 : ∀ i ∈ g1.asg, i ∈ vs1) (hs : ∀ i ∈ vs1, i ∈ vs) : SE K κ where
  te := fun Wx => tLc2 (it.ti Wx) g.tg tYes (it1.ti W0) g1.tg tYes (e.te W0) vs vs1
  ev := fun ρ => (evLc2 it.ev g.put it1.ev g1.put e.ev vs vs1 ρ).bind fun ys ρ => .ok (.d (.lst ys)) ρ
  ok := fun Wx G H ρ σ L Q hG hE hN p => by
    dsimp only at p
    refine lc2_ok hv hv1 hs hG hE hN (fun c f ρ' h => ?_) (fun h => ?_) fun ys ρ' a us G' H' L' h st en nd ga ha ra => ?_
    · rw [evLc2_exc h] at p; exact p
    · rw [h] at p; exact p
    · rw [h] at p
      have nda := List.nodup_append.mp nd
      have na : ∀ b ∈ L', b ≠ a := fun b z q => nda.2.2 a (by simp) b z q.symm
      refine p (.ref a) (upd G' a (.lst us)) H' [] L' ⟨st.g.trans (Evl.Ex.new ga), st.h, st.t, fun b q n z => ?_, fun b z => st.ln b (List.mem_append_right _ z), fun b o q => ?_, st.tb⟩ (en.keep (Evl.Ex.new ga) (fun b z => ?_) (fun _ _ _ q => q) fun t => t.give fun ps z => by rw [ha] at z; cases z) ⟨rfl, .lst (SqL.of upd_same) (ra.mono (Evl.Ex.new ga))⟩ nda.2.1
      · have : b ≠ a := fun w => by
          subst w
          rcases st.ln b (by simp) with r | r
          · exact n r
          · exact q r
        rw [upd_ne this]; exact st.gn b q n z
      · by_cases w : b = a
        · rw [w, upd_same] at q
          rw [w, ha]; exact q
        · rw [upd_ne w] at q; exact st.gh b o q
      · rw [upd_ne (na b z)]; exact (en.there b z).2
end
end Pv
set_option maxRecDepth 100000
set_option maxHeartbeats 2000000
namespace Pv
open PySem PySem.Spec PyProof.Rows L2
end Pv
set_option maxRecDepth 100000
set_option maxHeartbeats 2000000
namespace Pv
open PySem PySem.Spec PyProof.Rows L2
section
variable {K : PySem.W.Frag} {κ : Cls}
theorem Rp.bl_inv {G : Hp} {v : V} {b : Bool} (r : Rp K κ G v (.bl b)) : v = .bl b := by cases r; rfl
/-- a op b op' c -/
def eChain {r r' : R2} {g g' : D → D → Option D} (h : OpS K κ r g) (h' : OpS K κ r' g') (a b c : SE K κ) : SE K κ where
  te := fun Wx => tChain r r' (a.te Wx) (b.te Wx) (c.te Wx)
  ev := fun ρ => (a.ev ρ).bindD fun x ρ => (b.ev ρ).bindD fun y ρ => match g x y with
    | some (.bl true) => (c.ev ρ).bindD fun z ρ => R.of (g' y z) ρ
    | some (.bl false) => .ok (.d (.bl false)) ρ
    | _ => .bad
  ok := fun Wx G H ρ σ L Q hG hE hN p => a.ok.then hG hE hN p fun x vx ρ1 G1 H1 L1 u1 e1 n1 r1 p => b.ok.then u1.gh e1 n1 p fun y vy ρ2 G2 H2 L2 u2 e2 n2 r2 p => by
    split at p
    · rename_i hz
      refine h G2 H2 vx vy x y _ _ u2.gh (r1.mono u2.g) r2 hz fun v G3 H3 u3 rz => ⟨true, rz.bl_inv, ?_⟩
      rw [if_pos rfl]
      refine c.ok.then (Wx := Wx) u3.gh (e2.grow u3) n2 (p.trans u3.grow) fun z vz ρ4 G4 H4 L4 u4 e4 n4 r4 p => ?_
      obtain ⟨q, hq⟩ := p.some
      exact h' G4 H4 vy vz y z q Q u4.gh ((r2.mono u3.g).mono u4.g) r4 hq fun v5 G5 H5 u5 r5 => p.of hq u5.grow (e4.grow u5) n4 r5
    · rename_i hz
      refine h G2 H2 vx vy x y _ _ u2.gh (r1.mono u2.g) r2 hz fun v G3 H3 u3 rz => ⟨false, rz.bl_inv, ?_⟩
      rw [if_neg (by decide)]
      exact p.ret u3.grow (e2.grow u3) n2 (.bl _)
    · exact p.elim
theorem opLe : OpS K κ (rI0 fun i j => V.bl (decide (i ≤ j))) (gI fun i j => some (.bl (decide (i ≤ j)))) := opI0 (g := fun i j => .bl (decide (i ≤ j))) (f := fun i j => .bl (decide (i ≤ j))) fun _ _ _ => .bl _
/-- x.pop(e), x the name in slot i, a list that it owns -/
def ePopAt (i : Nat) (e : SE K κ) : SE K κ where
  te := fun Wx => tBM K "list" rPopAt (tVar i) (tCons (e.te Wx) tNil)
  ev := fun ρ => match ρ[i]? with
    | some (some (.ml _)) => (e.ev ρ).bindD fun y ρ => match y with
      | .int j => match ρ[i]? with
        | some (some (.ml xs)) => if 0 ≤ j ∧ j < 1000000 then (match xs[j.toNat]? with
          | some x => .ok (.d x) (ρ.set i (some (.ml (xs.eraseIdx j.toNat))))
          | none => .bad) else .bad
        | _ => .bad
      | _ => .bad
    | _ => .bad
  ok := fun Wx G H ρ σ L Q hG hE hN p => by
    dsimp only at p
    split at p
    · rename_i ys h0
      obtain ⟨a, vs, h1, h2, h3, h4, h5, h6, _⟩ := hE.list hG hN h0
      refine ⟨_, h1, .inl ⟨rfl, _, SqL.of h3⟩, e.ok.then hG hE hN p fun y vy ρ1 G1 H1 L1 u1 e1 n1 r1 p => ?_⟩
      cases r1 with
      | int j =>
        dsimp only at p
        split at p
        · rename_i xs h
          split at p
          · rename_i hj
            split at p
            · rename_i x hx
              obtain ⟨a', vs, k1, h2, h3, h4, h5, h6, _⟩ := e1.list u1.gh n1 h
              rw [h1] at k1
              cases k1
              obtain ⟨vx, hvx, rx⟩ := h4.get hx
              obtain ⟨st, en⟩ := h6 (vs.eraseIdx j.toNat) (xs.eraseIdx j.toNat) (h4.eraseIdx _)
              have hl := (List.getElem?_eq_some_iff.mp hvx).1
              exact ⟨a, vs, j, j.toNat, vx, rfl, rfl, h3, by have := hj.1; omega, by have := hj.2; omega, seqIndex_of hj.1 (by omega), hvx, p.ret st en n1 rx⟩
            · exact p.elim
          · exact p.elim
        · exact p.elim
      | _ => exact p.elim
    · exact p.elim
/-- len(s) of a text -/
def gLenS : List D → Option D
  | [.str s] => if s.length ≤ 1000000 then some (.int s.length) else none
  | _ => none
abbrev rLenS : List V → Hp → VK → Prop := fun xs H Q => ∃ z, xs = [.str z] ∧ z.length ≤ sizeLine ∧ Q (.int z.length) H
theorem cbLenS : CbS K κ rLenS gLenS := fun G H vs xs z Q hG r e k => by
  cases r with
  | nil => cases e
  | cons h t =>
    cases t with
    | nil =>
      cases h with
      | str s =>
        simp only [gLenS] at e
        split at e
        · rename_i hl
          cases e
          exact ⟨s, rfl, Nat.le_trans hl (by decide), k _ G H (.refl0 hG) (.int _)⟩
        · cases e
      | _ => cases e
    | cons _ _ =>
      cases h <;> cases e
def eLenS := eCB (K := K) (κ := κ) _ _ cbLenS
end
end Pv
set_option maxRecDepth 100000
set_option maxHeartbeats 2000000
namespace Pv
open PySem PySem.Spec PyProof.Rows L2
section
variable {K : PySem.W.Frag} {κ : Cls}
theorem ePopAt_ev (i : Nat) (e : SE K κ) : (ePopAt (K := K) (κ := κ) i e).ev = fun ρ => match ρ[i]? with
    | some (some (.ml _)) => (e.ev ρ).bindD fun y ρ => match y with
      | .int j => match ρ[i]? with
        | some (some (.ml xs)) => if 0 ≤ j ∧ j < 1000000 then (match xs[j.toNat]? with
          | some x => .ok (.d x) (ρ.set i (some (.ml (xs.eraseIdx j.toNat))))
          | none => .bad) else .bad
        | _ => .bad
      | _ => .bad
    | _ => .bad := rfl
end
end Pv
set_option maxRecDepth 100000
set_option maxHeartbeats 4000000
namespace Pv
open PySem PySem.Spec PyProof.Rows L2
end Pv
set_option maxRecDepth 100000
set_option maxHeartbeats 2000000
namespace Pv
open PySem PySem.Spec PyProof.Rows L2
end Pv
set_option maxRecDepth 100000
set_option maxHeartbeats 2000000
namespace Pv
open PySem PySem.Spec PyProof.Rows L2
end Pv
set_option maxRecDepth 100000
set_option maxHeartbeats 4000000
namespace Pv
open PySem PySem.Spec PyProof.Rows L2
section
variable {K : PySem.W.Frag} {κ : Cls}
/-- -e -/
def eNeg (a : SE K κ) : SE K κ where
  te := fun Wx => tUn (rU fun i => .int (-i)) (a.te Wx)
  ev := fun ρ => (a.ev ρ).bindD fun x ρ => match x with
    | .int i => .ok (.d (.int (-i))) ρ
    | _ => .bad
  ok := fun Wx G H ρ σ L Q hG hE hN p => a.ok.then hG hE hN p fun x vx ρ1 G1 H1 L1 u1 e1 n1 r1 p => by
    cases r1 with
    | int i => exact ⟨i, rfl, p.ret (.refl u1.gh) e1 n1 (.int _)⟩
    | _ => exact p.elim
end
end Pv
set_option maxRecDepth 100000
set_option maxHeartbeats 2000000
namespace Pv
open PySem PySem.Spec PyProof.Rows L2
def tGetK (K : PySem.W.Frag) (a : Addr) (td ty tx : TE) : TE := fun σ H Q => td σ H fun x H1 => x = .ref a ∧ ty σ H1 fun y H2 => tx σ H2 fun z H3 =>
  ∃ s ro vo, y = .str s ∧ PySem.W.nsIn K a s = some ro ∧ (match (vo : Option V), ro with
    | some v, some u => RelV v u
    | none, none => True
    | _, _ => False) ∧ Q (vo.getD z) H3
theorem pe_getK {X : Cx} {o e f : Expr} {td ty tx : TE} {apos cpos : Pos} {a : Addr} {es : Array DictEntry} {n : Nat} (D : KDict X.K X.w a es n) (ho : PE X o td) (he : PE X e ty) (hf : PE X f tx) (m : M2 X o "get" apos e f cpos) :
    PE X (.Call (.Attribute o "get" apos) [e, f] [] cpos) (tGetK X.K a td ty tx) := by
  refine ⟨fun pins s σ H Q I h => ?_⟩
  refine wpAny_Call_method m.base m.few m.line PySem.F.plainAttrs_dict PySem.F.slot_dict_get PySem.F.type_dict_get (thn (ho.run pins s σ H _ I h) fun u s1 ⟨x, H1, I1, rx, ex, q1⟩ => ?_)
  subst ex
  obtain rfl : u = Value.ref a := rx
  refine ⟨kd_type D I1, fun b q => ?_, ?_⟩
  · cases q
    exact ⟨_, I1.kIn _ _ D.at_, rfl⟩
  rw [m.trees]
  refine Calls.callWith_builtin rfl (Calls.evalArgs_plain (Calls.spliced_cons (thn (he.run pins s1 σ H1 _ I1 q1) fun iv s2 ⟨y, H2, I2, ry, q2⟩ =>
    Calls.spliced_cons (thn (hf.run pins s2 σ H2 _ I2 q2) fun fv s3 ⟨z, H3, I3, rz, s, ro, vo, ey, en, hv, q3⟩ => Calls.spliced_nil ?_))))
  subst ey
  obtain ⟨t, rfl⟩ := ry
  refine call_meetsIn PySem.F.slot_dict_get (kd_type D I3) PySem.F.entry_dict_get (PySem.F.args_dict_get_3 _ _ _) (meets_dict_get_default (strKind X.prog X.w) a (PySem.strKind_is X.prog X.w s t) D.low fv) ⟨_, PySem.W.mapOf_K (prog := X.prog) I3.kIn D.at_ D.lit, ?_⟩
  rw [PySem.W.find_K D.at_ en]
  refine ⟨vo.getD z, H3, I3.tok _, ?_, q3⟩
  cases vo with
  | none => cases ro with
    | none => exact rz
    | some u => exact hv.elim
  | some v => cases ro with
    | none => exact hv.elim
    | some u => exact hv
section
variable {K : PySem.W.Frag} {κ : Cls}
/-- what is known of a written dict's values -/
def KVals (K : PySem.W.Frag) (a : Addr) (lk : Str → Option (Option Int)) : Prop := ∀ s r, lk s = some r → ∃ ro, PySem.W.nsIn K a s = some ro ∧ match r, ro with
  | some i, some u => ∃ t, u = .int i t
  | none, none => True
  | _, _ => False
/-- by a list of keys and numbers; all other keys: none -/
def lkOf (kvs : List (Str × Int)) : Str → Option (Option Int) := fun s => some ((kvs.find? fun p => p.1 == s).map (·.2))
def entE (e : Int × Str × Tok × Int × Tok) : DictEntry := ⟨e.1, .str e.2.1 e.2.2.1, .int e.2.2.2.1 e.2.2.2.2⟩
theorem ent_find (s : Str) : ∀ l : List (Int × Str × Tok × Int × Tok), match (l.map entE).find? (·.key.isStr s), (l.map fun e => (e.2.1, e.2.2.2.1)).find? fun p => p.1 == s with
    | some u, some q => ∃ t, u.val = .int q.2 t
    | none, none => True
    | _, _ => False
  | [] => trivial
  | e :: l => by
    have ih := ent_find s l
    rw [List.map_cons, List.map_cons, List.find?_cons, List.find?_cons]
    have q : (entE e).key.isStr s = (e.2.1 == s) := rfl
    rw [q]
    cases h : e.2.1 == s with
    | true => exact ⟨_, rfl⟩
    | false => simpa [h] using ih
theorem ent_ref : ∀ l : List (Int × Str × Tok × Int × Tok), (l.map entE).any (·.refKey) = false
  | [] => rfl
  | e :: l => by rw [List.map_cons, List.any_cons, ent_ref l]; rfl
theorem kvals_of {a : Addr} {n : Nat} {l : List (Int × Str × Tok × Int × Tok)} (h : K.lookup a = some ⟨.type "dict", none, .dict (l.map entE).toArray n, #[]⟩) : KVals K a (lkOf (l.map fun e => (e.2.1, e.2.2.2.1))) := by
  intro s r e
  cases e
  have f := ent_find s l
  unfold PySem.W.nsIn
  rw [h]
  dsimp only
  cases h1 : (l.map entE).find? (·.key.isStr s) with
  | some u =>
    rw [h1] at f
    cases h2 : (l.map fun e => (e.2.1, e.2.2.2.1)).find? fun p => p.1 == s with
    | some q =>
      rw [h2] at f
      obtain ⟨t, ht⟩ := f
      exact ⟨some u.val, rfl, t, ht⟩
    | none => rw [h2] at f; exact f.elim
  | none =>
    rw [h1] at f
    rw [ent_ref l]
    cases h2 : (l.map fun e => (e.2.1, e.2.2.2.1)).find? fun p => p.1 == s with
    | some q => rw [h2] at f; exact f.elim
    | none => exact ⟨none, rfl, trivial⟩
theorem kd_of {w : World} {a : Addr} {n : Nat} : ∀ {l : List (Int × Str × Tok × Int × Tok)}, (∀ e ∈ l, e.1 = PyData.keyHash w.params e.2.1) → PySem.W.KeysLit w.params (l.map entE)
  | [], _ => trivial
  | e :: l, h => ⟨⟨_, _, rfl, h e (List.mem_cons_self ..)⟩, kd_of (a := a) (n := n) fun e' he => h e' (List.mem_cons_of_mem _ he)⟩
def eGetK (a : Addr) (lk : Str → Option (Option Int)) (hl : KVals K a lk) (k e : SE K κ) : SE K κ where
  te := fun Wx => tGetK K a (tC (.ref a)) (k.te Wx) (e.te Wx)
  ev := fun ρ => (k.ev ρ).bindD fun y ρ => (e.ev ρ).bindD fun z ρ => match y with
    | .str s => match lk s with
      | some r => .ok (.d (match r with | some i => .int i | none => z)) ρ
      | none => .bad
    | _ => .bad
  ok := fun Wx G H ρ σ L Q hG hE hN p => by
    refine ⟨rfl, k.ok.then hG hE hN p fun y vy ρ2 G2 H2 L2 u2 e2 n2 r2 p => e.ok.then u2.gh e2 n2 p fun z vz ρ3 G3 H3 L3 u3 e3 n3 r3 p => ?_⟩
    cases r2 with
    | str s =>
      dsimp only at p
      cases h : lk s with
      | none => rw [h] at p; exact p.elim
      | some r =>
        rw [h] at p
        obtain ⟨ro, h1, h2⟩ := hl s r h
        cases r with
        | none =>
          cases ro with
          | none => exact ⟨s, none, none, rfl, h1, trivial, p.ret (.refl u3.gh) e3 n3 r3⟩
          | some u => exact h2.elim
        | some i =>
          cases ro with
          | none => exact h2.elim
          | some u =>
            obtain ⟨t, rfl⟩ := h2
            exact ⟨s, some _, some (.int i), rfl, h1, ⟨t, rfl⟩, p.ret (.refl u3.gh) e3 n3 (.int i)⟩
    | _ => exact p.elim
def eCallD (f : Fn) (a b : SE K κ) : SE K κ where
  te := fun Wx => tCallS (spF K κ 3 f) (WE Wx) (tCons (a.te Wx) (tCons (b.te Wx) (tCons tDNewK tNil)))
  ev := fun ρ => (a.ev ρ).bindD fun x ρ => (b.ev ρ).bindD fun y ρ => match f [.d x, .d y, .md []] with
    | .ok w _ => .ok w ρ
    | .exc k z _ => .exc k z ρ
    | .bad => .bad
  ok := fun Wx G H ρ σ L Q hG hE hN p => a.ok.then hG hE hN p fun x vx ρ1 G1 H1 L1 u1 e1 n1 r1 p => b.ok.then u1.gh e1 n1 p fun y vy ρ2 G2 H2 L2 u2 e2 n2 r2 p => fun q hq => by
    have gq := fresh u2.gh hq
    have own := Stp.own (L := L2) (o := .dK []) u2.gh hq
    have e3 : EnvR K κ G2 (upd H2 q (.dK [])) ρ2 σ L2 := e2.ownNew hq
    have nd3 := own_nodup hq e2 n2
    have ndb := List.nodup_append.mp nd3
    have dj : ∀ a ∈ L2, a ∉ [q] := fun a z w => ndb.2.2 a w a z rfl
    refine ⟨G2, [q], [.d x, .d y, .md []], rfl, own.gh, ⟨[], [q], rfl, ⟨rfl, r1.mono u2.g⟩, [], [q], rfl, ⟨rfl, r2⟩, [q], [], rfl, ⟨q, [], rfl, rfl, gq, upd_same, trivial⟩, rfl⟩, by simp, e3.tb, ?_⟩
    have mT : ∀ P ∈ κ.tabs, P ∉ [q] := fun P hP z => by
      obtain ⟨⟨ps, w, _⟩, _⟩ := e3.tb P hP
      rw [List.mem_singleton.mp z, upd_same] at w
      cases w
    cases hf : f [.d x, .d y, .md []] with
    | ok w ws' =>
      rw [hf] at p
      intro v G' H' Lw M u r rw' nd
      have h2' := e3.stp u dj mT
      have ndw := List.nodup_append.mp nd
      have out : ∀ a ∈ Lw ++ M, a ∉ L2 := fun a z w => by
        rcases u.ln a z with t | t
        · exact ndb.2.2 a t a w rfl
        · exact (e3.there a w).1 t
      refine p v G' H' Lw L2 (own.trans (u.wide (fun a z => List.mem_append_left _ z) fun a z => ?_)) h2' rw' (List.nodup_append.mpr ⟨ndw.1, n2, fun a x b y e => ?_⟩)
      · rcases List.mem_append.mp z with z | z
        · exact .inl (List.mem_append_left _ z)
        · exact .inr (List.mem_append_right _ z)
      · subst e
        exact out a (List.mem_append_left _ x) y
    | exc k z ws' =>
      rw [hf] at p
      intro dd G' H' M u r nd hx
      have h2' := e3.stp u dj mT
      exact p dd G' H' L2 (own.trans (u.wide (fun a z => List.mem_append_left _ z) fun a z => .inr (List.mem_append_right _ z))) h2' n2 hx
    | bad => rw [hf] at p; exact p.elim
end
end Pv
set_option maxRecDepth 100000
set_option maxHeartbeats 2000000
namespace PvM
open PySem PySem.Spec PyProof.Rows L2
theorem max_intTup {prog : Program} {w : World} {A : Around} {E : Value → Shared → Prop} {s : Shared} {l : Addr} {xs : Array (Int × Tok)} {Q : Value → Shared → Prop} (hh : A.handled = none) (hl : s.heap.IsTuple l (intItems xs)) (hne : 0 < xs.size)
    (h : ∀ v h' tk, (intItems xs)[argBest (fun i j => decide (numAt xs i > numAt xs j)) (xs.size - 1)]? = some v → (∀ b o, s.heap.get? b = some o → h'.get? b = some o) → Q v { s with heap := h', toks := tk }) :
    wpAny (model prog w) A (call (.builtin "max") [.ref l]) Q E s := by
  have hlt : l < s.heap.objs.size := by obtain ⟨_, e, _⟩ := hl; exact Heap.lt_size e
  refine call_max_walk (wpAny_pyIter_tuple hl ?_)
  refine ⟨_, [s.heap.objs.size, l], [s.heap.objs.size], _, _, _, _, rfl, Walks.tuple (A := A.in1) hh _ l (Nat.ne_of_lt hlt) (intItems xs), ⟨⟨_, Heap.get?_push_size _ rfl, rfl, rfl⟩, hl.push _⟩, fun b hb => ?_, by simpa [intItems] using hne, CmpOf.ints_gt (numAt xs) (fun _ _ => intItems_at), fun v h' tk hP hk => ?_⟩
  · show b < (s.heap.push _).objs.size
    rw [Heap.size_push]
    rcases List.mem_cons.mp hb with rfl | hb
    · exact Nat.lt_succ_self _
    · rcases List.mem_cons.mp hb with rfl | hb
      · exact Nat.lt_succ_of_lt hlt
      · cases hb
  · refine h v h' tk (by simpa [intItems] using hP) fun b o e => hk b o (fun hm => ?_) (Heap.get?_push_of_some _ e)
    rcases List.mem_cons.mp hm with e1 | hm
    · exact absurd (e1 ▸ Heap.lt_size e) (Nat.lt_irrefl _)
    · cases hm
def rMaxT (K : PySem.W.Frag) : List V → Hp → VK → Prop := fun vs H Q => ∃ (a : Addr) (ns : List Int), vs = [V.ref a] ∧ SqT K H a (ns.map V.int) ∧ 0 < ns.length ∧ ∀ m, m ∈ ns → (∀ y, y ∈ ns → y ≤ m) → Q (.int m) H
theorem cr_maxT {X : Cx} (hc : X.calm = true) : CallR X (.builtin "max") (rMaxT X.K) := by
  intro pins s σ H vs us Q I r h
  obtain ⟨a, ns, rfl, hs, hne, q⟩ := h
  obtain ⟨its, rv, hl, _⟩ := I.tuple hs
  rw [Vals.ref1 r]
  have hi := rv.ints
  obtain ⟨xs, e⟩ := hi.allInts.items
  have hn : numsOf (intItems xs).toList = ns := by rw [← e]; exact hi.numsOf
  rw [nums_intItems] at hn
  subst hn
  rw [e] at hl
  have hsz : 0 < xs.size := by simpa using hne
  refine max_intTup (I.ok.hd hc) hl hsz fun v h' tk hv hk => ?_
  obtain ⟨t, rfl⟩ := intItems_at hv
  obtain ⟨h1, h2⟩ := argBest_gt (numAt xs) (xs.size - 1)
  refine ⟨.int _, H, I.kept hk, ⟨_, rfl⟩, q _ ?_ fun a ha => ?_⟩
  · rw [numAt_eq]; exact PySem.getD_mem (by rw [List.length_map, Array.length_toList]; omega)
  · obtain ⟨j, hj, rfl⟩ := mem_getD ha
    rw [List.length_map, Array.length_toList] at hj
    rw [← numAt_eq]; exact h2 j (by omega)
end PvM
namespace Pv
open PySem PySem.Spec PyProof.Rows L2
section
variable {K : PySem.W.Frag} {κ : Cls}
def eTopT (a : SE K κ) : SE K κ where
  te := fun Wx => tCB (PvM.rMaxT K) (tCons (a.te Wx) tNil)
  ev := fun ρ => (a.ev ρ).bindD fun x ρ => match x with
    | .tupW xs => match numsOf xs with
      | some (n :: ns) => .ok (.d (.int (topI n ns))) ρ
      | _ => .bad
    | _ => .bad
  ok := fun Wx G H ρ σ L Q hG hE hN p => a.ok.then hG hE hN p fun x vx ρ1 G1 H1 L1 u1 e1 n1 r1 p => by
    cases r1 with
    | @tupW a1 us xs hs ra =>
      dsimp only at p
      split at p
      · rename_i n ns hn
        have ev := numsOf_ok ra hn
        subst ev
        refine ⟨a1, _, rfl, ex_t u1.gh hs, by simp, fun m hm hy => ?_⟩
        obtain ⟨s1, s2, s3⟩ := topI_spec ns n
        have e : m = topI n ns := by
          have a1 : topI n ns ≤ m := by
            rcases s1 with z | z
            · rw [z]; exact hy n (by simp)
            · exact hy _ (by simp [z])
          have a2 : m ≤ topI n ns := by
            rcases List.mem_cons.mp hm with rfl | z
            · exact s2
            · exact s3 m z
          omega
        subst e
        exact p.ret (.refl u1.gh) e1 n1 (.int _)
      · exact p.elim
    | _ => exact p.elim
def signsV (x : Str) : List V := x.cps.toList.map fun c => V.str ⟨#[c]⟩
def signsD (x : Str) : List D := x.cps.toList.map fun c => D.str ⟨#[c]⟩
theorem signs_rp (G : Hp) (x : Str) : RpAll K κ G (signsV x) (signsD x) := by
  unfold signsV signsD
  induction x.cps.toList with
  | nil => exact .nil
  | cons c cs ih => exact .cons (.str _) ih
def rLstS : List V → Hp → VK → Prop := fun xs H Q => ∃ x : Str, xs = [.str x] ∧ x.cps.size ≤ sizeLine ∧ ∀ q, H q = none → Q (.ref q) (upd H q (.lst (signsV x)))
theorem cr_listS {X : Cx} (hc : X.calm = true) : CallR X (.type "list") rLstS := by
  intro pins s σ H vs us Q I r h
  obtain ⟨x, rfl, hz, q⟩ := h
  obtain ⟨u, rfl, rx⟩ := vals1 r
  obtain ⟨t, rfl⟩ := rx
  refine call_list_str (I.ok.hd hc) x t (hn := hz) fun h' tk acc' c' hk hS' hacc => ?_
  have rv : Vals (signsV x) acc'.toList := by
    have hl : acc'.toList.length = (signsV x).length := by simp [signsV, hacc.1]
    refine vals_of_idx _ _ hl fun j v hv => ?_
    obtain ⟨c, u, hcj, rfl⟩ := hacc.2 j v (by simpa using hv)
    exact ⟨.str ⟨#[c]⟩, by simp [signsV, hcj], u, rfl⟩
  refine ⟨.ref s.heap.objs.size, _, I.laid (t' := tk) hk (Nat.le_refl _) (show ObjOk X.prog X.w _ h' _ (.lst (signsV x)) from ⟨by simpa [signsV] using hz, acc'.toList, c', rv, by simpa using hS'⟩), rfl, q _ (I.hok.fresh (Nat.le_refl _))⟩
variable {G H : Hp}
theorem EnvR.snoc {w : W} {v : V} {M : List Addr} (rw' : Rw K κ G H w v M) : ∀ {ρ : Env} {σ : St} {L : List Addr}, EnvR K κ G H ρ σ L → EnvR K κ G H (ρ ++ [some w]) (σ ++ [some v]) (L ++ M)
  | [], [], L, r => by
    have e : L = [] := r.1
    subst e
    exact ⟨M, [], by simp, rw', rfl, r.2⟩
  | none :: ρ, _ :: σ, L, r => EnvR.snoc rw' (ρ := ρ) (σ := σ) r
  | some w1 :: ρ, some v1 :: σ, _, ⟨L1, L2, e, h, q⟩ => ⟨L1, L2 ++ M, by rw [e, List.append_assoc], h, EnvR.snoc rw' q⟩
theorem EnvR.unsnoc {o : Option V} : ∀ {ρ : Env} {σ : St} {L : List Addr}, EnvR K κ G H ρ (σ ++ [o]) L → ∃ L1 M, L = L1 ++ M ∧ EnvR K κ G H (ρ.take σ.length) σ L1
  | [], [], L, r => by cases o <;> exact r.elim
  | none :: ρ, [], L, r => ⟨[], L, rfl, rfl, EnvR.tb r⟩
  | some w :: ρ, [], L, r => ⟨[], L, rfl, rfl, EnvR.tb r⟩
  | [], _ :: σ, L, r => by
    rename_i x
    cases x <;> exact r.elim
  | none :: ρ, x :: σ, L, r => by
    have r' : EnvR K κ G H ρ (σ ++ [o]) L := r
    obtain ⟨L1, M, e, q⟩ := EnvR.unsnoc r'
    exact ⟨L1, M, e, q⟩
  | some w1 :: ρ, none :: σ, L, r => r.elim
  | some w1 :: ρ, some v1 :: σ, L, r => by
    obtain ⟨A, B, e, h, q⟩ := (show ∃ L1 L2, L = L1 ++ L2 ∧ Rw K κ G H w1 v1 L1 ∧ EnvR K κ G H ρ (σ ++ [o]) L2 from r)
    obtain ⟨L1, M, e1, q1⟩ := EnvR.unsnoc q
    exact ⟨A ++ L1, M, by rw [e, e1, List.append_assoc], A, L1, rfl, h, q1⟩
def cutB (n : Nat) : R Env W → R Env W
  | .ok w ρ => .ok w (ρ.take n)
  | .exc k z ρ => .exc k z (ρ.take n)
  | .bad => .bad
/-- f(x, a, list(text), n): x slot i's own thing, n a number -/
def eCallL (f : Fn) (i : Nat) (a : SE K κ) (s : Str) (n : Int) : SE K κ where
  te := fun Wx => tCallS (spF K κ 4 f) (WE Wx) (tCons (tVar i) (tCons (a.te Wx) (tCons (tCB rLstS (tCons (tC (.str s)) tNil)) (tCons (tC (.int n)) tNil))))
  ev := fun ρ => if s.cps.size ≤ 1000 then match ρ[i]? with
    | some (some (.ml _)) => (a.ev ρ).bindD fun x ρ => cutB ρ.length (callOn f [.m i, .a x, .m ρ.length, .a (.int n)] (ρ ++ [some (.ml (signsD s))]))
    | _ => .bad else .bad
  ok := fun Wx G H ρ σ L Q hG hE hN p => by
    dsimp only at p
    split at p
    rotate_left
    · exact p.elim
    rename_i hz
    split at p
    · rename_i xs h0
      obtain ⟨a0, vs0, h1, h2, h3, h4, h5, _⟩ := hE.list hG hN h0
      refine ⟨_, h1, a.ok.then hG hE hN p fun x vx ρ1 G1 H1 L1 u1 e1 n1 r1 p => ⟨s, rfl, Nat.le_trans hz (by decide), fun q hq => ?_⟩⟩
      have hlen := e1.length
      have own := Stp.own (L := L1) (o := .lst (signsV s)) u1.gh hq
      have own' : Stp G1 H1 L1 G1 (upd H1 q (.lst (signsV s))) (L1 ++ [q]) := { own with ln := fun b z => own.ln b (by simp only [List.mem_append] at z ⊢; exact z.symm) }
      have e2 : EnvR K κ G1 (upd H1 q (.lst (signsV s))) (ρ1 ++ [some (.ml (signsD s))]) (σ ++ [some (.ref q)]) (L1 ++ [q]) :=
        EnvR.snoc (K := K) (κ := κ) (G := G1) (H := upd H1 q (.lst (signsV s))) (w := .ml (signsD s)) (v := .ref q) (M := [q]) ⟨q, signsV s, rfl, rfl, fresh u1.gh hq, upd_same, signs_rp _ s⟩ (e1.ownNew hq)
      have nd0 := own_nodup hq e1 n1
      have nd2 : (L1 ++ [q]).Nodup := by
        have := List.nodup_append.mp nd0
        exact List.nodup_append.mpr ⟨this.2.1, this.1, fun b hb c hc e => this.2.2 c hc b hb e.symm⟩
      have hi : i < σ.length := (List.getElem?_eq_some_iff.mp h1).1
      have ha : ArgsR K κ (σ ++ [some (.ref q)]) G1 [.m i, .a x, .m ρ1.length, .a (.int n)] [.ref a0, vx, .ref q, .int n] := by
        refine ⟨?_, r1, ?_, .int n, trivial⟩
        · rw [List.getElem?_append_left hi]; exact h1
        · rw [hlen]; simp
      refine call_ok (Wx := fun e d _ H => Wx e d σ H) (σ := σ ++ [some (.ref q)]) (as := [.m i, .a x, .m ρ1.length, .a (.int n)]) own'.gh e2 nd2 ha rfl ?_
      rw [hlen] at p ⊢
      cases hc : callOn f [.m i, .a x, .m σ.length, .a (.int n)] (ρ1 ++ [some (.ml (signsD s))]) with
      | bad => rw [hc] at p; exact p.elim
      | ok w ρ3 =>
        rw [hc] at p
        intro v G' H' Lw L' st en rw' nd
        obtain ⟨La, M, rfl, q1⟩ := en.unsnoc
        have st' := own'.trans st
        refine p v G' H' Lw La { st' with ln := fun b z => st'.ln b (by simp only [List.mem_append] at z ⊢; rcases z with z | z <;> simp [z]) } q1 rw' (nd.sublist (by rw [← List.append_assoc]; exact List.sublist_append_left _ _))
      | exc k z ρ3 =>
        rw [hc] at p
        intro dd G' H' L' st en nd hx
        obtain ⟨La, M, rfl, q1⟩ := en.unsnoc
        have st' := own'.trans st
        exact p dd G' H' La { st' with ln := fun b z => st'.ln b (by simp only [List.mem_append] at z ⊢; simp [z]) } q1 (nd.sublist (List.sublist_append_left _ _)) hx
    · exact p.elim
end
end Pv
set_option maxRecDepth 100000
set_option maxHeartbeats 2000000
namespace PvZ
open PySem PySem.Spec PyProof.Rows L2
section
variable {prog : Program} {w : World} {A : Around} {E : Value → Shared → Prop} {s : Shared}
/-- zip's record: v tells what was handed out, f whether it is known to be out -/
abbrev Rec (h : Heap) (z TI TO : Addr) (v : Value) (f : Bool) : Prop :=
  h.get? z = some ⟨.type "zip", none, .fields #[v, .bool f, .bool false, .ref TI, .ref TO], #[]⟩
def Free (prog : Program) (w : World) (A : Around) (E : Value → Shared → Prop) (z : Addr) (s : Shared) : Prop :=
  ∀ Q : Bool → Shared → Prop, Q true s → wpAny (model prog w) A (Builtin.SmallTypes.ownedTupleIsFree (.ref z)) Q E s
theorem not_there {c : Addr} {Q : Option Obj → Shared → Prop} (hc : s.heap.get? c = none) (h : Q none s) : wpAny (model prog w) A (loadIfAlive c) Q E s := by
  rw [← hc] at h
  exact fun _ _ _ => h
theorem free_gone {z TI TO T : Addr} {f : Bool} (hz : Rec s.heap z TI TO (rawInt T) f) (hT : s.heap.get? T = none) : Free prog w A E z s := fun Q h => by
  unfold Builtin.SmallTypes.ownedTupleIsFree
  refine wpAny_bind (wpAny_field hz rfl (x := rawInt T) rfl ?_)
  refine wpAny_bind (not_there (c := (T : Int).toNat) (by rw [Int.toNat_natCast]; exact hT) ?_)
  exact wpAny_pure h
/-- what a zip of two lists stands on -/
structure On (h : Heap) (z TI TO i1 i2 l1 l2 : Addr) (k1 k2 : Nat) (xs ys : Array Value) : Prop where
  ti : IsPair h TI (.ref i1) (.ref i2)
  to : ∃ u v, IsPair h TO u v
  it1 : h.IsListIter i1 l1 k1
  it2 : h.IsListIter i2 l2 k2
  ls1 : h.IsList l1 xs
  ls2 : h.IsList l2 ys
/-- all that stands outside of zip's own things is kept -/
def Kept (z TO i1 i2 : Addr) (h h' : Heap) : Prop := ∀ c o, c ≠ z → c ≠ TO → c ≠ i1 → c ≠ i2 → h.get? c = some o → h'.get? c = some o
theorem item_free {z TI TO i1 i2 l1 l2 : Addr} {k1 k2 : Nat} {xs ys : Array Value} {x y v : Value} {f : Bool} {Q : Value → Shared → Prop} (D : ZipApart z TI TO i1 i2 l1 l2) (hz : Rec s.heap z TI TO v f) (hf : Free prog w A E z s)
    (S : On s.heap z TI TO i1 i2 l1 l2 k1 k2 xs ys) (hx : xs[k1]? = some x) (hy : ys[k2]? = some y)
    (hQ : ∀ h', Rec h' z TI TO (rawInt s.heap.objs.size) false → IsPair h' TO x y → h'.IsListIter i1 l1 (k1 + 1) → h'.IsListIter i2 l2 (k2 + 1) → IsPair h' s.heap.objs.size x y → Kept z TO i1 i2 s.heap h' → Q (.ref s.heap.objs.size) { s with heap := h' }) :
    wpAny (model prog w) A (Builtin.«zip.__next__» ⟨[.ref z], []⟩) (fun fin s' => ∃ v, fin = .done (.ret v) ∧ Q v s') E s := by
  obtain ⟨hTI, ⟨u, v', hTO⟩, h1, h2, hl1, hl2⟩ := S
  show wpAny _ _ (field (.ref z) 2 >>= _) _ _ _
  refine wpAny_bind (wpAny_field hz rfl (x := .bool false) rfl (?_ : wpAny _ _ (field (.ref z) 3 >>= _) _ _ _))
  refine wpAny_bind (wpAny_field hz rfl (x := .ref TI) rfl (wpAny_bind (wpAny_seqItems hTI rfl ?_)))
  refine (?_ : wpAny _ _ (Builtin.SmallTypes.ownedTupleIsFree (.ref z) >>= _) _ _ _)
  refine wpAny_bind (hf _ ?_)
  simp only [if_true]
  refine wpAny_bind (wpAny_rule (wpAny_bind (wpAny_field hz rfl (x := .ref TO) rfl (wpAny_bind (wpAny_setField_rec hz (by simp) fun ha za ka => ?_)))))
  have za : Rec ha z TI TO .ellipsis f := za
  refine wpAny_bind ?_
  simp only [List.zipIdx_cons, List.zipIdx_nil, List.forIn_cons, List.forIn_nil]
  -- the first list's turn
  refine wpAny_bind (wpAny_bind (wpAny_onRaise (?_ : wpAny _ _ (Builtin.SmallTypes.nextOf (.ref i1) >>= _) _ _ _)))
  refine wpAny_bind (wpAny_nextOf_list_item (h1.extBut ka.extBut D.i1z) (hl1.extBut ka.extBut D.l1z) hx fun hb pb kb => wpAny_pure ?_)
  have tb : IsPair hb TO u v' := kb.extBut _ _ D.TOi1 (ka.extBut _ _ D.TOz hTO)
  refine wpAny_bind (wpAny_seqItems tb rfl (wpAny_bind (wpAny_updateSeq_pair tb fun hc tc kc => ?_)))
  have tc : IsPair hc TO x v' := tc
  have q2 := ((h2.extBut ka.extBut D.i2z).extBut kb.extBut D.i12.symm).extBut kc.extBut D.TOi2.symm
  have w2 := ((hl2.extBut ka.extBut D.l2z).extBut kb.extBut D.l2i1).extBut kc.extBut D.l2TO
  -- the second one's
  refine wpAny_bind (wpAny_letGo (wpAny_pure (wpAny_bind (wpAny_bind (wpAny_onRaise (?_ : wpAny _ _ (Builtin.SmallTypes.nextOf (.ref i2) >>= _) _ _ _))))))
  refine wpAny_bind (wpAny_nextOf_list_item q2 w2 hy fun hd pd kd => wpAny_pure ?_)
  have td : IsPair hd TO x v' := kd.extBut _ _ D.TOi2 tc
  refine wpAny_bind (wpAny_seqItems td rfl (wpAny_bind (wpAny_updateSeq_pair td fun he te ke => ?_)))
  have te : IsPair he TO x y := te
  refine wpAny_bind (wpAny_letGo (wpAny_pure (wpAny_pure (wpAny_bind (wpAny_seqItems te rfl (wpAny_bind (wpAny_newTuple ?_)))))))
  have sz : he.objs.size = s.heap.objs.size := by rw [ke.1, kd.1, kc.1, kb.1, ka.1]
  have ze : Rec he z TI TO .ellipsis f := ke.extBut _ _ D.TOz.symm (kd.extBut _ _ D.i2z.symm (kc.extBut _ _ D.TOz.symm (kb.extBut _ _ D.i1z.symm za)))
  have all : Kept z TO i1 i2 s.heap he := fun c o n1 n2 n3 n4 e => ke.extBut _ _ n2 (kd.extBut _ _ n4 (kc.extBut _ _ n2 (kb.extBut _ _ n3 (ka.extBut _ _ n1 e))))
  have e1 : he.IsListIter i1 l1 (k1 + 1) := ((pb.extBut kc.extBut D.TOi1.symm).extBut kd.extBut D.i12).extBut ke.extBut D.TOi1.symm
  have e2 : he.IsListIter i2 l2 (k2 + 1) := pd.extBut ke.extBut D.TOi2.symm
  refine (?_ : wpAny _ _ (Builtin.SmallTypes.ownedTupleHandOut (.ref z) (.ref he.objs.size) >>= _) _ _ _)
  unfold Builtin.SmallTypes.ownedTupleHandOut
  have zg : Rec (he.push ⟨.type "tuple", none, .seq #[x, y], #[]⟩) z TI TO .ellipsis f := Heap.get?_push_of_some _ ze
  refine wpAny_bind (wpAny_bind (wpAny_setField_rec zg (by simp) fun hm zm km => ?_))
  have zm : Rec hm z TI TO (rawInt he.objs.size) f := zm
  refine wpAny_setField_rec zm (by simp) fun hn zn kn => wpAny_pure ⟨_, rfl, ?_⟩
  have up : ∀ c o, c ≠ z → he.get? c = some o → hn.get? c = some o := fun c o n e => kn.extBut _ _ n (km.extBut _ _ n (Heap.get?_push_of_some _ e))
  have zl : he.objs.size ≠ z := Nat.ne_of_gt (Heap.lt_size ze)
  have tn : IsPair hn he.objs.size x y := kn.extBut _ _ zl (km.extBut _ _ zl (Heap.get?_push_size _ rfl))
  refine (?_ : Q (.ref he.objs.size) _)
  rw [sz] at zn tn ⊢
  exact hQ hn zn (up _ _ D.TOz te) (e1.at fun o e => up _ o D.i1z e) (e2.at fun o e => up _ o D.i2z e) tn fun c o n1 n2 n3 n4 e => up c o n1 (all c o n1 n2 n3 n4 e)
theorem end_free {z TI TO i1 i2 l1 l2 : Addr} {k1 k2 : Nat} {xs ys : Array Value} {v : Value} {f : Bool} {Q : Fin → Shared → Prop} (hh : A.handled = none) (D : ZipApart z TI TO i1 i2 l1 l2) (hz : Rec s.heap z TI TO v f) (hf : Free prog w A E z s)
    (S : On s.heap z TI TO i1 i2 l1 l2 k1 k2 xs ys) (hend : xs[k1]? = none ∨ ys[k2]? = none)
    (hE : ∀ h' e, Kept z TO i1 i2 s.heap h' → (∃ o, h'.get? e = some o ∧ o.cls = .type "StopIteration") → E (.ref e) { s with heap := h' }) :
    wpAny (model prog w) A (Builtin.«zip.__next__» ⟨[.ref z], []⟩) Q E s := by
  obtain ⟨hTI, ⟨u, v', hTO⟩, h1, h2, hl1, hl2⟩ := S
  show wpAny _ _ (field (.ref z) 2 >>= _) _ _ _
  refine wpAny_bind (wpAny_field hz rfl (x := .bool false) rfl (?_ : wpAny _ _ (field (.ref z) 3 >>= _) _ _ _))
  refine wpAny_bind (wpAny_field hz rfl (x := .ref TI) rfl (wpAny_bind (wpAny_seqItems hTI rfl ?_)))
  refine (?_ : wpAny _ _ (Builtin.SmallTypes.ownedTupleIsFree (.ref z) >>= _) _ _ _)
  refine wpAny_bind (hf _ ?_)
  simp only [if_true]
  refine wpAny_bind (wpAny_rule (wpAny_bind (wpAny_field hz rfl (x := .ref TO) rfl (wpAny_bind (wpAny_setField_rec hz (by simp) fun ha za ka => ?_)))))
  have za : Rec ha z TI TO .ellipsis f := za
  refine wpAny_bind ?_
  simp only [List.zipIdx_cons, List.zipIdx_nil, List.forIn_cons, List.forIn_nil]
  -- what is done with the error: zip's record, and it goes on
  have fin : ∀ (h' : Heap) (e : Addr), Rec h' z TI TO .ellipsis f → Kept z TO i1 i2 s.heap h' → (∃ o, h'.get? e = some o ∧ o.cls = .type "StopIteration") → wpAny (model prog w) A (setField (.ref z) 0 .none) (fun _ s' => E (.ref e) s') E { s with heap := h' } := fun h' e r k ⟨o, ho, hc⟩ => by
    have ne : e ≠ z := fun q => by
      subst q
      rw [r] at ho
      cases ho
      simp at hc
    exact wpAny_setField_rec r (by simp) fun h'' _ kk => hE h'' e (fun c o n1 n2 n3 n4 q => kk.extBut _ _ n1 (k c o n1 n2 n3 n4 q)) ⟨o, kk.extBut _ _ ne ho, hc⟩
  refine wpAny_bind (wpAny_bind (wpAny_onRaise (?_ : wpAny _ _ (Builtin.SmallTypes.nextOf (.ref i1) >>= _) _ _ _)))
  by_cases hx : xs[k1]? = none
  · refine wpAny_bind (wpAny_nextOf_list_end hh (h1.extBut ka.extBut D.i1z) (hl1.extBut ka.extBut D.l1z) hx fun hb e kb he => ?_)
    exact fin hb e (kb _ _ D.i1z.symm za) (fun c o n1 _ n3 _ q => kb _ _ n3 (ka.extBut _ _ n1 q)) he
  · obtain ⟨x, hx'⟩ := Option.ne_none_iff_exists'.mp hx
    have hy := hend.resolve_left hx
    refine wpAny_bind (wpAny_nextOf_list_item (h1.extBut ka.extBut D.i1z) (hl1.extBut ka.extBut D.l1z) hx' fun hb pb kb => wpAny_pure ?_)
    have tb : IsPair hb TO u v' := kb.extBut _ _ D.TOi1 (ka.extBut _ _ D.TOz hTO)
    refine wpAny_bind (wpAny_seqItems tb rfl (wpAny_bind (wpAny_updateSeq_pair tb fun hc tc kc => ?_)))
    have q2 := ((h2.extBut ka.extBut D.i2z).extBut kb.extBut D.i12.symm).extBut kc.extBut D.TOi2.symm
    have w2 := ((hl2.extBut ka.extBut D.l2z).extBut kb.extBut D.l2i1).extBut kc.extBut D.l2TO
    refine wpAny_bind (wpAny_letGo (wpAny_pure (wpAny_bind (wpAny_bind (wpAny_onRaise (?_ : wpAny _ _ (Builtin.SmallTypes.nextOf (.ref i2) >>= _) _ _ _))))))
    refine wpAny_bind (wpAny_nextOf_list_end hh q2 w2 hy fun hd e kd he => ?_)
    exact fin hd e (kd _ _ D.i2z.symm (kc.extBut _ _ D.TOz.symm (kb.extBut _ _ D.i1z.symm za))) (fun c o n1 n2 n3 n4 q => kd _ _ n4 (kc.extBut _ _ n2 (kb.extBut _ _ n3 (ka.extBut _ _ n1 q)))) he
theorem next_item {z TI TO i1 i2 l1 l2 : Addr} {k1 k2 : Nat} {xs ys : Array Value} {x y v : Value} {f : Bool} {Q : Option Value → Shared → Prop} (D : ZipApart z TI TO i1 i2 l1 l2) (hz : Rec s.heap z TI TO v f) (hf : ∀ A E, Free prog w A E z s)
    (S : On s.heap z TI TO i1 i2 l1 l2 k1 k2 xs ys) (hx : xs[k1]? = some x) (hy : ys[k2]? = some y)
    (hQ : ∀ h', Rec h' z TI TO (rawInt s.heap.objs.size) false → IsPair h' TO x y → h'.IsListIter i1 l1 (k1 + 1) → h'.IsListIter i2 l2 (k2 + 1) → IsPair h' s.heap.objs.size x y → Kept z TO i1 i2 s.heap h' → Q (some (.ref s.heap.objs.size)) { s with heap := h' }) :
    wpAny (model prog w) A (pyNext (.ref z)) Q E s := by
  have ty : s.TypeIs (.ref z) "zip" := ⟨_, hz, rfl⟩
  unfold pyNext
  refine wpAny_bind (wpAny_attempt (wpAny_callSpecial?_slot (name := Str.ofString "__next__") ty F.slot_zip_next (wpAny_call_entry F.slot_zip_next ty F.entry_zip_next ?_ (F.args_zip_next_1 _))))
  exact item_free D hz (hf _ _) S hx hy fun h' a b c d e k => wpAny_pure (hQ h' a b c d e k)
theorem next_end {z TI TO i1 i2 l1 l2 : Addr} {k1 k2 : Nat} {xs ys : Array Value} {v : Value} {f : Bool} {Q : Option Value → Shared → Prop} (hh : A.handled = none) (D : ZipApart z TI TO i1 i2 l1 l2) (hz : Rec s.heap z TI TO v f) (hf : ∀ A E, Free prog w A E z s)
    (S : On s.heap z TI TO i1 i2 l1 l2 k1 k2 xs ys) (hend : xs[k1]? = none ∨ ys[k2]? = none) (hQ : ∀ h', Kept z TO i1 i2 s.heap h' → Q none { s with heap := h' }) : wpAny (model prog w) A (pyNext (.ref z)) Q E s := by
  have ty : s.TypeIs (.ref z) "zip" := ⟨_, hz, rfl⟩
  unfold pyNext
  refine wpAny_bind (wpAny_attempt (wpAny_callSpecial?_slot (name := Str.ofString "__next__") ty F.slot_zip_next (wpAny_call_entry F.slot_zip_next ty F.entry_zip_next (end_free hh D hz (hf _ _) S hend fun h' e k he => ?_) (F.args_zip_next_1 _))))
  obtain ⟨o, ho, hc⟩ := he
  exact wpAny_bind (wpAny_isInstance (T := "StopIteration") (b := true) ⟨o, ho, hc⟩ isSubtype_stop (wpAny_pure (hQ _ k)))
end
end PvZ
set_option maxRecDepth 100000
set_option maxHeartbeats 2000000
namespace PvZ
open PySem PySem.Spec PyProof.Rows L2
theorem free_none {prog : Program} {w : World} {A : Around} {E : Value → Shared → Prop} {s : Shared} {z TI TO : Addr} {f : Bool} (hz : Rec s.heap z TI TO .none f) : Free prog w A E z s := fun Q h => by
  unfold Builtin.SmallTypes.ownedTupleIsFree
  exact wpAny_bind (wpAny_field hz rfl (x := .none) rfl (wpAny_pure h))
/-- the zip at its turn i: nothing handed out yet, or a pair that may be out -/
def Tn (z TI TO i1 i2 a b : Addr) (i : Nat) (h : Heap) : Prop :=
  IsPair h TI (.ref i1) (.ref i2) ∧ (∃ x y, IsPair h TO x y) ∧ h.IsListIter i1 a i ∧ h.IsListIter i2 b i ∧ ∃ v f, Rec h z TI TO v f ∧ (v = .none ∨ ∃ T : Addr, v = rawInt T)
theorem turn_zipN {P : Program} {w : World} {K : PySem.W.Frag} {nm : Str} {py : Pos} {a b z TI TO i1 i2 : Addr} (D : ZipApart z TI TO i1 i2 a b) :
    Turn P w K (.Name nm py) (Itz K a b) [z, TI, TO, i1, i2] z (Tn z TI TO i1 i2 a b) where
  mem := by simp
  obj := fun i h st c hc => by
    obtain ⟨hTI, ⟨x, y, hTO⟩, ⟨o1, e1, _, d1⟩, ⟨o2, e2, _, d2⟩, v, f, hz, _⟩ := st
    simp only [List.mem_cons, List.not_mem_nil, or_false] at hc
    rcases hc with rfl | rfl | rfl | rfl | rfl
    · exact ⟨_, hz, fun v q => nomatch q⟩
    · exact ⟨_, hTI, fun v q => nomatch q⟩
    · exact ⟨_, hTO, fun v q => nomatch q⟩
    · exact ⟨o1, e1, fun v q => by rw [d1] at q; cases q⟩
    · exact ⟨o2, e2, fun v q => by rw [d2] at q; cases q⟩
  keep := fun i h h' st k => by
    obtain ⟨hTI, ⟨x, y, hTO⟩, h1, h2, v, f, hz, hv⟩ := st
    exact ⟨k TI (by simp) _ hTI, ⟨x, y, k TO (by simp) _ hTO⟩, h1.at fun o q => k i1 (by simp) o q, h2.at fun o q => k i2 (by simp) o q, v, f, k z (by simp) _ hz, hv⟩
  item := by
    intro X hP hw hK hc i pins s σ H E I hf st hg
    subst hP hw hK
    obtain ⟨hTI, ⟨x0, y0, hTO⟩, h1, h2, v, f, hz, hv⟩ := st
    obtain ⟨xs, ys, x, y, hqx, hqy, hx, hy⟩ := hg
    obtain ⟨its, rv, p, _⟩ := I.list hqx
    obtain ⟨its2, rv2, p2, _⟩ := I.list hqy
    obtain ⟨u, hu, ru⟩ := rv.get hx
    obtain ⟨u2, hu2, ru2⟩ := rv2.get hy
    have inb : ∀ c ∈ [z, TI, TO, i1, i2], c < s.heap.objs.size := fun c hcm => by
      obtain ⟨_, e1, _⟩ := h1
      obtain ⟨_, e2, _⟩ := h2
      simp only [List.mem_cons, List.not_mem_nil, or_false] at hcm
      rcases hcm with rfl | rfl | rfl | rfl | rfl
      · exact Heap.lt_size hz
      · exact Heap.lt_size hTI
      · exact Heap.lt_size hTO
      · exact Heap.lt_size e1
      · exact Heap.lt_size e2
    -- a turn is done: the new pair stands behind all
    have fin : ∀ (h' : Heap) (T : Addr) (f' : Bool) (x1 y1 : Value), Rec h' z TI TO (rawInt T) f' → IsPair h' TI (.ref i1) (.ref i2) → IsPair h' TO x1 y1 → h'.IsListIter i1 a (i + 1) → h'.IsListIter i2 b (i + 1) → IsPair h' s.heap.objs.size u u2 → Kept z TO i1 i2 s.heap h' →
        ∃ u, some (Value.ref s.heap.objs.size) = some u ∧ wpAny (model X.prog X.w) X.A (letOwnedTupleGo (.Name nm py) (.ref z) u) (fun _ s2 => ∃ x H', Inv X pins σ H' s2 ∧ RelV x u ∧ (Itz X.K a b).yld i H x H' ∧ Tn z TI TO i1 i2 a b (i + 1) s2.heap ∧ ∀ b ∈ [z, TI, TO, i1, i2], H' b = none) E { s with heap := h' } :=
      fun h' T f' x1 y1 r q1 q2 q3 q4 q5 k => by
        have new : ObjOk X.prog X.w (upd H s.heap.objs.size (.tup [x, y])) h' s.heap.objs.size (.tup [x, y]) :=
          ⟨by show 2 ≤ sizeLine; decide, [u, u2], .cons ru (.cons ru2 .nil), ⟨_, q5, rfl, _, rfl⟩⟩
        have I1 : Inv X pins σ (upd H s.heap.objs.size (.tup [x, y])) { s with heap := h' } :=
          I.turnedNew (t' := s.toks) (ch := [z, TI, TO, i1, i2]) (fun c o n q => k c o (fun e => n (by simp [e])) (fun e => n (by simp [e])) (fun e => n (by simp [e])) (fun e => n (by simp [e])) q) hf (Nat.le_refl _) new
        refine ⟨_, rfl, wpAny_pure ⟨.ref s.heap.objs.size, _, I1, rfl, ⟨_, x, y, rfl, I.hok.fresh (Nat.le_refl _), rfl, fun l hl => by rw [I.list_inj hl hqx]; exact hx, fun l hl => by rw [I.list_inj hl hqy]; exact hy⟩, ⟨q1, ⟨x1, y1, q2⟩, q3, q4, _, f', r, .inr ⟨T, rfl⟩⟩, fun c hcm => ?_⟩⟩
        rw [upd_ne (Nat.ne_of_lt (inb c hcm))]
        exact (hf c hcm).1
    have S : On s.heap z TI TO i1 i2 a b i i its.toArray its2.toArray := ⟨hTI, ⟨x0, y0, hTO⟩, h1, h2, p.isList, p2.isList⟩
    have viaFree : (∀ A E, Free X.prog X.w A E z s) → _ := fun hfree => next_item (A := X.A) (Q := fun r s1 => ∃ u, r = some u ∧ wpAny (model X.prog X.w) X.A (letOwnedTupleGo (.Name nm py) (.ref z) u) (fun _ s2 => ∃ x H', Inv X pins σ H' s2 ∧ RelV x u ∧ (Itz X.K a b).yld i H x H' ∧ Tn z TI TO i1 i2 a b (i + 1) s2.heap ∧ ∀ b ∈ [z, TI, TO, i1, i2], H' b = none) E s1) (E := E) D hz hfree S (x := u) (y := u2) (by simpa using hu) (by simpa using hu2) fun h' r q2 q3 q4 q5 k => fin h' _ _ _ _ r (k _ _ D.TIz D.TITO D.TIi1 D.TIi2 hTI) q2 q3 q4 q5 k
    rcases hv with rfl | ⟨T, rfl⟩
    · exact viaFree fun A E => free_none hz
    · cases hT : s.heap.get? T with
      | none => exact viaFree fun A E => free_gone hz hT
      | some oT =>
        refine wpAny_pyNext_zip_item_held D hz hT hTI h1 h2 p.isList p2.isList (x := u) (y := u2) (by simpa using hu) (by simpa using hu2) fun h' r q3 q4 q5 _ k => ?_
        exact fin h' _ _ _ _ r (k _ _ D.TIz D.TIi1 D.TIi2 hTI) (k _ _ D.TOz D.TOi1 D.TOi2 hTO) q3 q4 q5 fun c o n1 _ n3 n4 q => k c o n1 n3 n4 q
  done := by
    intro X hP hw hK hc i pins s σ H E I hf st hg
    subst hP hw hK
    obtain ⟨hTI, ⟨x0, y0, hTO⟩, h1, h2, v, f, hz, hv⟩ := st
    obtain ⟨xs, ys, hqx, hqy, hend⟩ := hg
    obtain ⟨its, rv, p, _⟩ := I.list hqx
    obtain ⟨its2, rv2, p2, _⟩ := I.list hqy
    have l1 := rv.length
    have l2 := rv2.length
    have he : its.toArray[i]? = none ∨ its2.toArray[i]? = none := by
      rcases hend with q | q
      · exact .inl (by simp; omega)
      · exact .inr (by simp; omega)
    have fin : ∀ h' : Heap, Kept z TO i1 i2 s.heap h' → (none : Option Value) = none ∧ Inv X pins σ H { s with heap := h' } := fun h' k =>
      ⟨rfl, I.turnedL (t' := s.toks) (ch := [z, TI, TO, i1, i2]) (fun c o n q => k c o (fun e => n (by simp [e])) (fun e => n (by simp [e])) (fun e => n (by simp [e])) (fun e => n (by simp [e])) q) hf⟩
    have S : On s.heap z TI TO i1 i2 a b i i its.toArray its2.toArray := ⟨hTI, ⟨x0, y0, hTO⟩, h1, h2, p.isList, p2.isList⟩
    rcases hv with rfl | ⟨T, rfl⟩
    · exact next_end (I.ok.hd hc) D hz (fun A E => free_none hz) S he fin
    · cases hT : s.heap.get? T with
      | none => exact next_end (I.ok.hd hc) D hz (fun A E => free_gone hz hT) S he fin
      | some oT => exact wpAny_pyNext_zip_end_held (I.ok.hd hc) D hz hT hTI h1 h2 p.isList p2.isList he fun h' k => fin h' fun c o n1 _ n3 n4 q => k c o n1 n3 n4 q
  self := fun A i s Q E st h => by
    obtain ⟨_, _, _, _, v, f, hz, _⟩ := st
    have ty : s.TypeIs (.ref z) "zip" := ⟨_, hz, rfl⟩
    refine wpAny_pyIter_slot ty F.slot_zip_iter (wpAny_call_entry F.slot_zip_iter ty F.entry_zip_iter (?_ : wpAny _ _ (ret (.ref z)) _ _ s) (F.args_zip_iter_1 _))
    exact wpAny_pure ⟨_, rfl, "zip", _, ty, F.slot_zip_next.lookup, h⟩
theorem pi_zipN {X : Cx} {e e2 : Expr} {ta : TA} {p pos py : Pos} {nm : Str} (hg : Gl X "zip") (hm : X.mg "zip" = none) (ha : PA X [e, e2] ta)
    (hs : starEach [e, e2] X.env = (false, eval e X.env) :: starEach [e2] X.env := by rfl) (hpl : (backTo pos (starEach [e2] X.env)).any (·.1) = false := by rfl) :
    PI X (.Name nm py) (.Call (.Name "zip" p) [e, e2] [] pos) (iZip X.K ta) := by
  refine ⟨fun pins s σ H R I h => Call_ (ld_blt I hg hm PyProof.Rows.boot_zip (PyProof.Rows.callWith_type1 (thn (ha.run pos pins s σ H _ I h) fun us s1 ⟨vs, H1, I1, r1, a, b, xs, ys, ex, hqx, hqy, q⟩ => ?_) hs hpl))⟩
  subst ex
  rcases r1 with _ | ⟨⟨⟩, _ | ⟨⟨⟩, ⟨⟩⟩⟩
  obtain ⟨its, rv, p1, _⟩ := I1.list hqx
  obtain ⟨its2, rv2, p2, _⟩ := I1.list hqy
  obtain ⟨n, hn⟩ : ∃ n, s1.heap.objs.size = n := ⟨_, rfl⟩
  have D := PySem.W.ktu_apart s1.heap.objs.size a b p1.lt p2.lt
  refine call_zip_2 p1.isList p2.isList fun h' hz hTI hTO h1 h2 hsz hk => wpAny_pyIter_zip hz ?_
  refine ⟨s1.heap.objs.size + 4, [s1.heap.objs.size + 4, s1.heap.objs.size + 2, s1.heap.objs.size + 3, s1.heap.objs.size, s1.heap.objs.size + 1], _, _, H1, rfl, I1.kept (t' := s1.toks) hk, turn_zipN D, ⟨hTI, ⟨_, _, hTO⟩, h1, h2, _, _, hz, .inl rfl⟩, fun c hcm => ?_, q⟩
  have hle : s1.heap.objs.size ≤ c := by
    simp only [List.mem_cons, List.not_mem_nil, or_false] at hcm
    rcases hcm with rfl | rfl | rfl | rfl | rfl
    · exact Nat.le_add_right _ _
    · exact Nat.le_add_right _ _
    · exact Nat.le_add_right _ _
    · exact Nat.le_refl _
    · exact Nat.le_add_right _ _
  exact I1.fpOk hle (I1.hok.fresh hle)
end PvZ
namespace Pv
open PySem PySem.Spec PyProof.Rows L2
section
variable {K : PySem.W.Frag} {κ : Cls}
/-- zip of two lists of one length, its pairs with one name -/
def iZipN (a b : SE K κ) : SI K κ where
  ti := fun Wx => L2.iZip K (tCons (a.te Wx) (tCons (b.te Wx) tNil))
  ev := (iZipL a b).ev
  ok := fun Wx G H ρ σ L Q hG hE hN p => a.ok.then hG hE hN p fun x vx ρ1 G1 H1 L1 u1 e1 n1 r1 p => b.ok.then u1.gh e1 n1 p fun y vy ρ2 G2 H2 L2 u2 e2 n2 r2 p => by
    cases r1 with
    | lst hs ra =>
      cases r2 with
      | lst ht rb =>
        dsimp only at p
        split at p
        · rename_i hl
          have la := ra.length
          have lb := rb.length
          exact ⟨_, _, _, _, rfl, ex_l (u2.g.trans u2.gh) hs, ex_l u2.gh ht, p _ G2 H2 [] L2 (.refl u2.gh) e2 ⟨rfl, yl_zl (ex_l u2.g hs) ht (ra.mono u2.g) rb rfl (by omega)⟩ n2⟩
        · exact p.elim
      | _ => exact p.elim
    | _ => cases r2 <;> exact p.elim
end
end Pv
set_option maxRecDepth 100000
set_option maxHeartbeats 2000000
namespace PvS
open PySem PySem.Spec PyProof.Rows L2
open PySem.W (AllAlike Sortable EachIs dataLe)
section
variable {X : Cx} {pins : List (Addr × Obj)} {σ : L2.St} {H : Hp} {s : Shared}
theorem each_reads (I : Inv X pins σ H s) : ∀ {xs : List V} {ds : List PyData} {us : List Value}, Vals xs us → DpAll X.K H xs ds →
    EachIs (fun (v : Value) (b : V × PyData) => RelV b.1 v) us (xs.zip ds) ∧ EachIs (fun (v : Value) (b : V × PyData) => ∃ as, Reads s.heap v b.2 as) us (xs.zip ds) ∧ (xs.zip ds).length = xs.length ∧ (xs.zip ds).map Prod.snd = ds
  | _, _, _, .nil, .nil => ⟨.nil, .nil, rfl, rfl⟩
  | _, _, _, .cons r rv, .cons h hd => by
    obtain ⟨a, b, c, d⟩ := each_reads I rv hd
    obtain ⟨as, q⟩ := Dp.reads I _ _ _ h r
    exact ⟨.cons r a, .cons ⟨as, q⟩ b, by simp only [List.zip_cons_cons, List.length_cons, c], by simp only [List.zip_cons_cons, List.map_cons, d]⟩
theorem vals_of_each : ∀ {us : List Value} {bs : List (V × PyData)}, EachIs (fun (v : Value) (b : V × PyData) => RelV b.1 v) us bs → Vals (bs.map Prod.fst) us
  | _, _, .nil => .nil
  | _, _, .cons h t => .cons h (vals_of_each t)
end
end PvS
namespace Pv
open PySem PySem.Spec PyProof.Rows L2
open PySem.W (AllAlike Sortable EachIs dataLe)
section
variable {K : PySem.W.Frag} {κ : Cls}
def neT : D → Bool
  | .tup (_ :: _) => true
  | _ => false
/-- tuples of something, all of one form -/
def sortB (xs : List D) : Bool := D.flats 59 xs && xs.all neT && xs.all fun x => xs.all fun y => PySem.W.alike (D.py x) (D.py y)
theorem sortB_ok {xs : List D} (h : sortB xs = true) : D.flats 59 xs = true ∧ AllAlike (xs.map D.py) ∧ Sortable (xs.map D.py) := by
  unfold sortB at h
  rw [Bool.and_eq_true, Bool.and_eq_true] at h
  obtain ⟨⟨h1, h2⟩, h3⟩ := h
  refine ⟨h1, fun d hd d' hd' => ?_, .inl fun d hd => ?_⟩
  · obtain ⟨x, hx, rfl⟩ := List.mem_map.mp hd
    obtain ⟨y, hy, rfl⟩ := List.mem_map.mp hd'
    exact List.all_eq_true.mp (List.all_eq_true.mp h3 x hx) y hy
  · obtain ⟨x, hx, rfl⟩ := List.mem_map.mp hd
    have := List.all_eq_true.mp h2 x hx
    unfold neT at this
    split at this
    · rename_i y ys
      exact ⟨D.py y, D.pys ys, by rw [D.py, D.pys]⟩
    · cases this
theorem pys_map : ∀ xs : List D, D.pys xs = xs.map D.py
  | [] => rfl
  | x :: xs => by rw [D.pys, pys_map xs]; rfl
theorem rp_zip {G : Hp} : ∀ {us : List V} {xs : List D}, RpAll K κ G us xs → ∀ p ∈ us.zip xs, Rp K κ G p.1 p.2
  | _, _, .nil, p, hp => nomatch hp
  | _, _, .cons r rr, p, hp => by
    rcases List.mem_cons.mp hp with rfl | hp
    · exact r
    · exact rp_zip rr p hp
theorem dpAll_mono {G H : Hp} (e : Ex G H) : ∀ {us : List V} {ds : List PyData}, DpAll K G us ds → DpAll K H us ds
  | _, _, .nil => .nil
  | _, _, .cons h t => .cons (Dp.mono e h) (dpAll_mono e t)
theorem flats_mem : ∀ {xs : List D} {n : Nat}, D.flats n xs = true → ∀ x ∈ xs, D.flat n x = true
  | x :: xs, n, h, y, hy => by
    unfold D.flats at h
    rw [Bool.and_eq_true] at h
    rcases List.mem_cons.mp hy with rfl | hy
    · exact h.1
    · exact flats_mem h.2 y hy
end
end Pv
set_option maxRecDepth 100000
set_option maxHeartbeats 2000000
set_option maxRecDepth 100000
set_option maxHeartbeats 1000000
namespace Pv
open PySem PySem.Spec PyProof.Rows L2
end Pv
set_option maxRecDepth 100000
set_option maxHeartbeats 1000000
namespace Pv
open PySem PySem.Spec PyProof.Rows L2
end Pv
set_option maxRecDepth 100000
set_option maxHeartbeats 2000000
namespace Pv
open PySem PySem.Spec PyProof.Rows L2
section
variable {K : PySem.W.Frag} {κ : Cls}
/-- xs.reverse(), xs slot i's own list -/
def eRevOwn (i : Nat) : SE K κ where
  te := fun Wx => tBM0 K "list" rReverse (tVar i)
  ev := fun ρ => match ρ[i]? with
    | some (some (.ml xs)) => .ok (.d .non) (ρ.set i (some (.ml xs.reverse)))
    | _ => .bad
  ok := fun Wx G H ρ σ L Q hG hE hN p => by
    dsimp only at p
    split at p
    · rename_i xs h
      obtain ⟨a, vs, h1, h2, h3, h4, h5, h6, _⟩ := hE.list hG hN h
      obtain ⟨st, en⟩ := h6 vs.reverse xs.reverse h4.reverse
      exact ⟨_, h1, .inl ⟨rfl, _, SqL.of h3⟩, a, vs, rfl, rfl, h3, p.ret st en hN .non⟩
    · exact p.elim
theorem eRevOwn_ev (i : Nat) : (eRevOwn (K := K) (κ := κ) i).ev = fun ρ => match ρ[i]? with
    | some (some (.ml xs)) => .ok (.d .non) (ρ.set i (some (.ml xs.reverse)))
    | _ => .bad := rfl
end
end Pv
set_option maxRecDepth 100000
set_option maxHeartbeats 2000000
namespace Pv
open PySem PySem.Spec PyProof.Rows L2
/-- the table of the one def that holds a generator expression -/
def Cls.tab0 (κ : Cls) : Addr := κ.tabs.headD 0
/-- the sign c lies between lo and hi -/
def rngB (lo hi : Str) (c : Nat) : Bool := !(decide ([c] < lo.cps.toList)) && !(decide (hi.cps.toList < [c]))
theorem elt_rng {prog : Program} {w : World} {scope : Scope} {x lo hi : Str} {j j' : Nat} {p1 p2 p3 p4 : Pos} (hk : scope.kind = .function) (hl : scope.names.lookup x = some .local) (hd : (x == ("__debug__" : Str)) = false := by decide) :
    GxR.EltP prog w scope x (.Compare (.Constant (.str lo) j p1) [.LtE, .LtE] [.Name x p2, .Constant (.str hi) j' p3] p4) (rngB lo hi) := by
  intro cenv A' E' c t s₂ m₂ hs hn hm
  refine Compare_chain (Calls.Constant_str ?_) (by with_unfolding_all rfl)
  refine chain_link ?_
  refine wpAny_Name (wpAny_loadName_local (by rw [hs]; exact hk) (show cenv.scope.names.lookup x = some .local by rw [hs]; exact hl) hn hm ?_) hd
  refine PySem.P.le_str ?_
  refine wpAny_truthy_bool ?_
  cases h : decide ([c] < lo.cps.toList) with
  | true =>
    exact ite_ff ⟨by unfold rngB; rw [h]; rfl, GxR.keeps_tok _ _⟩
  | false =>
    refine ite_tt (chain_last (Calls.Constant_str ?_))
    refine PySem.P.le_str ?_
    exact ⟨by unfold rngB; rw [h]; rfl, GxR.keeps_tok _ _⟩
section
variable {K : PySem.W.Frag} {κ : Cls} {G H : Hp} {L : List Addr} {ρ : Env} {σ : St}
/-- behind a table that has grown all stands as before -/
theorem Tabbed.stp {P : Addr} {H2 : Hp} (hG : Ex G H) (g : G P = none) (hP : GxR.TabG H P) (t : GxR.Tabbed P H H2) : Stp G H L G H2 L where
  g := Evl.Ex.refl G
  h := fun a o e _ nt => by
    have z : a ≠ P := fun z => by
      obtain ⟨ps, q, _⟩ := hP
      rw [z, q] at e
      cases e
      exact nt ps rfl
    rw [t.2 a z]; exact e
  t := fun a e => by
    by_cases z : a = P
    · obtain ⟨ps, q, _⟩ := t.1
      rw [z, q] at e
      cases e
    · rw [t.2 a z] at e; exact e
  gn := fun _ _ _ n => n
  ln := fun _ z => .inl z
  gh := fun a o e => by
    have z : a ≠ P := fun z => by rw [z, g] at e; cases e
    rw [t.2 a z]; exact hG a o e
  tb := fun Q q => by
    by_cases z : Q = P
    · rw [z]; exact t.1
    · obtain ⟨ps, e, r⟩ := q
      exact ⟨ps, by rw [t.2 Q z]; exact e, r⟩
/-- all(test for c in a), a a text -/
def eAllS (P : Addr) (hP : P ∈ κ.tabs) (pb : Nat → Bool) (a : SE K κ) : SE K κ where
  te := fun Wx => GxR.tAllS P pb (a.te Wx)
  ev := fun ρ => (a.ev ρ).bindD fun x ρ => match x with
    | .str s => .ok (.d (.bl (s.cps.toList.all pb))) ρ
    | _ => .bad
  ok := fun Wx G H ρ σ L Q hG hE hN p => a.ok.then hG hE hN p fun x vx ρ1 G1 H1 L1 u1 e1 n1 r1 p => by
    cases r1 with
    | str s =>
      have tb := e1.tb P hP
      refine ⟨s, rfl, tb.1, fun H2 t => ?_⟩
      have st := Tabbed.stp (L := L1) u1.gh tb.2 tb.1 t
      have nP : ∀ P' ∈ κ.tabs, P' ∉ ([] : List Addr) := fun _ _ z => nomatch z
      have st0 := Tabbed.stp (L := []) u1.gh tb.2 tb.1 t
      exact p.ret st (e1.stp st0 (fun _ _ z => nomatch z) nP) n1 (.bl _)
    | _ => exact p.elim
end
end Pv
set_option maxRecDepth 100000
set_option maxHeartbeats 4000000
namespace Pv
open PySem PySem.Spec PyProof.Rows L2
theorem genS_by {env : PySem.Env} {scope : Scope} {x : Str} (h : scope.kind = .function) (co : scope.isCoroutine = false) (hc : scope.names.all (fun y => !decide (y.2 = .cell) && !decide (y.2 = .free)) = true) (dot : scope.names.lookup (".0" : Str) = some NameKind.local) (loc : scope.names.lookup x = some .local) : GxR.GenS env scope x := by
  rw [List.all_eq_true] at hc
  refine ⟨h, co, fun y hy z => ?_, dot, loc, fun y hy z => ?_⟩
  · have := hc y hy
    rw [z] at this
    simp at this
  · have := hc y hy
    rw [z] at this
    simp at this
structure FunC (K : PySem.W.Frag) (x qual : Str) (st : Stmt) (f : Addr) (fd : FuncData) (c : Addr) : Prop where
  ex : ∃ (oc : Value) (od : Option Addr) (kV doc pm : Value) (an : Option Addr) (ct : Value) (osl : Array (Option Value)),
    fd = PySem.W.fnOf x qual (defArgs st) (defBody st) (defScope st) .none kV doc pm an (.ref c) ct ∧ K.lookup f = some ⟨oc, od, .func fd, osl⟩ ∧ PySem.W.codeIn K (.ref c) qual = true
  kp : PySem.W.keepIn K (.ref f) = true
theorem FunC.fun {K : PySem.W.Frag} {x qual : Str} {st : Stmt} {f : Addr} {fd : FuncData} {c : Addr} (F : FunC K x qual st f fd c) : Fun K x qual st f fd := by
  obtain ⟨oc, od, kV, doc, pm, an, ct, osl, h1, h2, h3⟩ := F.ex
  exact ⟨⟨oc, od, kV, doc, pm, an, .ref c, ct, osl, h1, h2, h3⟩, F.kp⟩
section
variable {P : Program} {w : World} {K : PySem.W.Frag} {κ : Cls} {mg : Str → Option Value} {base : Heap}
theorem fng_ofC {x qual : Str} {st : Stmt} {f : Addr} {fd : FuncData} {c : Addr} {N ps : List Str} {k : Nat} {sp : Sp} (F : FunC K x qual st f fd c) (S : FnScope N ps (defScope st)) (len : ∀ vs H Q E, sp vs H Q E → vs.length = ps.length)
    (body : ∀ (A : Around) (outer : List PySem.Env) (s : Shared) (H : Hp) (vs : List V) (Q : VK) (E : XK), Room k (A.deeper (envOfC qual (defScope st) s.heap.objs.size f (.ref c))) → (A.deeper (envOfC qual (defScope st) s.heap.objs.size f (.ref c))).guards = some [] → sp vs H Q E →
      ∃ t, PSs (cxOf (L2.CX P w) P w K mg base N qual (defScope st) f (.ref c) A outer s H E) (defBody st) t ∧ t { nx := fun _ H' => Q .non H', rt := Q } (L2.start N vs) H) : FnG P w K mg base (k + 1) f fd ps sp := by
  obtain ⟨oc, od, kV, doc, pm, an, ct, osl, rfl, lk, hcd⟩ := F.ex
  refine ⟨len, fun A outer s H args us vs Q E room quiet env bound vals prom => ?_⟩
  have inHeap : K.In s.heap := env.mod.kin.keeps fun b o e => (env.bs b o e).1
  have limit : s.heap.NoLimit := env.mod.nolimit.keeps fun b o e => (env.bs b o e).1
  have kinds : ∀ y ∈ ps.zip us, (defScope st).names.lookup y.1 = some .local ∨ ((defScope st).names.lookup y.1 = some .cell ∧ ((cellsFrom (s.heap.objs.size + 1) (defScope st).names []).lookup y.1).isSome = true) := by
    rintro ⟨n, v⟩ hy
    rcases S.par n (List.of_mem_zip hy).1 with q | q
    · exact .inl q
    · exact .inr ⟨q, PySem.W.cellsFrom_some _ _ _ (.inl q)⟩
  refine codeAny_call_function room.depth (inHeap _ _ lk) rfl S.co S.gen rfl (PySem.W.codeRec_of inHeap hcd) (bound _ _ _ _ ?_)
  refine wpAny_newFunctionEnv_cells S.kind kinds fun env1 henv s1 made => ?_
  subst henv
  refine ⟨limit.keeps made.toInCall.keep, codeAny_func ?_⟩
  obtain ⟨t, ht, hq⟩ := body A outer s H vs Q E (room.deeper _) quiet prom
  have I : Inv (cxOf (L2.CX P w) P w K mg base N qual (defScope st) f (.ref c) A outer s H E) [] (L2.start N vs) H s1 := inv_start S room.hd env (len _ _ _ _ prom) vals made
  refine wpAny_mono (ht.run [] s1 (L2.start N vs) H _ I hq) (fun fl s' out => ?_) fun _ _ out => out
  cases fl with
  | ret u => exact let ⟨v, _, H', J, rv, q⟩ := out; ⟨v, H', J.os, J.bare, J.base, J.hok, rv, q⟩
  | next => exact let ⟨_, H', J, q⟩ := out; ⟨V.non, H', J.os, J.bare, J.base, J.hok, rfl, q⟩
  | brk => exact let ⟨_, _, _, q⟩ := out; q.elim
  | cont => exact let ⟨_, _, _, q⟩ := out; q.elim
/-- the def as a function, its code object known -/
theorem fnx_ofC {x qual : Str} {st : Stmt} {f : Addr} {fd : FuncData} {c : Addr} {N ps : List Str} {k : Nat} {b : SS K κ} (F : FunC K x qual st f fd c) (S : FnScope N ps (defScope st)) (hn : ps.length ≤ N.length)
    (h : ∀ (A : Around) (outer : List PySem.Env) (s : Shared) (H : Hp) (E : XK) (Wx : WX), Room k (A.deeper (envOfC qual (defScope st) s.heap.objs.size f (.ref c))) → (A.deeper (envOfC qual (defScope st) s.heap.objs.size f (.ref c))).guards = some [] → Takes (cxOf (L2.CX P w) P w K mg base N qual (defScope st) f (.ref c) A outer s H E) Wx →
      ∃ t, PSs (cxOf (L2.CX P w) P w K mg base N qual (defScope st) f (.ref c) A outer s H E) (defBody st) t ∧ t = b.ts Wx) :
    FnX P w K κ mg base (k + 1) f fd ps (fnOf N.length b.asg b.sv) := by
  refine fng_ofC F S (fun vs H Q E h => ?_) (fun A outer s H vs Q E hr hq hsp => ?_)
  · obtain ⟨_, _, _, h, _⟩ := h
    exact h
  · obtain ⟨t, h1, h2⟩ := h A outer s H E (fun cls d _ H' => E cls d H') hr hq (takes_of rfl rfl rfl rfl)
    exact ⟨t, h1, by rw [h2]; exact fn_ok b.ok hn hsp⟩
end
theorem eAllS_ev {K : PySem.W.Frag} {κ : Cls} (P : Addr) (hP : P ∈ κ.tabs) (pb : Nat → Bool) (a : SE K κ) : (eAllS P hP pb a).ev = fun ρ => (a.ev ρ).bindD fun x ρ => match x with
    | .str s => .ok (.d (.bl (s.cps.toList.all pb))) ρ
    | _ => .bad := rfl
end Pv
set_option maxRecDepth 100000
set_option maxHeartbeats 4000000
namespace Pv
open PySem PySem.Spec PyProof.Rows L2
section
variable {P : Program} {w : World} {K : PySem.W.Frag} {mg mb : Str → Option Value} {k : Nat} {fa a c T0 : Addr} {fd : FuncData} {x : Str} {sp : Sp} {s : Shared} {vs : List Value} {ns : List Int}
/-- what is tracked: texts and the like that never change, and the table -/
def OnlyT (T0 : Addr) (H : Hp) : Prop := ∀ b, H b = none ∨ b = T0 ∨ ∃ o xs, H b = some (.frz o (.lst xs))
theorem law_atT {H : Hp} (KX : K.In s.heap) (hns : s.heap.Ns mainGlobals mg) (hb : s.heap.Ns builtinsNs mb) (hbb : ∀ x : Str, x ≠ "__name__" → mb x = bootBuiltins x) (hlim : s.heap.NoLimit) (hg : s.gens = #[])
    (tab : s.heap.get? T0 = some { cls := .none, data := .fields #[] }) (tabK : K.lookup T0 = none) (cod : PySem.W.CodeHd s.heap c T0)
    (hbm : ∃ (bm : Addr) (ob : Obj), mg "__builtins__" = some (.ref bm) ∧ bm ≠ builtinsNs ∧ s.heap.get? bm = some ob ∧ ob.cls = .type "module" ∧ ob.dict = some builtinsNs ∧ ob.data = .plain)
    (script : s.heap.get? a = some { cls := .type "list", data := .seq vs.toArray }) (hr : Room k callerA) (F : ∀ base : Heap, K.In base → base.Ns mainGlobals mg → GxR.TabB base mg c T0 → FnG P w K mg base k fa fd [x] sp) (hbind : ∀ (s : Shared) (u : Value), BindsTo s fd ⟨[u], []⟩ [(x, u)])
    (only : OnlyT T0 H) (atT : H T0 = some (.tbl #[])) (ok : HOk P w H s.heap) (just : ∀ b, H b ≠ none → b = a ∨ b = T0) (notK : H a ≠ none → K.lookup a = none) (prom : sp [.ref a] H (fun v _ => v = .bl true) fun _ _ _ => False) :
    codeAny (model P w) callerA (.call (.ref fa) ⟨[.ref a], []⟩) (fun r s' => r = .ok (.ret (.bool true)) ∧ OldK s.heap s'.heap ∧ s'.os = s.os ∧ AllBare s'.gens) s := by
  -- neither the script nor the table
  have off : ∀ {b : Addr} {o : Obj}, s.heap.get? b = some o → (∀ us n, o.data ≠ .seq us n) → o.data ≠ .fields #[] → H b = none := by
    intro b o get n1 n2
    by_cases q : H b = none
    · exact q
    · rcases just b q with z | z
      · rw [z, script] at get
        cases get
        exact absurd rfl (n1 _ _)
      · rw [z, tab] at get
        cases get
        exact absurd rfl n2
  have isDict : ∀ {b : Addr} {o : Obj} {es : Array DictEntry} {ep : Nat}, s.heap.get? b = some o → o.data = .dict es ep → H b = none := fun {b o es ep} get dt =>
    off get (fun us n z => by rw [dt] at z; cases z) fun z => by rw [dt] at z; cases z
  have names : ∀ {b : Addr} {m : Str → Option Value}, s.heap.Ns b m → (hidT s.heap H).Ns b m := fun {b m} z => let ⟨o, es, ep, get, dt, rest⟩ := z; ⟨o, es, ep, hidT_get get (isDict get dt), dt, rest⟩
  have written : K.In (hidT s.heap H) := by
    intro b o e
    refine hidT_get (KX b o e) ?_
    by_cases q : H b = none
    · exact q
    · rcases just b q with z | z
      · subst z
        rw [notK q] at e
        cases e
      · rw [z, tabK] at e
        cases e
  have gT : mainGlobals ≠ T0 := fun z => by
    obtain ⟨o, es, ep, get, dt, _⟩ := hns
    rw [z, tab] at get
    cases get
    cases dt
  have TB : GxR.TabB (hidT s.heap H) mg c T0 := by
    refine ⟨?_, ?_, gT⟩
    · obtain ⟨o, us, file, tf, flags, tg, inF, text, tt, e1, r1, r2, r3, rest⟩ := cod
      refine ⟨o, us, file, tf, flags, tg, inF, text, tt, hidT_get e1 (off e1 (fun _ _ z => ?_) fun z => ?_), r1, r2, r3, rest⟩
      · rw [r2] at z; cases z
      · rw [r2] at z
        cases z
        simp at r3
    · obtain ⟨bm, ob, b1, b2, b3, b4, b5, b6⟩ := hbm
      have n1 : bm ≠ mainGlobals := fun z => by
        obtain ⟨o, es, ep, get, dt, _⟩ := hns
        rw [z, get] at b3
        cases b3
        rw [dt] at b6
        cases b6
      have n2 : bm ≠ T0 := fun z => by
        rw [z, tab] at b3
        cases b3
        cases b6
      exact ⟨bm, ob, b1, b2, n1, n2, hidT_get b3 (off b3 (fun _ _ z => by rw [b6] at z; cases z) fun z => by rw [b6] at z; cases z), b4, b5, b6⟩
  have mods : Mod K mg (hidT s.heap H) := ⟨written, names hns, ⟨mb, names hb, hbb⟩, let ⟨m, h1, h2⟩ := hlim; ⟨m, names h1, h2⟩⟩
  have env : Env0 P w K mg (hidT s.heap H) callerA [] s H := ⟨rfl, mods, fun _ _ e => of_hidT e, Nat.le_of_eq (hidT_size _ _), trivial, (fun _ z => nomatch z), ok, .of_eq hg⟩
  have called := (F _ written (names hns) TB).run callerA [] s H ⟨[.ref a], []⟩ [.ref a] [.ref a] _ _ hr rfl env (hbind s (.ref a)) (.cons rfl .nil) prom
  refine codeAny_mono called fun res s' out => ?_
  cases res with
  | error e =>
    obtain ⟨_, _, _, _, _, _, _, _, _, _, _, _, z⟩ := out
    exact z.elim
  | ok fl =>
    cases fl with
    | ret u =>
      obtain ⟨v, H', os, bare, un, ok', rv, q⟩ := out
      have q : v = .bl true := q
      subst q
      cases rv
      have stay : ∀ b o, b ≠ T0 → s.heap.get? b = some o → s'.heap.get? b = some o := fun b o nb get => by
        rcases only b with z | z | ⟨ob, xs, z⟩
        · exact un.keep b o get z (fun t => nomatch t) fun t => nomatch t
        · exact absurd z nb
        · have p1 := (ok b _ z).1
          have p2 := (ok' b _ (un.frzs b ob _ z)).1
          rw [get] at p1
          cases p1
          exact p2
      obtain ⟨more, hm⟩ := un.tbls T0 #[] atT
      have grown := ok' T0 _ hm
      rw [Array.empty_append] at grown
      refine ⟨rfl, ⟨fun b o get => ?_, fun b o get => ?_⟩, os, bare⟩
      · by_cases z : b = T0
        · subst z
          rw [tab] at get
          cases get
          exact .inr (.inl ⟨(cod.tab tab).isCodeTable, rfl, #[], more, rfl, by rw [Array.empty_append]; exact grown⟩)
        · exact .inl (stay b o z get)
      · by_cases z : b = T0
        · subst z
          exact ⟨_, grown⟩
        · exact ⟨o, stay b o z get⟩
    | next => exact False.elim out
    | brk => exact False.elim out
    | cont => exact False.elim out
theorem law_runT (KX : K.In s.heap) (hns : s.heap.Ns mainGlobals mg) (hb : s.heap.Ns builtinsNs mb) (hbb : ∀ x : Str, x ≠ "__name__" → mb x = bootBuiltins x) (hlim : s.heap.NoLimit) (hg : s.gens = #[])
    (tab : s.heap.get? T0 = some { cls := .none, data := .fields #[] }) (tabK : K.lookup T0 = none) (cod : PySem.W.CodeHd s.heap c T0)
    (hbm : ∃ (bm : Addr) (ob : Obj), mg "__builtins__" = some (.ref bm) ∧ bm ≠ builtinsNs ∧ s.heap.get? bm = some ob ∧ ob.cls = .type "module" ∧ ob.dict = some builtinsNs ∧ ob.data = .plain)
    (script : s.heap.get? a = some { cls := .type "list", data := .seq vs.toArray }) (hi : IntsAre vs ns) (hl : ns.length ≤ sizeLine) (hr : Room k callerA) (F : ∀ base : Heap, K.In base → base.Ns mainGlobals mg → GxR.TabB base mg c T0 → FnG P w K mg base k fa fd [x] sp) (hbind : ∀ (s : Shared) (u : Value), BindsTo s fd ⟨[u], []⟩ [(x, u)])
    (prom : ∀ H : Hp, H T0 = some (.tbl #[]) → SqL K H a (ns.map V.int) → sp [.ref a] H (fun v _ => v = .bl true) fun _ _ _ => False) :
    codeAny (model P w) callerA (.call (.ref fa) ⟨[.ref a], []⟩) (fun r s' => r = .ok (.ret (.bool true)) ∧ OldK s.heap s'.heap ∧ s'.os = s.os ∧ AllBare s'.gens) s := by
  have vals := vals_ints hi
  have len := hi.length
  have aT : a ≠ T0 := fun z => by
    rw [z, tab] at script
    cases script
  cases inK : K.lookup a with
  | some o =>
    have o' := KX a o inK
    rw [script] at o'
    cases o'
    have only : OnlyT T0 fun b => if b = T0 then some (.tbl #[]) else none := fun b => by
      by_cases z : b = T0
      · exact .inr (.inl z)
      · exact .inl (if_neg z)
    refine law_atT KX hns hb hbb hlim hg tab tabK cod hbm script hr F hbind only (if_pos rfl) (fun b u z => ?_) (fun b z => ?_) (fun z => absurd (if_neg aT) z) (prom _ (if_pos rfl) (.inr ⟨_, vs.toArray, _, inK, rfl, rfl, rfl, ?_, by simpa using vals⟩))
    · by_cases e : b = T0
      · rw [if_pos e] at z
        cases z
        rw [e]
        exact tab
      · rw [if_neg e] at z
        cases z
    · by_cases e : b = T0
      · exact .inr e
      · exact absurd (if_neg e) z
    · simpa [len] using hl
  | none =>
    have only : OnlyT T0 fun b => if b = a then some (.frz { cls := .type "list", data := .seq vs.toArray } (.lst (ns.map V.int))) else if b = T0 then some (.tbl #[]) else none := fun b => by
      by_cases z : b = a
      · exact .inr (.inr ⟨_, _, if_pos z⟩)
      · by_cases e : b = T0
        · exact .inr (.inl e)
        · exact .inl ((if_neg z).trans (if_neg e))
    have at0 : (if T0 = a then some (HO.frz { cls := .type "list", data := .seq vs.toArray } (.lst (ns.map V.int))) else if T0 = T0 then some (.tbl #[]) else none) = some (.tbl #[]) := (if_neg (Ne.symm aT)).trans (if_pos rfl)
    refine law_atT KX hns hb hbb hlim hg tab tabK cod hbm script hr F hbind only at0 (fun b u z => ?_) (fun b z => ?_) (fun _ => inK) (prom _ at0 (.inl (.inr ⟨_, if_pos rfl⟩)))
    · by_cases e : b = a
      · rw [if_pos e] at z
        cases z
        rw [e]
        exact ⟨script, by rw [List.length_map]; exact hl, vs, _, vals, script⟩
      · rw [if_neg e] at z
        by_cases e2 : b = T0
        · rw [if_pos e2] at z
          cases z
          rw [e2]
          exact tab
        · rw [if_neg e2] at z
          cases z
    · by_cases e : b = a
      · exact .inl e
      · by_cases e2 : b = T0
        · exact .inr e2
        · exact absurd ((if_neg e).trans (if_neg e2)) z
end
/-- the goal that k_head leaves, where one def's table may grow -/
theorem law_walkT {l : PySem.W.OpenLaw} {n k : Nat} {q : Program} {loose : List Str} {XP : (Str → Option Value) → Heap → Prop} {YP : World → Heap → Prop} {d : DefRec} {K : Params → PySem.W.Frag} {sp : World → Addr → Sp} {x : Str}
    (hn : l.most = some n) (hn2 : n ≤ sizeLine) (hdf : d.params.defaults = []) (hr : Room k callerA) (hY : ∀ (w : World) (h : Heap), YP w h → (K w.params).In h)
    (F : ∀ (w : World) (mg : Str → Option Value) (fa : Addr) (h : Heap), YP w h → (K w.params).In h → h.Ns mainGlobals mg → mg d.name = some (.ref fa) →
      ∃ (fd : FuncData) (c T0 : Addr), h.get? T0 = some { cls := .none, data := .fields #[] } ∧ (K w.params).lookup T0 = none ∧ PySem.W.CodeHd h c T0 ∧ (∀ (s : Shared) (u : Value), BindsTo s fd ⟨[u], []⟩ [(x, u)]) ∧
        ∀ base : Heap, (K w.params).In base → base.Ns mainGlobals mg → GxR.TabB base mg c T0 → FnG l.prog w (K w.params) mg base k fa fd [x] (sp w T0))
    (prom : ∀ (w : World) (H : Hp) (a T0 : Addr) (ns : List Int), ns.length ≤ n → H T0 = some (.tbl #[]) → SqL (K w.params) H a (ns.map V.int) → sp w T0 [.ref a] H (fun v _ => v = .bl true) fun _ _ _ => False) :
    PySem.W.WalkO q loose XP YP l.row.toRowW d [] (fun f vs => PySem.call f vs) :=
  Att.attach_call hn hdf fun w s₀ s₁ mg mb fa o pm cd doc a vs ns G Y ho hd hcd hmg hobj hints hlen hg => by
    have KX := hY w _ Y
    obtain ⟨fd, c, T0, h1, h2, h3, bound, hF⟩ := F w mg fa _ Y KX G.T.g hmg
    exact law_runT KX G.T.g G.T.b G.T.builtins G.T.nolimit hg h1 h2 h3 G.T.bmain hobj hints (Nat.le_trans hlen hn2) hr hF bound fun H hT hS => prom w H a T0 ns hlen hT hS
/-- the promise of a law, with the table -/
def spT (K : PySem.W.Frag) (T0 : Addr) : Sp := fun vs H Q _ => ∃ (a : Addr) (ns : List Int), vs = [.ref a] ∧ SqL K H a (ns.map V.int) ∧ GxR.TabG H T0 ∧ ∀ H', Q (.bl true) H'
theorem tab_new {H : Hp} {T0 : Addr} (h : H T0 = some (.tbl #[])) (t : TriplesOk (#[] : Array Value).toList) : GxR.TabG H T0 := ⟨#[], h, t⟩
theorem spT_of {K : PySem.W.Frag} {κ : Pv.Cls} {T0 : Addr} {F : Fn} (hT : κ.tabs = [T0]) (h : ∀ ns : List Int, F [.d (.lst (ns.map .int))] = .ok (.d (.bl true)) [.d (.lst (ns.map .int))]) (vs : List V) (H : Hp) (Q : VK) (E : XK) (q : spT K T0 vs H Q E) : spF K κ 1 F vs H Q E := by
  obtain ⟨a, ns, rfl, hs, tb, k⟩ := q
  have g0 : Ex (fun b => if b = T0 then none else H b) H := fun b o e => by
    by_cases z : b = T0
    · cases (if_pos z).symm.trans e
    · exact (if_neg z).symm.trans e
  have nT : ∀ u, H a = some u → NoTab u → a ≠ T0 := fun u e nt z => by
    obtain ⟨ps, e2, _⟩ := tb
    rw [z, e2] at e
    cases e
    exact nt ps rfl
  have hs' : SqL K (fun b => if b = T0 then none else H b) a (ns.map V.int) := by
    rcases hs with (z | ⟨o, z⟩) | z
    · exact .inl (.inl ((if_neg (nT _ z ntL)).trans z))
    · exact .inl (.inr ⟨o, (if_neg (nT _ z (fun ps e => by cases e))).trans z⟩)
    · exact .inr z
  refine ⟨fun b => if b = T0 then none else H b, [], [.d (.lst (ns.map .int))], rfl, g0, ⟨[], [], rfl, ⟨rfl, .lst hs' (ints_ok ns)⟩, rfl⟩, List.nodup_nil, (fun P hP => ?_), ?_⟩
  · rw [hT] at hP
    rw [List.mem_singleton.mp hP]
    exact ⟨tb, if_pos rfl⟩
  · rw [h ns]
    intro v G' H' Lw L' st rs rw nd
    obtain ⟨rfl, r⟩ := rw
    cases r
    exact k H'
end Pv
set_option maxRecDepth 100000
set_option maxHeartbeats 4000000
namespace Pv
open PySem PySem.Spec PyProof.Rows L2
end Pv
set_option maxRecDepth 100000
set_option maxHeartbeats 4000000
namespace Pv
open PySem PySem.Spec PyProof.Rows L2
section
variable {P : Program} {w : World} {K : PySem.W.Frag} {κ : Cls} {mg : Str → Option Value} {base : Heap}
theorem fnx_recB {l : Nat} {a : Addr} {fd : FuncData} {ps : List Str} {F : Nat → Fn} (h0 : F 0 = fun _ => .bad) (h : ∀ n, FnX P w K κ mg base (l + 2 * n) a fd ps (F n) → FnX P w K κ mg base (l + 2 * (n + 1)) a fd ps (F (n + 1))) : ∀ n, FnX P w K κ mg base (l + 2 * n) a fd ps (F n)
  | 0 => by rw [h0]; exact fnx_bad
  | n + 1 => h n (fnx_recB h0 h n)
end
end Pv
set_option maxRecDepth 100000
set_option maxHeartbeats 4000000
namespace Pv
open PySem PySem.Spec PyProof.Rows L2
section
variable {K : PySem.W.Frag} {κ : Cls}
def eInD (i : Nat) (k : SE K κ) : SE K κ where
  te := fun Wx => tDIn (k.te Wx) (tVar i)
  ev := fun ρ => (k.ev ρ).bindD fun y ρ => match D.key y, ρ[i]? with
    | some kk, some (some (.md kvs)) => .ok (.d (.bl (lookD kvs kk).isSome)) ρ
    | _, _ => .bad
  ok := fun Wx G H ρ σ L Q hG hE hN p => k.ok.then hG hE hN p fun y vy ρ2 G2 H2 L2 u2 e2 n2 r2 p => by
    split at p
    · rename_i kk kvs hk h
      obtain ⟨a, ks, s1, g, hd, q, put⟩ := e2.dict u2.gh n2 h
      have hl := q.look (k := kk)
      refine ⟨_, s1, a, valV ks kk, rfl, ?_, ?_⟩
      · rw [r2.key hk]
        exact .k hd
      · have e : (valV ks kk).isSome = (lookD kvs kk).isSome := by
          cases hx : lookD kvs kk with
          | none =>
            rw [hx] at hl
            rw [hl]; rfl
          | some x =>
            rw [hx] at hl
            obtain ⟨v, hv, rv⟩ := hl
            rw [hv]
            rfl
        rw [e]
        exact p.ret (.refl u2.gh) e2 n2 (.bl _)
    · exact p.elim
theorem eInD_ev (i : Nat) (k : SE K κ) : (eInD (K := K) (κ := κ) i k).ev = fun ρ => (k.ev ρ).bindD fun y ρ => match D.key y, ρ[i]? with
    | some kk, some (some (.md kvs)) => .ok (.d (.bl (lookD kvs kk).isSome)) ρ
    | _, _ => .bad := rfl
theorem eChain_ev {r r' : R2} {g g' : D → D → Option D} (h : OpS K κ r g) (h' : OpS K κ r' g') (a b c : SE K κ) : (eChain h h' a b c).ev = fun ρ => (a.ev ρ).bindD fun x ρ => (b.ev ρ).bindD fun y ρ => match g x y with
    | some (.bl true) => (c.ev ρ).bindD fun z ρ => R.of (g' y z) ρ
    | some (.bl false) => .ok (.d (.bl false)) ρ
    | _ => .bad := rfl
theorem eCallD_ev (f : Fn) (a b : SE K κ) : (eCallD (K := K) (κ := κ) f a b).ev = fun ρ => (a.ev ρ).bindD fun x ρ => (b.ev ρ).bindD fun y ρ => match f [.d x, .d y, .md []] with
    | .ok w _ => .ok w ρ
    | .exc k z _ => .exc k z ρ
    | .bad => .bad := rfl
theorem eGetK_ev (a : Addr) (lk : Str → Option (Option Int)) (hl : KVals K a lk) (k e : SE K κ) : (eGetK (K := K) (κ := κ) a lk hl k e).ev = fun ρ => (k.ev ρ).bindD fun y ρ => (e.ev ρ).bindD fun z ρ => match y with
    | .str s => match lk s with
      | some r => .ok (.d (match r with | some i => .int i | none => z)) ρ
      | none => .bad
    | _ => .bad := rfl
end
end Pv
set_option maxRecDepth 100000
set_option maxHeartbeats 4000000
namespace PvSR
open PySem PySem.Spec PySem.Calls PyProof.Rows PySem.W
variable {prog : Program} {w : World} {A : Around} {E : Value → Shared → Prop} {s : Shared}
theorem collect_tup {l : Addr} {vs : List Value} {Q : List Value → Shared → Prop} (hl : s.heap.IsTuple l vs.toArray)
    (h : Q vs { s with heap := (s.heap.push (seqObj "list" #[] 0)).update s.heap.objs.size (Obj.mapSeq (· ++ vs.toArray)) }) (hsz : vs.length ≤ sizeLine) :
    wpAny (model prog w) A (collect (.ref l)) Q E s := by
  obtain ⟨o, ho, hc, n, hd⟩ := id hl
  unfold collect
  refine wpAny_bind (wpAny_runValue (codeAny_builtin entry_proto_collect' ?_))
  show wpAny _ _ (do again (.builtin "list.__iadd__" ⟨[← newList [], .ref l], []⟩)) _ _ s
  refine wpAny_bind (wpAny_newList (wpAny_pure ⟨Code.quiet_builtin _ (by decide +kernel), codeAny_builtin entry_list_iadd' ?_⟩))
  show wpAny _ _ (Builtin.List.listExtendWith (.ref s.heap.objs.size) (.ref l) (.ref s.heap.objs.size)) _ _ { s with heap := s.heap.push (seqObj "list" #[] 0) }
  unfold Builtin.List.listExtendWith
  have ho' : (s.heap.push (seqObj "list" #[] 0)).get? l = some o := Heap.get?_push_of_some _ ho
  refine wpAny_bind (wpAny_typeOf (T := "tuple") ⟨o, ho', hc⟩ ?_)
  have ht : (Value.type "tuple" == Value.type "tuple") = true := by rfl
  rw [if_pos (by rw [ht]; simp)]
  refine wpAny_bind (listItems_at ho' hd ?_)
  refine wpAny_bind (listItems_at (xs := #[]) (n := 0) (Heap.get?_push_size _ rfl) rfl ?_)
  rw [if_neg (by simp)]
  refine wpAny_bind (listUpdate_at (xs := #[]) (n := 0) (Heap.get?_push_size _ rfl) rfl ?_ (Nat.zero_le _) (by show (#[] ++ vs.toArray).size ≤ sizeLine + 1; simp only [Array.size_append, List.size_toArray, List.length_nil]; omega))
  refine wpAny_pure ?_
  show wpAny (model prog w) A (do
      let o ← load s.heap.objs.size
      match o.data with
      | .seq xs _ => pure xs.toList
      | _ => unsupported "internal:collect") Q E { s with heap := (s.heap.push (seqObj "list" #[] 0)).update s.heap.objs.size (Obj.mapSeq (· ++ vs.toArray)) }
  refine wpAny_bind (wpAny_load (get?_update_seq (Heap.get?_push_size _ rfl) _) ?_)
  show wpAny _ _ (pure ((#[] : Array Value) ++ vs.toArray).toList) Q E _
  rw [show ((#[] : Array Value) ++ vs.toArray).toList = vs by simp]
  exact wpAny_pure h
theorem sorted_of_sortT {l : Addr} {vs : List Value} {kw : List (Str × Value)} {Q : Value → Shared → Prop} (hl : s.heap.IsTuple l vs.toArray) (hL : vs.length ≤ sizeLine) (ha1 : argsOk "sorted" ⟨[.ref l], kw⟩) (ha2 : ∀ x, argsOk "list.sort" ⟨[.ref x], kw⟩)
    (body : ∀ E' : Value → Shared → Prop, wpAny (model prog w) A.in1.in1 (Builtin.«list.sort» ⟨[.ref (s.heap.objs.size + 1)], kw⟩) (fun f s' => f = .done (.ret .none) ∧ Q (.ref (s.heap.objs.size + 1)) s') E' { s with heap := copyHeap s.heap vs }) :
    wpAny (model prog w) A (call (.builtin "sorted") [.ref l] kw) Q E s := by
  refine call_function_entry_kw kind_sorted plain_sorted entry_sorted ha1 ?_
  unfold Builtin.«sorted»
  refine wpAny_bind (m := checkCount "sorted" 1 1 _) (wpAny_pure ?_)
  refine wpAny_bind (collect_tup hl ?_ hL)
  refine wpAny_bind (wpAny_newList ?_ hL)
  have hsz : ((s.heap.push (seqObj "list" #[] 0)).update s.heap.objs.size (Obj.mapSeq (· ++ vs.toArray))).objs.size = s.heap.objs.size + 1 := by
    rw [Heap.size_update, size_push']
  show wpAny _ _ _ _ _ { s with heap := copyHeap s.heap vs }
  rw [hsz]
  refine wpAny_bind (wpAny_holding (wpAny_call_entry_kw slot_list_sort ⟨_, copyHeap_at s.heap vs, rfl⟩ entry_list_sort ?body (ha2 _)))
  case body =>
    show wpAny (model prog w) A.in1.in1 (Builtin.«list.sort» ⟨[.ref (s.heap.objs.size + 1)], kw⟩) _ _ _
    refine wpAny_mono (body _) (fun f s' hf => ?_) fun _ _ e => e
    obtain ⟨rfl, hq⟩ := hf
    exact ⟨_, rfl, wpAny_pure ⟨_, rfl, hq⟩⟩
variable {β : Type} {R : Value → β → Prop} {enc : β → PyData} {vs : List Value} {bs : List β}
theorem sorted_revT {l : Addr} {b : Bool} {Q : Value → Shared → Prop} (hl : s.heap.IsTuple l vs.toArray) (e : EachIs R vs bs) (er : EachIs (fun v b => ∃ as, Reads s.heap v (enc b) as) vs bs) (hal : AllAlike (bs.map enc)) (hk : Sortable (bs.map enc)) (hL : bs.length ≤ sizeLine)
    (hu : ∀ b, b ∈ bs → A.units + 2 + (enc b).depth < cLine) (h : ∀ out, out.length = bs.length → EachIs R out (bs.mergeSort (dataLe b enc)) → Q (.ref (s.heap.objs.size + 1)) { s with heap := sortedAll s.heap vs (List.toArray out) }) :
    wpAny (model prog w) A (call (.builtin "sorted") [.ref l] [(Str.ofString "reverse", .bool b)]) Q E s := by
  have er' : EachIs (fun v b => ∃ as, Reads (sortingHeap (copyHeap s.heap vs) (s.heap.objs.size + 1) vs) v (enc b) as) vs bs := er.mono fun _ _ ⟨as, r⟩ => ⟨as, PyProof.Rows.Reads.keeps (fun _ _ => sorting_copy_old) r⟩
  have S := SortsAt.data (prog := prog) (w := w) (A := A.in1.in1) (s := { s with heap := sortingHeap (copyHeap s.heap vs) (s.heap.objs.size + 1) vs }) (each_map (R := fun v d => ∃ as, Reads (sortingHeap (copyHeap s.heap vs) (s.heap.objs.size + 1) vs) v d as) enc er') hal hk (bound_map hu)
  have hL' : vs.length ≤ sizeLine := by rw [e.length]; exact hL
  exact sorted_of_sortT hl hL' (args_sorted_rev _ _) (fun _ => args_list_sort_rev _ _) fun _ => list_sort_rev_vals (s := { s with heap := copyHeap s.heap vs }) (copyHeap_at s.heap vs) S hL' ⟨rfl, h _ (by rw [sortVals_length b rfl]; exact e.length) (sortVals_data b e er' hal)⟩
end PvSR
namespace PvS
open PySem PySem.Spec PyProof.Rows L2
open PySem.W (AllAlike Sortable EachIs dataLe)
def geP (p q : V × PyData) : Bool := dataLe true Prod.snd p q
def rSortTR (K : PySem.W.Frag) : List V → List V → Hp → VK → Prop := fun vs zs H Q => ∃ a xs ds, vs = [V.ref a] ∧ zs = [.bl true] ∧ SqT K H a xs ∧ DpAll K H xs ds ∧ AllAlike ds ∧ Sortable ds ∧ (∀ d ∈ ds, d.depth ≤ 60) ∧
  ∀ p, H p = none → Q (.ref p) (upd H p (.lst (((xs.zip ds).mergeSort geP).map Prod.fst)))
section
variable {X : Cx}
theorem cr_sortTR (hu : X.A.units + 64 < cLine) : CallRK X (.builtin "sorted") [Str.ofString "reverse"] (rSortTR X.K) := by
  intro pins s σ H vs zs us ws Q I r rz h
  obtain ⟨a, xs, ds, rfl, rfl, hs, hd, al, so, dp, q⟩ := h
  obtain ⟨its, rv, hl, hz⟩ := I.tuple hs
  obtain ⟨u, rfl, ru⟩ := vals1 r
  obtain rfl : u = Value.ref a := ru
  obtain ⟨w1, rfl, ew⟩ := vals1 rz
  obtain rfl : w1 = Value.bool true := ew
  obtain ⟨e1, e2, e3, e4⟩ := each_reads I rv hd
  refine PvSR.sorted_revT (enc := Prod.snd) hl e1 e2 (by rw [e4]; exact al) (by rw [e4]; exact so) (by rw [e3]; exact hz) (fun b hb => ?_) fun out ho eo => ?_
  · have := dp b.2 (by rw [← e4]; exact List.mem_map_of_mem hb)
    omega
  · obtain ⟨c, hc⟩ := sortedAll_at s.heap its out.toArray
    have k : ∀ b o, s.heap.get? b = some o → (sortedAll s.heap its out.toArray).get? b = some o := fun b o => sortedAll_old
    have le : s.heap.objs.size ≤ s.heap.objs.size + 1 := Nat.le_succ _
    have ve := vals_of_each eo
    refine ⟨.ref (s.heap.objs.size + 1), _, I.laid (t' := s.toks) (o := .lst (((xs.zip ds).mergeSort geP).map Prod.fst)) k le ⟨?_, out, c, ve, hc⟩, rfl, q _ (I.hok.fresh le)⟩
    rw [List.length_map, List.length_mergeSort, e3]
    exact hz
end
end PvS
namespace Pv
open PySem PySem.Spec PyProof.Rows L2
open PySem.W (AllAlike Sortable EachIs dataLe)
section
variable {K : PySem.W.Frag} {κ : Cls}
def geD (x y : D) : Bool := dataLe true D.py x y
theorem zip_sortR {us : List V} {xs : List D} {G : Hp} (r : RpAll K κ G us xs) : ∃ ys, ((us.zip (D.pys xs)).mergeSort PvS.geP).map Prod.fst = ys ∧ RpAll K κ G ys (xs.mergeSort geD) := by
  refine ⟨_, rfl, ?_⟩
  have e1 : us.zip (D.pys xs) = (us.zip xs).map fun p => (p.1, D.py p.2) := by
    rw [pys_map, List.zip_map_right]
    rfl
  have e2 : ((us.zip xs).map fun p : V × D => (p.1, D.py p.2)).mergeSort PvS.geP = ((us.zip xs).mergeSort fun p q => geD p.2 q.2).map fun p => (p.1, D.py p.2) := by
    symm
    exact List.map_mergeSort (fun _ _ _ _ => rfl)
  have e3 : xs.mergeSort geD = ((us.zip xs).mergeSort fun p q => geD p.2 q.2).map Prod.snd := by
    have l : us.length = xs.length := r.length
    have z : (us.zip xs).map Prod.snd = xs := List.map_snd_zip (by omega)
    conv => lhs; rw [← z]
    symm
    exact List.map_mergeSort (fun _ _ _ _ => rfl)
  rw [e1, e2, e3, List.map_map]
  have all : ∀ p ∈ (us.zip xs).mergeSort (fun p q => geD p.2 q.2), Rp K κ G p.1 p.2 := fun p hp => by
    have hp := (List.mergeSort_perm _ _).mem_iff.mp hp
    exact rp_zip r p hp
  generalize (us.zip xs).mergeSort (fun p q => geD p.2 q.2) = zs at all
  induction zs with
  | nil => exact .nil
  | cons z zs ih => exact .cons (all z (by simp)) (ih fun p hp => all p (by simp [hp]))
/-- sorted(xs, reverse=True), xs a tuple of tuples -/
def eSortTR (a : SE K κ) : SE K κ where
  te := fun Wx => tCKw (PvS.rSortTR K) (tCons (a.te Wx) tNil) (tCons (tC (.bl true)) tNil)
  ev := fun ρ => (a.ev ρ).bindD fun x ρ => match x with
    | .tup xs => if sortB xs = true then .ok (.d (.lst (xs.mergeSort geD))) ρ else .bad
    | _ => .bad
  ok := fun Wx G H ρ σ L Q hG hE hN p => a.ok.then hG hE hN p fun x vx ρ1 G1 H1 L1 u1 e1 n1 r1 p => by
    cases r1 with
    | @tup a1 us xs hs ra =>
      dsimp only at p
      split at p
      · rename_i c
        obtain ⟨c1, c2, c3⟩ := sortB_ok c
        obtain ⟨ys, ey, ry⟩ := zip_sortR ra
        have dl := flats_lay xs 59 c1
        refine ⟨a1, us, D.pys xs, rfl, rfl, ex_t u1.gh hs.sq, dpAll_mono u1.gh (dps_of ra c1), by rw [pys_map]; exact c2, by rw [pys_map]; exact c3, fun d hd => ?_, fun b hb => ?_⟩
        · rw [pys_map] at hd
          obtain ⟨x, hx, rfl⟩ := List.mem_map.mp hd
          exact Nat.le_trans (flat_lay x 59 (flats_mem c1 x hx)).2 (by decide)
        · rw [ey]
          exact p.ret (.new u1.gh hb) (e1.new u1.gh hb) n1 (.lst (SqL.of upd_same) (ry.mono (Evl.Ex.new (fresh u1.gh hb))))
      · exact p.elim
    | _ => exact p.elim
theorem eSortTR_ev (a : SE K κ) : (eSortTR (K := K) (κ := κ) a).ev = fun ρ => (a.ev ρ).bindD fun x ρ => match x with
    | .tup xs => if sortB xs = true then .ok (.d (.lst (xs.mergeSort geD))) ρ else .bad
    | _ => .bad := rfl
/-- a = b = e -/
def sAsgTwo (i j : Nat) (e : SE K κ) : SS K κ where
  ts := fun Wx => tAsg2 (e.te Wx) (gName i) (gName j)
  sv := fun ρ => (e.ev ρ).bindD fun x ρ => if i < ρ.length ∧ j < ρ.length then .ok .nx ((ρ.set i (some (.d x))).set j (some (.d x))) else .bad
  asg := [i, j]
  ok := fun Wx G H ρ σ L E hG hE hN p => e.ok.thenS hG hE hN p fun x vx ρ1 G1 H1 L1 u1 e1 n1 r1 p => by
    split at p
    · rename_i h
      obtain ⟨L3, f1, f2, f3⟩ := e1.put (w := .d x) (v := vx) (B := []) i ⟨rfl, r1⟩ n1 h.1
      obtain ⟨L4, g1, g2, g3⟩ := f1.put (w := .d x) (v := vx) (B := []) j ⟨rfl, r1⟩ f2 (by simpa using h.2)
      refine p _ G1 H1 L4 ((Stp.refl u1.gh).sub fun c z => ?_) g1 g2 ⟨by simp, fun m hm => ?_⟩
      · exact f3 c (by simpa using g3 c z) |> fun z => by simpa using z
      · rw [List.getElem?_set_ne (fun z => hm (by simp [z])), List.getElem?_set_ne (fun z => hm (by simp [z]))]
    · exact p.elim
end
end Pv
set_option maxRecDepth 100000
set_option maxHeartbeats 4000000
namespace Pv
open PySem PySem.Spec PyProof.Rows L2
end Pv
set_option maxRecDepth 100000
set_option maxHeartbeats 4000000
namespace Pv
open PySem PySem.Spec PyProof.Rows L2
theorem loopC2_map {α β : Type} {vs vs1 : List Nat} {put : D → Env → Option Env} {it1 : Env → R Env (List D)} {put1 : D → Env → Option Env} {e : Env → R Env W} {ρ0 : Env} (f : α → D) (inner : α → List β) (h : β → D) (out : α → β → D) : ∀ (qs : List α) (acc : List D),
    (∀ a ∈ qs, ∃ ρ1 ρ2 ρ3, put (f a) ρ0 = some ρ1 ∧ it1 ρ1 = .ok ((inner a).map h) ρ2 ∧ wipeE ρ2 vs1 = ρ3 ∧ wipeE ρ3 vs = ρ0 ∧ ∀ b ∈ inner a, ∃ ρ4 ρ5, put1 (h b) ρ3 = some ρ4 ∧ e ρ4 = .ok (.d (out a b)) ρ5 ∧ wipeE ρ5 vs1 = ρ3) →
    acc.length + (qs.flatMap inner).length ≤ 1000 → loopC2 vs vs1 put it1 put1 e (qs.map f) ρ0 acc = .ok (acc ++ qs.flatMap fun a => (inner a).map (out a)) ρ0
  | [], acc, _, _ => by rw [List.flatMap_nil, List.append_nil]; rfl
  | a :: qs, acc, hq, hl => by
    obtain ⟨ρ1, ρ2, ρ3, h1, h2, h3, h4, h5⟩ := hq a (by simp)
    rw [List.flatMap_cons, List.length_append] at hl
    have l := loopC_map (vs := vs1) (put := put1) (t := yesE) (e := e) (ρ0 := ρ3) h (fun b => some (out a b)) (inner a) acc (fun b hb => by
      obtain ⟨ρ4, ρ5, g1, g2, g3⟩ := h5 b hb
      exact ⟨ρ4, ρ4, g1, ρ5, rfl, g2, g3⟩) (by omega)
    have fm : (inner a).filterMap (fun b => some (out a b)) = (inner a).map (out a) := by
      induction inner a with
      | nil => rfl
      | cons b bs ih => simp [ih]
    rw [fm] at l
    have ih := loopC2_map f inner h out qs (acc ++ (inner a).map (out a)) (fun b hb => hq b (List.mem_cons_of_mem _ hb)) (by rw [List.length_append, List.length_map]; omega)
    rw [List.map_cons, loopC2, h1]
    simp only [h2, h3, l, h4, ih, List.flatMap_cons, List.append_assoc]
section
variable {K : PySem.W.Frag} {κ : Cls}
theorem lc2_of {it : SI K κ} {g : SG K κ} {it1 : SI K κ} {g1 : SG K κ} {e : SE K κ} {vs vs1 : List Nat} {hv : ∀ i ∈ g.asg, i ∈ vs} {hv1 : ∀ i ∈ g1.asg, i ∈ vs1} {hs : ∀ i ∈ vs1, i ∈ vs} {ρ ρi ρ0 ρ' : Env} {xs ys : List D} (hi : it.ev ρ = .ok xs ρi) (hw : wipeE ρi vs = ρ0) (hl : loopC2 vs vs1 g.put it1.ev g1.put e.ev xs ρ0 [] = .ok ys ρ0) (hu : unwE ρ0 vs = ρ') :
    (eLc2 it g it1 g1 e vs vs1 hv hv1 hs).ev ρ = .ok (.d (.lst ys)) ρ' := by
  show (evLc2 it.ev g.put it1.ev g1.put e.ev vs vs1 ρ).bind _ = _
  unfold evLc2
  rw [hi]
  show (((loopC2 vs vs1 g.put it1.ev g1.put e.ev xs (wipeE ρi vs) []).bind fun ys ρ => .ok ys (unwE ρ vs))).bind _ = _
  rw [hw, hl]
  show R.ok (W.d (.lst ys)) (unwE ρ0 vs) = _
  rw [hu]
theorem yl_zlU {G : Hp} {a b : Addr} {us ws : List V} {xs ys : List D} (ha : SqL K G a us) (hb : SqL K G b ws) (rx : RpAll K κ G us xs) (ry : RpAll K κ G ws ys) : Yl K κ (Itz K a b) G ((xs.zip ys).map pairD) := fun G' H' i g gh => by
  have e1 := rx.length
  have e2 := ry.length
  have sa : SqL K H' a us := ex_l (g.trans gh) ha
  have sb : SqL K H' b ws := ex_l (g.trans gh) hb
  refine ⟨fun x e => ?_, fun le => ⟨us, ws, sa, sb, ?_⟩⟩
  · have lt : i < ((xs.zip ys).map pairD).length := (List.getElem?_eq_some_iff.mp e).1
    rw [List.length_map, List.length_zip] at lt
    obtain ⟨u, hu⟩ : ∃ u, us[i]? = some u := ⟨_, List.getElem?_eq_getElem (by omega)⟩
    obtain ⟨w, hw⟩ : ∃ w, ws[i]? = some w := ⟨_, List.getElem?_eq_getElem (by omega)⟩
    obtain ⟨x1, hx1, _⟩ := rx.get' hu
    obtain ⟨y1, hy1, _⟩ := ry.get' hw
    have ex : x = .tupW [x1, y1] := by
      have ez : (xs.zip ys)[i]? = some (x1, y1) := List.getElem?_zip_eq_some.mpr ⟨hx1, hy1⟩
      rw [List.getElem?_map, ez] at e
      exact (Option.some.inj e).symm
    subst ex
    refine ⟨⟨us, ws, u, w, sa, sb, hu, hw⟩, fun v H'' y => ?_⟩
    obtain ⟨T, x', y', rfl, hT, rfl, f1, f2⟩ := y
    have q1 := f1 us sa
    have q2 := f2 ws sb
    rw [hu] at q1
    rw [hw] at q2
    cases q1
    cases q2
    have gx : Ex G (upd G' T (.tup [u, w])) := g.trans (Evl.Ex.new (fresh gh hT))
    exact ⟨_, .new gh hT, .tupW (.inl (.inl upd_same)) (.cons ((rx.at hu hx1).mono gx) (.cons ((ry.at hw hy1).mono gx) .nil))⟩
  · rw [List.length_map, List.length_zip] at le
    omega
def iZipLU (a b : SE K κ) : SI K κ where
  ti := fun Wx => RZ.iZipA K (tCons (a.te Wx) (tCons (b.te Wx) tNil))
  ev := fun ρ => (a.ev ρ).bindD fun x ρ => (b.ev ρ).bindD fun y ρ => match x, y with
    | .lst xs, .lst ys => .ok ((xs.zip ys).map pairD) ρ
    | _, _ => .bad
  ok := fun Wx G H ρ σ L Q hG hE hN p => a.ok.then hG hE hN p fun x vx ρ1 G1 H1 L1 u1 e1 n1 r1 p => b.ok.then u1.gh e1 n1 p fun y vy ρ2 G2 H2 L2 u2 e2 n2 r2 p => by
    cases r1 with
    | lst hs ra =>
      cases r2 with
      | lst ht rb =>
        dsimp only at p
        exact ⟨_, _, _, _, rfl, .inl ⟨ex_l (u2.g.trans u2.gh) hs, ex_l u2.gh ht, p _ G2 H2 [] L2 (.refl u2.gh) e2 ⟨rfl, yl_zlU (ex_l u2.g hs) ht (ra.mono u2.g) rb⟩ n2⟩⟩
      | _ => exact p.elim
    | _ => cases r2 <;> exact p.elim
theorem iZipLU_ev (a b : SE K κ) : (iZipLU (K := K) (κ := κ) a b).ev = fun ρ => (a.ev ρ).bindD fun x ρ => (b.ev ρ).bindD fun y ρ => match x, y with
    | .lst xs, .lst ys => .ok ((xs.zip ys).map pairD) ρ
    | _, _ => .bad := rfl
end
end Pv
set_option maxRecDepth 100000
set_option maxHeartbeats 2000000
namespace Pv
open PySem PySem.Spec PyProof.Rows L2
end Pv
set_option maxRecDepth 100000
set_option maxHeartbeats 4000000
namespace Pv
open PySem PySem.Spec PyProof.Rows L2
end Pv
set_option maxRecDepth 100000
set_option maxHeartbeats 4000000
namespace K33
open PySem PySem.Spec PyProof.Rows L2 Pv
def topS (i : Nat) : Stmt := PySem.Challenge.pw_blindtill_k33_covers_of_calls_alone.main.body.getD i (.Pass ⟨0, 0, 0, 0⟩)
def l_FORM_LENGTHS : List (Str × Int) := [("none", 1), ("call", 4), ("all", 2), ("one", 2), ("within", 3), ("calls", 3)]
/-- what the text's own names leave alone -/
structure Tx (K : PySem.W.Frag) (κ : Cls) (mg : Str → Option Value) : Prop where
  z_all : mg "all" = none
  z_any : mg "any" = none
  z_bool : mg "bool" = none
  z_int : mg "int" = none
  z_isinstance : mg "isinstance" = none
  z_len : mg "len" = none
  z_list : mg "list" = none
  z_max : mg "max" = none
  z_min : mg "min" = none
  z_range : mg "range" = none
  z_sorted : mg "sorted" = none
  z_str : mg "str" = none
  z_sum : mg "sum" = none
  z_tuple : mg "tuple" = none
  z_zip : mg "zip" = none
  c_MOST_DEEP : ∃ t, mg "MOST_DEEP" = some (.int 6 t)
  c_MOST_LETTERS : ∃ t, mg "MOST_LETTERS" = some (.int 8 t)
  c_SMALL : ∃ t, mg "SMALL" = some (.int 200 t)
  tab0 : κ.tab0 ∈ κ.tabs
  g_FORM_LENGTHS : mg "FORM_LENGTHS" = some (.ref (κ.at_ 1))
  v_FORM_LENGTHS : KVals K (κ.at_ 1) (lkOf l_FORM_LENGTHS)
theorem hu_str {A : Around} {k : Nat} (hr : Room k A) : A.units + 100 < cLine := by have := hr.un; omega
section
variable {P : Program} {w : World} {K : PySem.W.Frag} {κ : Cls} {mg : Str → Option Value} {base : Heap}
abbrev s_is_number : Stmt := topS 6
abbrev N_is_number : List Str := ["thing", "least"]
abbrev p_is_number : List Str := ["thing", "least"]
theorem sc_is_number : FnScope N_is_number p_is_number (defScope s_is_number) := ⟨rfl, rfl, rfl, by decide +kernel, rfl, by decide +kernel, by decide +kernel⟩
def b_is_number (T : Tx K κ mg) : SS K κ :=
    sSeq (sRet (eAndV (eIsTy "int" (eV 0)) (eAndV (eNotV (eIsTy "bool" (eV 0))) (eGe (eV 0) (eV 1)))))
    (sNil)
def f_is_number (T : Tx K κ mg) : Fn := Pv.fnOf 2 (b_is_number T).asg (b_is_number T).sv
abbrev s_is_name : Stmt := topS 11
abbrev N_is_name : List Str := ["thing"]
abbrev p_is_name : List Str := ["thing"]
theorem sc_is_name : FnScope N_is_name p_is_name (defScope s_is_name) := ⟨rfl, rfl, rfl, by decide +kernel, rfl, by decide +kernel, by decide +kernel⟩
def b_is_name (T : Tx K κ mg) : SS K κ :=
    sSeq (sIf (tOr' (tNot' (tV (eIsTy "str" (eV 0)))) (tNot' (tV' (eChain opLe opLe (eInt 1) (eLenS (aCons (eV 0) (aNil))) (eInt 8))))) (sSeq (sRet (eBl false))
    (sNil)) (sNil))
    (sSeq (sRet (eAllS κ.tab0 T.tab0 (rngB "a" "z") (eV 0)))
    (sNil))
def f_is_name (T : Tx K κ mg) : Fn := Pv.fnOf 1 (b_is_name T).asg (b_is_name T).sv
abbrev s_straight_within : Stmt := topS 17
abbrev N_straight_within : List Str := ["right"]
abbrev p_straight_within : List Str := ["right"]
theorem sc_straight_within : FnScope N_straight_within p_straight_within (defScope s_straight_within) := ⟨rfl, rfl, rfl, by decide +kernel, rfl, by decide +kernel, by decide +kernel⟩
def b_straight_within (T : Tx K κ mg) : SS K κ :=
    sSeq (sIf (tV' (eInS (eIxT (eV 0) (eInt 0)) (eTup (aCons (eStr "all") (aCons (eStr "one") (aNil)))))) (sSeq (sRet (eIxT (eV 0) (eInt 1)))
    (sNil)) (sNil))
    (sSeq (sIf (tV' (eInS (eIxT (eV 0) (eInt 0)) (eTup (aCons (eStr "within") (aCons (eStr "calls") (aNil)))))) (sSeq (sRet (eTup (aCons (eIxT (eV 0) (eInt 2)) (aNil))))
    (sNil)) (sNil))
    (sSeq (sRet (eTup (aNil)))
    (sNil)))
def f_straight_within (T : Tx K κ mg) : Fn := Pv.fnOf 1 (b_straight_within T).asg (b_straight_within T).sv
abbrev s__is_new_call : Stmt := topS 15
abbrev N__is_new_call : List Str := ["thing", "seen", "_", "name", "most", "times"]
abbrev p__is_new_call : List Str := ["thing", "seen"]
theorem sc__is_new_call : FnScope N__is_new_call p__is_new_call (defScope s__is_new_call) := ⟨rfl, rfl, rfl, by decide +kernel, rfl, by decide +kernel, by decide +kernel⟩
def b__is_new_call (T : Tx K κ mg) : SS K κ :=
    sSeq (sAsgG (gT 4 (gs1 (gN 2) (gs1 (gN 3) (gs1 (gN 4) (gs1 (gN 5) (gs0)))))) (eV 0))
    (sSeq (sIf (tOr' (tNot' (tV (eCall 1 (f_is_name T) (aCons (eV 3) (aNil))))) (tV (eInD 1 (eV 3)))) (sSeq (sRet (eBl false))
    (sNil)) (sNil))
    (sSeq (sSetD 1 (eV 3) (eBl true))
    (sSeq (sRet (eAndV (eCall 2 (f_is_number T) (aCons (eV 4) (aCons (eInt 1) (aNil)))) (eCall 2 (f_is_number T) (aCons (eV 5) (aCons (eInt 1) (aNil))))))
    (sNil))))
def f__is_new_call (T : Tx K κ mg) : Fn := Pv.fnOf 6 (b__is_new_call T).asg (b__is_new_call T).sv
abbrev s__has_form : Stmt := topS 14
abbrev N__has_form : List Str := ["thing"]
abbrev p__has_form : List Str := ["thing"]
theorem sc__has_form : FnScope N__has_form p__has_form (defScope s__has_form) := ⟨rfl, rfl, rfl, by decide +kernel, rfl, by decide +kernel, by decide +kernel⟩
def b__has_form (T : Tx K κ mg) : SS K κ :=
    sSeq (sIf (tOr' (tNot' (tV (eIsTy "tuple" (eV 0)))) (tOr' (tNot' (tTr (eV 0))) (tNot' (tV (eIsTy "str" (eIxT (eV 0) (eInt 0))))))) (sSeq (sRet (eBl false))
    (sNil)) (sNil))
    (sSeq (sRet (eEq (eGetK (κ.at_ 1) (lkOf l_FORM_LENGTHS) T.v_FORM_LENGTHS (eIxT (eV 0) (eInt 0)) (eInt 0)) (eLen (aCons (eV 0) (aNil)))))
    (sNil))
def f__has_form (T : Tx K κ mg) : Fn := Pv.fnOf 1 (b__has_form T).asg (b__has_form T).sv
abbrev s__is_new_right : Stmt := topS 13
abbrev N__is_new_right : List Str := ["thing", "deep", "seen", "part"]
abbrev p__is_new_right : List Str := ["thing", "deep", "seen"]
theorem sc__is_new_right : FnScope N__is_new_right p__is_new_right (defScope s__is_new_right) := ⟨rfl, rfl, rfl, by decide +kernel, rfl, by decide +kernel, by decide +kernel⟩
def b__is_new_right (T : Tx K κ mg) (slf : Fn) : SS K κ :=
    sSeq (sIf (tOr' (tV' (eEq (eV 1) (eInt 0))) (tNot' (tV (eCall 1 (f__has_form T) (aCons (eV 0) (aNil)))))) (sSeq (sRet (eBl false))
    (sNil)) (sNil))
    (sSeq (sIf (tV' (eEq (eIxT (eV 0) (eInt 0)) (eStr "call"))) (sSeq (sRet (eCall 2 (f__is_new_call T) (aCons (eV 0) (aM 2 (aNil)))))
    (sNil)) (sNil))
    (sSeq (sIf (tAnd' (tV' (eInS (eIxT (eV 0) (eInt 0)) (eTup (aCons (eStr "all") (aCons (eStr "one") (aNil)))))) (tNot' (tV (eIsTy "tuple" (eIxT (eV 0) (eInt 1)))))) (sSeq (sRet (eBl false))
    (sNil)) (sNil))
    (sSeq (sIf (tAnd' (tV' (eInS (eIxT (eV 0) (eInt 0)) (eTup (aCons (eStr "within") (aCons (eStr "calls") (aNil)))))) (tNot' (tV (eCall 2 (f_is_number T) (aCons (eIxT (eV 0) (eInt 1)) (aCons (eInt 1) (aNil))))))) (sSeq (sRet (eBl false))
    (sNil)) (sNil))
    (sSeq (sFor (iT (eCall 1 (f_straight_within T) (aCons (eV 0) (aNil)))) (gN 3) (sSeq (sIf (tNot' (tV (eCall 3 slf (aCons (eV 3) (aCons (eSub (eV 1) (eInt 1)) (aM 2 (aNil))))))) (sSeq (sRet (eBl false))
    (sNil)) (sNil))
    (sNil)))
    (sSeq (sRet (eBl true))
    (sNil))))))
def f__is_new_right (T : Tx K κ mg) : Nat → Fn
  | 0 => fun _ => .bad
  | n + 1 => Pv.fnOf 4 (b__is_new_right T (f__is_new_right T n)).asg (b__is_new_right T (f__is_new_right T n)).sv
abbrev s_is_right : Stmt := topS 12
abbrev N_is_right : List Str := ["thing"]
abbrev p_is_right : List Str := ["thing"]
theorem sc_is_right : FnScope N_is_right p_is_right (defScope s_is_right) := ⟨rfl, rfl, rfl, by decide +kernel, rfl, by decide +kernel, by decide +kernel⟩
def b_is_right (T : Tx K κ mg) : SS K κ :=
    sSeq (sRet (eCallD (f__is_new_right T 7) (eV 0) (eInt 6)))
    (sNil)
def f_is_right (T : Tx K κ mg) : Fn := Pv.fnOf 1 (b_is_right T).asg (b_is_right T).sv
abbrev s_check_right : Stmt := topS 16
abbrev N_check_right : List Str := ["thing"]
abbrev p_check_right : List Str := ["thing"]
theorem sc_check_right : FnScope N_check_right p_check_right (defScope s_check_right) := ⟨rfl, rfl, rfl, by decide +kernel, rfl, by decide +kernel, by decide +kernel⟩
def b_check_right (T : Tx K κ mg) : SS K κ :=
    sSeq (sIf (tNot' (tV (eCall 1 (f_is_right T) (aCons (eV 0) (aNil))))) (sSeq (sNever)
    (sNil)) (sNil))
    (sNil)
def f_check_right (T : Tx K κ mg) : Fn := Pv.fnOf 1 (b_check_right T).asg (b_check_right T).sv
abbrev s__most_calls : Stmt := topS 26
abbrev N__most_calls : List Str := ["right", "kind", "part"]
abbrev p__most_calls : List Str := ["right"]
theorem sc__most_calls : FnScope N__most_calls p__most_calls (defScope s__most_calls) := ⟨rfl, rfl, rfl, by decide +kernel, rfl, by decide +kernel, by decide +kernel⟩
def b__most_calls (T : Tx K κ mg) (slf : Fn) : SS K κ :=
    sSeq (sAsg 1 (eIxT (eV 0) (eInt 0)))
    (sSeq (sIf (tV' (eEq (eV 1) (eStr "none"))) (sSeq (sRet (eInt 0))
    (sNil)) (sNil))
    (sSeq (sIf (tV' (eEq (eV 1) (eStr "call"))) (sSeq (sRet (eIxT (eV 0) (eInt 3)))
    (sNil)) (sNil))
    (sSeq (sIf (tV' (eEq (eV 1) (eStr "all"))) (sSeq (sRet (eSum (aCons (eLc (iT (eIxT (eV 0) (eInt 1))) (gN 2) (tYes') (eCall 1 slf (aCons (eV 2) (aNil))) [2] (fun _ h => h)) (aNil))))
    (sNil)) (sNil))
    (sSeq (sIf (tV' (eEq (eV 1) (eStr "one"))) (sSeq (sRet (eTopDf (eLc (iT (eIxT (eV 0) (eInt 1))) (gN 2) (tYes') (eCall 1 slf (aCons (eV 2) (aNil))) [2] (fun _ h => h)) (eInt 0)))
    (sNil)) (sNil))
    (sSeq (sRet (eMin2 (aCons (eIxT (eV 0) (eInt 1)) (aCons (eCall 1 slf (aCons (eIxT (eV 0) (eInt 2)) (aNil))) (aNil)))))
    (sNil))))))
def f__most_calls (T : Tx K κ mg) : Nat → Fn
  | 0 => fun _ => .bad
  | n + 1 => Pv.fnOf 3 (b__most_calls T (f__most_calls T n)).asg (b__most_calls T (f__most_calls T n)).sv
abbrev s_sum_of_first : Stmt := topS 33
abbrev N_sum_of_first : List Str := ["row", "count", "total", "left", "amount", "times", "_"]
abbrev p_sum_of_first : List Str := ["row", "count"]
theorem sc_sum_of_first : FnScope N_sum_of_first p_sum_of_first (defScope s_sum_of_first) := ⟨rfl, rfl, rfl, by decide +kernel, rfl, by decide +kernel, by decide +kernel⟩
def b_sum_of_first (T : Tx K κ mg) : SS K κ :=
    sSeq (sAsg 2 (eInt 0))
    (sSeq (sAsg 3 (eV 1))
    (sSeq (sFor (iT (eV 0)) (gT 3 (gs1 (gN 4) (gs1 (gN 5) (gs1 (gN 6) (gs0))))) (sSeq (sIf (tV' (eGe (eV 5) (eV 3))) (sSeq (sRet (eAdd (eV 2) (eMul (eV 4) (eV 3))))
    (sNil)) (sNil))
    (sSeq (sAugAdd 2 (eMul (eV 4) (eV 5)))
    (sSeq (sAugSub 3 (eV 5))
    (sNil)))))
    (sSeq (sRet (eV 2))
    (sNil))))
def f_sum_of_first (T : Tx K κ mg) : Fn := Pv.fnOf 7 (b_sum_of_first T).asg (b_sum_of_first T).sv
abbrev s__rows_of_all : Stmt := topS 28
abbrev N__rows_of_all : List Str := ["rights", "below", "rows", "right", "others", "row", "other"]
abbrev p__rows_of_all : List Str := ["rights", "below"]
theorem sc__rows_of_all : FnScope N__rows_of_all p__rows_of_all (defScope s__rows_of_all) := ⟨rfl, rfl, rfl, by decide +kernel, rfl, by decide +kernel, by decide +kernel⟩
def b__rows_of_all (T : Tx K κ mg) (slf : Fn) : SS K κ :=
    sSeq (sAsg 2 (eLst (aCons (eTup (aNil)) (aNil))))
    (sSeq (sFor (iT (eV 0)) (gN 3) (sSeq (sAsg 4 (eCall 2 slf (aCons (eV 3) (aCons (eV 1) (aNil)))))
    (sSeq (sAsg 2 (eLc2 (iL (eV 2)) (gN 5) (iL (eV 4)) (gN 6) (eTupOf (aCons (eSortTR (eCatT (eV 5) (eV 6))) (aNil))) [5, 6] [6] (fun i h => (List.mem_append_left [6] h : i ∈ [5] ++ [6])) (fun _ h => h) (by decide)))
    (sNil))))
    (sSeq (sRet (eV 2))
    (sNil)))
def f__rows_of_all (T : Tx K κ mg) (slf : Fn) : Fn := Pv.fnOf 7 (b__rows_of_all T slf).asg (b__rows_of_all T slf).sv
abbrev s__amount_below : Stmt := topS 21
abbrev N__amount_below : List Str := ["amount", "below"]
abbrev p__amount_below : List Str := ["amount", "below"]
theorem sc__amount_below : FnScope N__amount_below p__amount_below (defScope s__amount_below) := ⟨rfl, rfl, rfl, by decide +kernel, rfl, by decide +kernel, by decide +kernel⟩
def b__amount_below (T : Tx K κ mg) : SS K κ :=
    sSeq (sRet (eIf (tV (eIsN (eV 1))) (eV 0) (eMin2 (aCons (eV 0) (aCons (eSub (eV 1) (eInt 1)) (aNil))))))
    (sNil)
def f__amount_below (T : Tx K κ mg) : Fn := Pv.fnOf 2 (b__amount_below T).asg (b__amount_below T).sv
abbrev s__outdoes : Stmt := topS 30
abbrev N__outdoes : List Str := ["row", "other", "count", "total", "amount", "times", "_"]
abbrev p__outdoes : List Str := ["row", "other"]
theorem sc__outdoes : FnScope N__outdoes p__outdoes (defScope s__outdoes) := ⟨rfl, rfl, rfl, by decide +kernel, rfl, by decide +kernel, by decide +kernel⟩
def b__outdoes (T : Tx K κ mg) : SS K κ :=
    sSeq (sAsgTwo 2 3 (eInt 0))
    (sSeq (sFor (iT (eV 1)) (gT 3 (gs1 (gN 4) (gs1 (gN 5) (gs1 (gN 6) (gs0))))) (sSeq (sAugAdd 2 (eV 5))
    (sSeq (sAugAdd 3 (eMul (eV 4) (eV 5)))
    (sSeq (sIf (tV' (eLt (eCall 2 (f_sum_of_first T) (aCons (eV 0) (aCons (eV 2) (aNil)))) (eV 3))) (sSeq (sRet (eBl false))
    (sNil)) (sNil))
    (sNil)))))
    (sSeq (sRet (eBl true))
    (sNil)))
def f__outdoes (T : Tx K κ mg) : Fn := Pv.fnOf 7 (b__outdoes T).asg (b__outdoes T).sv
abbrev s__not_outdone : Stmt := topS 29
abbrev N__not_outdone : List Str := ["rows", "kept", "row", "other"]
abbrev p__not_outdone : List Str := ["rows"]
theorem sc__not_outdone : FnScope N__not_outdone p__not_outdone (defScope s__not_outdone) := ⟨rfl, rfl, rfl, by decide +kernel, rfl, by decide +kernel, by decide +kernel⟩
def b__not_outdone (T : Tx K κ mg) : SS K κ :=
    sSeq (sAsg 1 (eLst (aCons (eTup (aNil)) (aNil))))
    (sSeq (sFor (iL (eV 0)) (gN 2) (sSeq (sIf (tNot' (tV (eAny (aCons (eLc (iL (eV 1)) (gN 3) (tYes') (eCall 2 (f__outdoes T) (aCons (eV 3) (aCons (eV 2) (aNil)))) [3] (fun _ h => h)) (aNil))))) (sSeq (sAsg 1 (eCatL (eLc (iL (eV 1)) (gN 3) (tNot' (tV (eCall 2 (f__outdoes T) (aCons (eV 2) (aCons (eV 3) (aNil)))))) (eV 3) [3] (fun _ h => h)) (eLst (aCons (eV 2) (aNil)))))
    (sNil)) (sNil))
    (sNil)))
    (sSeq (sRet (eV 1))
    (sNil)))
def f__not_outdone (T : Tx K κ mg) : Fn := Pv.fnOf 4 (b__not_outdone T).asg (b__not_outdone T).sv
abbrev s__cut_at_count : Stmt := topS 32
abbrev N__cut_at_count : List Str := ["row", "count", "lots", "left", "amount", "times", "name", "fitting"]
abbrev p__cut_at_count : List Str := ["row", "count"]
theorem sc__cut_at_count : FnScope N__cut_at_count p__cut_at_count (defScope s__cut_at_count) := ⟨rfl, rfl, rfl, by decide +kernel, rfl, by decide +kernel, by decide +kernel⟩
def b__cut_at_count (T : Tx K κ mg) : SS K κ :=
    sSeq (sAsg 2 (eLstM (aNil)))
    (sSeq (sAsg 3 (eV 1))
    (sSeq (sFor (iT (eV 0)) (gT 3 (gs1 (gN 4) (gs1 (gN 5) (gs1 (gN 6) (gs0))))) (sSeq (sAsg 7 (eMin2 (aCons (eV 5) (aCons (eV 3) (aNil)))))
    (sSeq (sIf (tV' (eGt (eV 7) (eInt 0))) (sSeq (sApp K rfl 2 (eTup (aCons (eV 4) (aCons (eV 7) (aCons (eV 6) (aNil))))))
    (sNil)) (sNil))
    (sSeq (sAugSub 3 (eV 7))
    (sNil)))))
    (sSeq (sRet (eTupOf (aCons (eV 2) (aNil))))
    (sNil))))
def f__cut_at_count (T : Tx K κ mg) : Fn := Pv.fnOf 8 (b__cut_at_count T).asg (b__cut_at_count T).sv
abbrev s__cut_at_sum : Stmt := topS 31
abbrev N__cut_at_sum : List Str := ["row", "bound", "lots", "left", "amount", "times", "name", "fitting"]
abbrev p__cut_at_sum : List Str := ["row", "bound"]
theorem sc__cut_at_sum : FnScope N__cut_at_sum p__cut_at_sum (defScope s__cut_at_sum) := ⟨rfl, rfl, rfl, by decide +kernel, rfl, by decide +kernel, by decide +kernel⟩
def b__cut_at_sum (T : Tx K κ mg) : SS K κ :=
    sSeq (sAsg 2 (eLstM (aNil)))
    (sSeq (sAsg 3 (eV 1))
    (sSeq (sFor (iT (eV 0)) (gT 3 (gs1 (gN 4) (gs1 (gN 5) (gs1 (gN 6) (gs0))))) (sSeq (sAsg 7 (eMin2 (aCons (eV 5) (aCons (eDiv (eV 3) (eV 4)) (aNil)))))
    (sSeq (sIf (tV' (eGt (eV 7) (eInt 0))) (sSeq (sApp K rfl 2 (eTup (aCons (eV 4) (aCons (eV 7) (aCons (eV 6) (aNil))))))
    (sNil)) (sNil))
    (sSeq (sAugSub 3 (eMul (eV 4) (eV 7)))
    (sSeq (sIf (tV' (eLt (eV 7) (eV 5))) (sSeq (sRet (eIf (tV' (eGt (eV 3) (eInt 0))) (eTupOf (aCons (eCatL (eV 2) (eLst (aCons (eTup (aCons (eV 3) (aCons (eInt 1) (aCons (eV 6) (aNil))))) (aNil)))) (aNil))) (eTupOf (aCons (eV 2) (aNil)))))
    (sNil)) (sNil))
    (sNil))))))
    (sSeq (sRet (eTupOf (aCons (eV 2) (aNil))))
    (sNil))))
def f__cut_at_sum (T : Tx K κ mg) : Fn := Pv.fnOf 8 (b__cut_at_sum T).asg (b__cut_at_sum T).sv
abbrev s_rows_of : Stmt := topS 27
abbrev N_rows_of : List Str := ["right", "below", "kind", "amount", "row", "part"]
abbrev p_rows_of : List Str := ["right", "below"]
theorem sc_rows_of : FnScope N_rows_of p_rows_of (defScope s_rows_of) := ⟨rfl, rfl, rfl, by decide +kernel, rfl, by decide +kernel, by decide +kernel⟩
def b_rows_of (T : Tx K κ mg) (slf : Fn) (oth : Fn) : SS K κ :=
    sSeq (sAsg 2 (eIxT (eV 0) (eInt 0)))
    (sSeq (sIf (tV' (eEq (eV 2) (eStr "none"))) (sSeq (sRet (eLst (aCons (eTup (aNil)) (aNil))))
    (sNil)) (sNil))
    (sSeq (sIf (tV' (eEq (eV 2) (eStr "call"))) (sSeq (sAsg 3 (eCall 2 (f__amount_below T) (aCons (eIxT (eV 0) (eInt 2)) (aCons (eV 1) (aNil)))))
    (sSeq (sRet (eIf (tV' (eGt (eV 3) (eInt 0))) (eLst (aCons (eTup (aCons (eTup (aCons (eV 3) (aCons (eIxT (eV 0) (eInt 3)) (aCons (eIxT (eV 0) (eInt 1)) (aNil))))) (aNil))) (aNil))) (eLst (aCons (eTup (aNil)) (aNil)))))
    (sNil))) (sNil))
    (sSeq (sIf (tV' (eEq (eV 2) (eStr "all"))) (sSeq (sRet (eCall 2 oth (aCons (eIxT (eV 0) (eInt 1)) (aCons (eV 1) (aNil)))))
    (sNil)) (sNil))
    (sSeq (sIf (tV' (eEq (eV 2) (eStr "one"))) (sSeq (sRet (eCall 1 (f__not_outdone T) (aCons (eLc2 (iT (eIxT (eV 0) (eInt 1))) (gN 5) (iL (eCall 2 slf (aCons (eV 5) (aCons (eV 1) (aNil))))) (gN 4) (eV 4) [5, 4] [4] (fun i h => (List.mem_append_left [4] h : i ∈ [5] ++ [4])) (fun _ h => h) (by decide)) (aNil))))
    (sNil)) (sNil))
    (sSeq (sIf (tV' (eEq (eV 2) (eStr "within"))) (sSeq (sRet (eLc (iL (eCall 2 slf (aCons (eIxT (eV 0) (eInt 2)) (aCons (eV 1) (aNil))))) (gN 4) (tYes') (eCall 2 (f__cut_at_sum T) (aCons (eV 4) (aCons (eIxT (eV 0) (eInt 1)) (aNil)))) [4] (fun _ h => h)))
    (sNil)) (sNil))
    (sSeq (sRet (eLc (iL (eCall 2 slf (aCons (eIxT (eV 0) (eInt 2)) (aCons (eV 1) (aNil))))) (gN 4) (tYes') (eCall 2 (f__cut_at_count T) (aCons (eV 4) (aCons (eIxT (eV 0) (eInt 1)) (aNil)))) [4] (fun _ h => h)))
    (sNil)))))))
def f_rows_of (T : Tx K κ mg) : Nat → Fn
  | 0 => fun _ => .bad
  | n + 1 => Pv.fnOf 6 (b_rows_of T (f_rows_of T n) (f__rows_of_all T (f_rows_of T n))).asg (b_rows_of T (f_rows_of T n) (f__rows_of_all T (f_rows_of T n))).sv
abbrev s_greatest_sum : Stmt := topS 19
abbrev N_greatest_sum : List Str := ["right", "below", "calls", "row"]
abbrev p_greatest_sum : List Str := ["right", "below", "calls"]
theorem sc_greatest_sum : FnScope N_greatest_sum p_greatest_sum (defScope s_greatest_sum) := ⟨rfl, rfl, rfl, by decide +kernel, rfl, by decide +kernel, by decide +kernel⟩
def b_greatest_sum (T : Tx K κ mg) (slf : Fn) : SS K κ :=
    sSeq (sIf (tOr' (tV (eIsN (eV 2))) (tV' (eGe (eV 2) (eCall 1 (f__most_calls T 7) (aCons (eV 0) (aNil)))))) (sSeq (sRet (eCall 2 slf (aCons (eV 0) (aCons (eV 1) (aNil)))))
    (sNil)) (sNil))
    (sSeq (sRet (eTop1 (eLc (iL (eCall 2 (f_rows_of T 7) (aCons (eV 0) (aCons (eV 1) (aNil))))) (gN 3) (tYes') (eCall 2 (f_sum_of_first T) (aCons (eV 3) (aCons (eV 2) (aNil)))) [3] (fun _ h => h))))
    (sNil))
def f_greatest_sum (T : Tx K κ mg) (slf : Fn) : Fn := Pv.fnOf 4 (b_greatest_sum T slf).asg (b_greatest_sum T slf).sv
abbrev s__sum_of_all_calls : Stmt := topS 20
abbrev N__sum_of_all_calls : List Str := ["right", "below", "kind", "part"]
abbrev p__sum_of_all_calls : List Str := ["right", "below"]
theorem sc__sum_of_all_calls : FnScope N__sum_of_all_calls p__sum_of_all_calls (defScope s__sum_of_all_calls) := ⟨rfl, rfl, rfl, by decide +kernel, rfl, by decide +kernel, by decide +kernel⟩
def b__sum_of_all_calls (T : Tx K κ mg) (slf : Fn) (oth : Fn) : SS K κ :=
    sSeq (sAsg 2 (eIxT (eV 0) (eInt 0)))
    (sSeq (sIf (tV' (eEq (eV 2) (eStr "none"))) (sSeq (sRet (eInt 0))
    (sNil)) (sNil))
    (sSeq (sIf (tV' (eEq (eV 2) (eStr "call"))) (sSeq (sRet (eMul (eIxT (eV 0) (eInt 3)) (eCall 2 (f__amount_below T) (aCons (eIxT (eV 0) (eInt 2)) (aCons (eV 1) (aNil))))))
    (sNil)) (sNil))
    (sSeq (sIf (tV' (eEq (eV 2) (eStr "all"))) (sSeq (sRet (eSum (aCons (eLc (iT (eIxT (eV 0) (eInt 1))) (gN 3) (tYes') (eCall 2 slf (aCons (eV 3) (aCons (eV 1) (aNil)))) [3] (fun _ h => h)) (aNil))))
    (sNil)) (sNil))
    (sSeq (sIf (tV' (eEq (eV 2) (eStr "one"))) (sSeq (sRet (eTopDf (eLc (iT (eIxT (eV 0) (eInt 1))) (gN 3) (tYes') (eCall 2 slf (aCons (eV 3) (aCons (eV 1) (aNil)))) [3] (fun _ h => h)) (eInt 0)))
    (sNil)) (sNil))
    (sSeq (sIf (tV' (eEq (eV 2) (eStr "within"))) (sSeq (sRet (eMin2 (aCons (eIxT (eV 0) (eInt 1)) (aCons (eCall 2 slf (aCons (eIxT (eV 0) (eInt 2)) (aCons (eV 1) (aNil)))) (aNil)))))
    (sNil)) (sNil))
    (sSeq (sRet (eCall 3 oth (aCons (eIxT (eV 0) (eInt 2)) (aCons (eV 1) (aCons (eIxT (eV 0) (eInt 1)) (aNil))))))
    (sNil)))))))
def f__sum_of_all_calls (T : Tx K κ mg) : Nat → Fn
  | 0 => fun _ => .bad
  | n + 1 => Pv.fnOf 4 (b__sum_of_all_calls T (f__sum_of_all_calls T n) (f_greatest_sum T (f__sum_of_all_calls T n))).asg (b__sum_of_all_calls T (f__sum_of_all_calls T n) (f_greatest_sum T (f__sum_of_all_calls T n))).sv
abbrev s_greatest_call : Stmt := topS 23
abbrev N_greatest_call : List Str := ["right", "part"]
abbrev p_greatest_call : List Str := ["right"]
theorem sc_greatest_call : FnScope N_greatest_call p_greatest_call (defScope s_greatest_call) := ⟨rfl, rfl, rfl, by decide +kernel, rfl, by decide +kernel, by decide +kernel⟩
def b_greatest_call (T : Tx K κ mg) (slf : Fn) : SS K κ :=
    sSeq (sIf (tV' (eEq (eIxT (eV 0) (eInt 0)) (eStr "call"))) (sSeq (sRet (eIxT (eV 0) (eInt 2)))
    (sNil)) (sNil))
    (sSeq (sRet (eTopDf (eLc (iT (eCall 1 (f_straight_within T) (aCons (eV 0) (aNil)))) (gN 1) (tYes') (eCall 1 slf (aCons (eV 1) (aNil))) [1] (fun _ h => h)) (eInt 0)))
    (sNil))
def f_greatest_call (T : Tx K κ mg) : Nat → Fn
  | 0 => fun _ => .bad
  | n + 1 => Pv.fnOf 2 (b_greatest_call T (f_greatest_call T n)).asg (b_greatest_call T (f_greatest_call T n)).sv
abbrev s_sums_below : Stmt := topS 22
abbrev N_sums_below : List Str := ["right", "below"]
abbrev p_sums_below : List Str := ["right"]
theorem sc_sums_below : FnScope N_sums_below p_sums_below (defScope s_sums_below) := ⟨rfl, rfl, rfl, by decide +kernel, rfl, by decide +kernel, by decide +kernel⟩
def b_sums_below (T : Tx K κ mg) : SS K κ :=
    sSeq (sRet (eCatL (eLst (aCons (eInt 0) (aNil))) (eLc (iR2 (eInt 1) (eAdd (eCall 1 (f_greatest_call T 7) (aCons (eV 0) (aNil))) (eInt 2))) (gN 1) (tYes') (eCall 3 (f_greatest_sum T (f__sum_of_all_calls T 7)) (aCons (eV 0) (aCons (eV 1) (aCons (eNon) (aNil))))) [1] (fun _ h => h))))
    (sNil)
def f_sums_below (T : Tx K κ mg) : Fn := Pv.fnOf 2 (b_sums_below T).asg (b_sums_below T).sv
abbrev s__has_small_mosts : Stmt := topS 25
abbrev N__has_small_mosts : List Str := ["right", "part"]
abbrev p__has_small_mosts : List Str := ["right"]
theorem sc__has_small_mosts : FnScope N__has_small_mosts p__has_small_mosts (defScope s__has_small_mosts) := ⟨rfl, rfl, rfl, by decide +kernel, rfl, by decide +kernel, by decide +kernel⟩
def b__has_small_mosts (T : Tx K κ mg) (slf : Fn) : SS K κ :=
    sSeq (sIf (tOr' (tAnd' (tV' (eEq (eIxT (eV 0) (eInt 0)) (eStr "call"))) (tV' (eGt (eIxT (eV 0) (eInt 2)) (eInt 200)))) (tAnd' (tV' (eEq (eIxT (eV 0) (eInt 0)) (eStr "within"))) (tV' (eGt (eIxT (eV 0) (eInt 1)) (eInt 200))))) (sSeq (sRet (eBl false))
    (sNil)) (sNil))
    (sSeq (sRet (eAll (aCons (eLc (iT (eCall 1 (f_straight_within T) (aCons (eV 0) (aNil)))) (gN 1) (tYes') (eCall 1 slf (aCons (eV 1) (aNil))) [1] (fun _ h => h)) (aNil))))
    (sNil))
def f__has_small_mosts (T : Tx K κ mg) : Nat → Fn
  | 0 => fun _ => .bad
  | n + 1 => Pv.fnOf 2 (b__has_small_mosts T (f__has_small_mosts T n)).asg (b__has_small_mosts T (f__has_small_mosts T n)).sv
abbrev s_check_small_right : Stmt := topS 24
abbrev N_check_small_right : List Str := ["right"]
abbrev p_check_small_right : List Str := ["right"]
theorem sc_check_small_right : FnScope N_check_small_right p_check_small_right (defScope s_check_small_right) := ⟨rfl, rfl, rfl, by decide +kernel, rfl, by decide +kernel, by decide +kernel⟩
def b_check_small_right (T : Tx K κ mg) : SS K κ :=
    sSeq (sIf (tOr' (tNot' (tV (eCall 1 (f__has_small_mosts T 7) (aCons (eV 0) (aNil))))) (tV' (eGt (eCall 3 (f_greatest_sum T (f__sum_of_all_calls T 7)) (aCons (eV 0) (aCons (eNon) (aCons (eNon) (aNil))))) (eInt 200)))) (sSeq (sNever)
    (sNil)) (sNil))
    (sNil)
def f_check_small_right (T : Tx K κ mg) : Fn := Pv.fnOf 1 (b_check_small_right T).asg (b_check_small_right T).sv
abbrev s__calls_from : Stmt := topS 36
abbrev N__calls_from : List Str := ["sums", "worth", "reached", "below"]
abbrev p__calls_from : List Str := ["sums", "worth", "reached"]
theorem sc__calls_from : FnScope N__calls_from p__calls_from (defScope s__calls_from) := ⟨rfl, rfl, rfl, by decide +kernel, rfl, by decide +kernel, by decide +kernel⟩
def b__calls_from (T : Tx K κ mg) : SS K κ :=
    sSeq (sRet (eTop1 (eCatL (eLst (aCons (eInt 0) (aNil))) (eLc (iR2 (eAdd (eV 1) (eInt 1)) (eLen (aCons (eV 0) (aNil)))) (gN 3) (tYes') (eNeg (eDiv (eSub (eV 2) (eIxL (eV 0) (eV 3))) (eSub (eV 3) (eV 1)))) [3] (fun _ h => h)))))
    (sNil)
def f__calls_from (T : Tx K κ mg) : Fn := Pv.fnOf 4 (b__calls_from T).asg (b__calls_from T).sv
abbrev s_cover : Stmt := topS 35
abbrev N_cover : List Str := ["right", "sums", "lots", "reached", "most_each", "times", "worth", "needed"]
abbrev p_cover : List Str := ["right"]
theorem sc_cover : FnScope N_cover p_cover (defScope s_cover) := ⟨rfl, rfl, rfl, by decide +kernel, rfl, by decide +kernel, by decide +kernel⟩
def b_cover (T : Tx K κ mg) : SS K κ :=
    sSeq (sDrop (eCall 1 (f_check_right T) (aCons (eV 0) (aNil))))
    (sSeq (sDrop (eCall 1 (f_check_small_right T) (aCons (eV 0) (aNil))))
    (sSeq (sAsg 1 (eCall 1 (f_sums_below T) (aCons (eV 0) (aNil))))
    (sSeq (sAsg 2 (eLstM (aNil)))
    (sSeq (sAsg 3 (eInt 0))
    (sSeq (sAsgG (gT 2 (gs1 (gN 4) (gs1 (gN 5) (gs0)))) (eTup (aCons (eInt 0) (aCons (eInt 0) (aNil)))))
    (sSeq (sFor (iR2 (eInt 1) (eLen (aCons (eV 1) (aNil)))) (gN 6) (sSeq (sAsg 7 (eCall 3 (f__calls_from T) (aCons (eV 1) (aCons (eV 6) (aCons (eV 3) (aNil))))))
    (sSeq (sIf (tV' (eLt (eV 7) (eV 5))) (sSeq (sApp K rfl 2 (eTup (aCons (eV 4) (aCons (eSub (eV 5) (eV 7)) (aNil)))))
    (sNil)) (sNil))
    (sSeq (sAugAdd 3 (eV 7))
    (sSeq (sPar 4 5 (by decide) (eV 6) (eV 7))
    (sNil))))))
    (sSeq (sDrop (eRevOwn 2))
    (sSeq (sRet (eTupOf (aCons (eV 2) (aNil))))
    (sNil)))))))))
def f_cover (T : Tx K κ mg) : Fn := Pv.fnOf 8 (b_cover T).asg (b_cover T).sv
abbrev s_l_mixed : Stmt := topS 38
abbrev N_l_mixed : List Str := ["_law_cell_here", "_law_k", "_law_mix"]
abbrev p_l_mixed : List Str := ["_law_cell_here", "_law_k"]
theorem sc_l_mixed : FnScope N_l_mixed p_l_mixed (defScope s_l_mixed) := ⟨rfl, rfl, rfl, by decide +kernel, rfl, by decide +kernel, by decide +kernel⟩
def b_l_mixed (T : Tx K κ mg) : SS K κ :=
    sSeq (sAsg 2 (eMod (eAdd (eAdd (eMul (eMod (eV 0) (eInt 2147483647)) (eInt 48271)) (eMul (eV 1) (eInt 69621))) (eInt 1048583)) (eInt 2147483629)))
    (sSeq (sAsg 2 (eMod (eMul (eV 2) (eV 2)) (eInt 2147483587)))
    (sSeq (sRet (eMod (eMul (eV 2) (eAdd (eV 2) (eInt 2))) (eInt 2147483579)))
    (sNil)))
def f_l_mixed (T : Tx K κ mg) : Fn := Pv.fnOf 3 (b_l_mixed T).asg (b_l_mixed T).sv
abbrev s_l_cell : Stmt := topS 39
abbrev N_l_cell : List Str := ["_law_script", "_law_k", "_law_cell_here", "_law_found", "_law_j"]
abbrev p_l_cell : List Str := ["_law_script", "_law_k"]
theorem sc_l_cell : FnScope N_l_cell p_l_cell (defScope s_l_cell) := ⟨rfl, rfl, rfl, by decide +kernel, rfl, by decide +kernel, by decide +kernel⟩
def b_l_cell (T : Tx K κ mg) : SS K κ :=
    sSeq (sAsg 2 (eInt 0))
    (sSeq (sIf (tV' (eLt (eV 1) (eLen (aCons (eV 0) (aNil))))) (sSeq (sAsg 2 (eIxL (eV 0) (eV 1)))
    (sNil)) (sNil))
    (sSeq (sIf (tV' (eGe (eV 2) (ePow (eInt 10) (eInt 18)))) (sSeq (sRet (eMod (eSub (eV 2) (ePow (eInt 10) (eInt 18))) (eMulW (eMulW (eMulW (ePow (eInt 10) (eInt 60)) (ePow (eInt 10) (eInt 60))) (ePow (eInt 10) (eInt 60))) (ePow (eInt 10) (eInt 60)))))
    (sNil)) (sNil))
    (sSeq (sAsg 3 (eInt 0))
    (sSeq (sFor (iR1 (eInt 24)) (gN 4) (sSeq (sAsg 3 (eAdd (eMul (eV 3) (eInt 2147483579)) (eCall 2 (f_l_mixed T) (aCons (eV 2) (aCons (eAdd (eAdd (eMul (eInt 7) (eV 1)) (eMul (eInt 100) (eV 4))) (eMul (eV 4) (eV 4))) (aNil))))))
    (sNil)))
    (sSeq (sRet (eV 3))
    (sNil))))))
def f_l_cell (T : Tx K κ mg) : Fn := Pv.fnOf 5 (b_l_cell T).asg (b_l_cell T).sv
abbrev s_l_take : Stmt := topS 40
abbrev N_l_take : List Str := ["_law_pile", "_law_size", "_law_digit"]
abbrev p_l_take : List Str := ["_law_pile", "_law_size"]
theorem sc_l_take : FnScope N_l_take p_l_take (defScope s_l_take) := ⟨rfl, rfl, rfl, by decide +kernel, rfl, by decide +kernel, by decide +kernel⟩
def b_l_take (T : Tx K κ mg) : SS K κ :=
    sSeq (sAsg 2 (eMod (eIxM 0 (eInt 0)) (eV 1)))
    (sSeq (sSetL 0 0 (eDiv (eIxM 0 (eInt 0)) (eV 1)))
    (sSeq (sRet (eV 2))
    (sNil)))
def f_l_take (T : Tx K κ mg) : Fn := Pv.fnOf 3 (b_l_take T).asg (b_l_take T).sv
abbrev s_l_length : Stmt := topS 41
abbrev N_l_length : List Str := ["_law_right_here", "_law_word", "_law_counts", "_law_part"]
abbrev p_l_length : List Str := ["_law_right_here"]
theorem sc_l_length : FnScope N_l_length p_l_length (defScope s_l_length) := ⟨rfl, rfl, rfl, by decide +kernel, rfl, by decide +kernel, by decide +kernel⟩
def b_l_length (T : Tx K κ mg) (slf : Fn) : SS K κ :=
    sSeq (sAsg 1 (eIxT (eV 0) (eInt 0)))
    (sSeq (sIf (tV' (eEq (eV 1) (eStr "call"))) (sSeq (sRet (eIxT (eV 0) (eInt 3)))
    (sNil)) (sNil))
    (sSeq (sIf (tV' (eInS (eV 1) (eTup (aCons (eStr "within") (aCons (eStr "calls") (aNil)))))) (sSeq (sRet (eMin2 (aCons (eIxT (eV 0) (eInt 1)) (aCons (eCall 1 slf (aCons (eIxT (eV 0) (eInt 2)) (aNil))) (aNil)))))
    (sNil)) (sNil))
    (sSeq (sIf (tV' (eEq (eV 1) (eStr "none"))) (sSeq (sRet (eInt 0))
    (sNil)) (sNil))
    (sSeq (sAsg 2 (eLc (iT (eIxT (eV 0) (eInt 1))) (gN 3) (tYes') (eCall 1 slf (aCons (eV 3) (aNil))) [3] (fun _ h => h)))
    (sSeq (sRet (eIf (tV' (eEq (eV 1) (eStr "all"))) (eSum (aCons (eV 2) (aNil))) (eTop1 (eCatL (eV 2) (eLst (aCons (eInt 0) (aNil)))))))
    (sNil))))))
def f_l_length (T : Tx K κ mg) : Nat → Fn
  | 0 => fun _ => .bad
  | n + 1 => Pv.fnOf 4 (b_l_length T (f_l_length T n)).asg (b_l_length T (f_l_length T n)).sv
abbrev s_l_row : Stmt := topS 42
abbrev N_l_row : List Str := ["_law_right_here", "_law_bound", "_law_many", "_law_word", "_law_found", "_law_part", "_law_cut", "_law_row_here", "_law_j", "_law_one", "_law_pair", "_law_i"]
abbrev p_l_row : List Str := ["_law_right_here", "_law_bound", "_law_many"]
theorem sc_l_row : FnScope N_l_row p_l_row (defScope s_l_row) := ⟨rfl, rfl, rfl, by decide +kernel, rfl, by decide +kernel, by decide +kernel⟩
def b_l_row (T : Tx K κ mg) (slf : Fn) : SS K κ :=
    sSeq (sAsg 3 (eIxT (eV 0) (eInt 0)))
    (sSeq (sIf (tV' (eEq (eV 3) (eStr "call"))) (sSeq (sAsg 6 (eIf (tV (eIsN (eV 1))) (eIxT (eV 0) (eInt 2)) (eMin2 (aCons (eIxT (eV 0) (eInt 2)) (aCons (eSub (eV 1) (eInt 1)) (aNil))))))
    (sSeq (sRet (eLc (iR1 (eAdd (eV 2) (eInt 1))) (gN 8) (tYes') (eMul (eMin2 (aCons (eIxT (eV 0) (eInt 3)) (aCons (eV 8) (aNil)))) (eV 6)) [8] (fun _ h => h)))
    (sNil))) (sNil))
    (sSeq (sIf (tV' (eEq (eV 3) (eStr "within"))) (sSeq (sRet (eLc (iL (eCall 3 slf (aCons (eIxT (eV 0) (eInt 2)) (aCons (eV 1) (aCons (eV 2) (aNil)))))) (gN 9) (tYes') (eMin2 (aCons (eIxT (eV 0) (eInt 1)) (aCons (eV 9) (aNil)))) [9] (fun _ h => h)))
    (sNil)) (sNil))
    (sSeq (sIf (tV' (eEq (eV 3) (eStr "calls"))) (sSeq (sAsg 4 (eCall 3 slf (aCons (eIxT (eV 0) (eInt 2)) (aCons (eV 1) (aCons (eV 2) (aNil))))))
    (sSeq (sRet (eLc (iR1 (eAdd (eV 2) (eInt 1))) (gN 8) (tYes') (eIxL (eV 4) (eMin2 (aCons (eV 8) (aCons (eIxT (eV 0) (eInt 1)) (aNil))))) [8] (fun _ h => h)))
    (sNil))) (sNil))
    (sSeq (sAsg 4 (eRepL (eLstM (aCons (eInt 0) (aNil))) (eAdd (eV 2) (eInt 1))))
    (sSeq (sIf (tV' (eEq (eV 3) (eStr "none"))) (sSeq (sRet (eV 4))
    (sNil)) (sNil))
    (sSeq (sFor (iT (eIxT (eV 0) (eInt 1))) (gN 5) (sSeq (sAsg 7 (eCall 3 slf (aCons (eV 5) (aCons (eV 1) (aCons (eV 2) (aNil))))))
    (sSeq (sIf (tV' (eEq (eV 3) (eStr "one"))) (sSeq (sAsg 4 (eLc (iZipN (eV 4) (eV 7)) (gN 10) (tYes') (eTopT (eV 10)) [10] (fun _ h => h)))
    (sNil)) (sSeq (sAsg 4 (eLc (iR1 (eAdd (eV 2) (eInt 1))) (gN 8) (tYes') (eTop1 (eLc (iR1 (eAdd (eV 8) (eInt 1))) (gN 11) (tYes') (eAdd (eIxL (eV 4) (eV 11)) (eIxL (eV 7) (eSub (eV 8) (eV 11)))) [11] (fun _ h => h))) [8] (fun _ h => h)))
    (sNil)))
    (sNil))))
    (sSeq (sRet (eV 4))
    (sNil))))))))
def f_l_row (T : Tx K κ mg) : Nat → Fn
  | 0 => fun _ => .bad
  | n + 1 => Pv.fnOf 12 (b_l_row T (f_l_row T n)).asg (b_l_row T (f_l_row T n)).sv
abbrev s_l_top : Stmt := topS 43
abbrev N_l_top : List Str := ["_law_right_here", "_law_bound", "_law_word", "_law_tops", "_law_part"]
abbrev p_l_top : List Str := ["_law_right_here", "_law_bound"]
theorem sc_l_top : FnScope N_l_top p_l_top (defScope s_l_top) := ⟨rfl, rfl, rfl, by decide +kernel, rfl, by decide +kernel, by decide +kernel⟩
def b_l_top (T : Tx K κ mg) (slf : Fn) : SS K κ :=
    sSeq (sAsg 2 (eIxT (eV 0) (eInt 0)))
    (sSeq (sIf (tV' (eEq (eV 2) (eStr "call"))) (sSeq (sRet (eMul (eIxT (eV 0) (eInt 3)) (eIf (tV (eIsN (eV 1))) (eIxT (eV 0) (eInt 2)) (eMin2 (aCons (eIxT (eV 0) (eInt 2)) (aCons (eSub (eV 1) (eInt 1)) (aNil)))))))
    (sNil)) (sNil))
    (sSeq (sIf (tV' (eEq (eV 2) (eStr "within"))) (sSeq (sRet (eMin2 (aCons (eIxT (eV 0) (eInt 1)) (aCons (eCall 2 slf (aCons (eIxT (eV 0) (eInt 2)) (aCons (eV 1) (aNil)))) (aNil)))))
    (sNil)) (sNil))
    (sSeq (sIf (tV' (eEq (eV 2) (eStr "calls"))) (sSeq (sRet (eIxL (eCall 3 (f_l_row T 7) (aCons (eIxT (eV 0) (eInt 2)) (aCons (eV 1) (aCons (eMin2 (aCons (eIxT (eV 0) (eInt 1)) (aCons (eCall 1 (f_l_length T 7) (aCons (eIxT (eV 0) (eInt 2)) (aNil))) (aNil)))) (aNil))))) (eNegC 1)))
    (sNil)) (sNil))
    (sSeq (sIf (tV' (eEq (eV 2) (eStr "none"))) (sSeq (sRet (eInt 0))
    (sNil)) (sNil))
    (sSeq (sAsg 3 (eLc (iT (eIxT (eV 0) (eInt 1))) (gN 4) (tYes') (eCall 2 slf (aCons (eV 4) (aCons (eV 1) (aNil)))) [4] (fun _ h => h)))
    (sSeq (sRet (eIf (tV' (eEq (eV 2) (eStr "all"))) (eSum (aCons (eV 3) (aNil))) (eTop1 (eCatL (eV 3) (eLst (aCons (eInt 0) (aNil)))))))
    (sNil)))))))
def f_l_top (T : Tx K κ mg) : Nat → Fn
  | 0 => fun _ => .bad
  | n + 1 => Pv.fnOf 5 (b_l_top T (f_l_top T n)).asg (b_l_top T (f_l_top T n)).sv
abbrev s_l_right : Stmt := topS 44
abbrev N_l_right : List Str := ["_law_digits", "_law_deep", "_law_spare", "_law_size", "_law_way", "_law_parts", "_law_k"]
abbrev p_l_right : List Str := ["_law_digits", "_law_deep", "_law_spare", "_law_size"]
theorem sc_l_right : FnScope N_l_right p_l_right (defScope s_l_right) := ⟨rfl, rfl, rfl, by decide +kernel, rfl, by decide +kernel, by decide +kernel⟩
def b_l_right (T : Tx K κ mg) (slf : Fn) : SS K κ :=
    sSeq (sAsg 4 (eCall 2 (f_l_take T) (aM 0 (aCons (eInt 7) (aNil)))))
    (sSeq (sIf (tPk (tV' (eEq (eV 2) (eLst (aNil))))) (sSeq (sRet (eTup (aCons (eStr "none") (aNil))))
    (sNil)) (sNil))
    (sSeq (sIf (tOr' (tV' (eLt (eV 1) (eInt 1))) (tV' (eLt (eV 4) (eInt 2)))) (sSeq (sRet (eTup (aCons (eStr "call") (aCons (ePopAt 2 (eInt 0)) (aCons (eAdd (eInt 1) (eCall 2 (f_l_take T) (aM 0 (aCons (eV 3) (aNil))))) (aCons (eAdd (eInt 1) (eMul (eCall 2 (f_l_take T) (aM 0 (aCons (eInt 2) (aNil)))) (eIntOf (aCons (eEq (eV 4) (eInt 1)) (aNil))))) (aNil)))))))
    (sNil)) (sNil))
    (sSeq (sIf (tV' (eEq (eV 4) (eInt 2))) (sSeq (sRet (eTup (aCons (eStr "within") (aCons (eAdd (eInt 1) (eCall 2 (f_l_take T) (aM 0 (aCons (eMul (eInt 2) (eV 3)) (aNil))))) (aCons (eCall 4 slf (aM 0 (aCons (eSub (eV 1) (eInt 1)) (aM 2 (aCons (eV 3) (aNil)))))) (aNil))))))
    (sNil)) (sNil))
    (sSeq (sIf (tV' (eEq (eV 4) (eInt 3))) (sSeq (sRet (eTup (aCons (eStr "calls") (aCons (eAdd (eInt 1) (eCall 2 (f_l_take T) (aM 0 (aCons (eInt 3) (aNil))))) (aCons (eCall 4 slf (aM 0 (aCons (eSub (eV 1) (eInt 1)) (aM 2 (aCons (eV 3) (aNil)))))) (aNil))))))
    (sNil)) (sNil))
    (sSeq (sAsg 5 (eLc (iR1 (eAdd (eInt 1) (eCall 2 (f_l_take T) (aM 0 (aCons (eInt 3) (aNil)))))) (gN 6) (tYes') (eCall 4 slf (aM 0 (aCons (eSub (eV 1) (eInt 1)) (aM 2 (aCons (eV 3) (aNil)))))) [6] (fun _ h => h)))
    (sSeq (sRet (eTup (aCons (eIxL (eLst (aCons (eStr "all") (aCons (eStr "one") (aCons (eStr "all") (aNil))))) (eSub (eV 4) (eInt 4))) (aCons (eTupOf (aCons (eV 5) (aNil))) (aNil)))))
    (sNil)))))))
def f_l_right (T : Tx K κ mg) : Nat → Fn
  | 0 => fun _ => .bad
  | n + 1 => Pv.fnOf 7 (b_l_right T (f_l_right T n)).asg (b_l_right T (f_l_right T n)).sv
abbrev s_l_high : Stmt := topS 45
abbrev N_l_high : List Str := ["_law_right_here", "_law_parts", "_law_part"]
abbrev p_l_high : List Str := ["_law_right_here"]
theorem sc_l_high : FnScope N_l_high p_l_high (defScope s_l_high) := ⟨rfl, rfl, rfl, by decide +kernel, rfl, by decide +kernel, by decide +kernel⟩
def b_l_high (T : Tx K κ mg) (slf : Fn) : SS K κ :=
    sSeq (sIf (tV' (eEq (eIxT (eV 0) (eInt 0)) (eStr "call"))) (sSeq (sRet (eIxT (eV 0) (eInt 2)))
    (sNil)) (sNil))
    (sSeq (sIf (tV' (eEq (eIxT (eV 0) (eInt 0)) (eStr "none"))) (sSeq (sRet (eInt 0))
    (sNil)) (sNil))
    (sSeq (sAsg 1 (eIf (tV' (eInS (eIxT (eV 0) (eInt 0)) (eTup (aCons (eStr "all") (aCons (eStr "one") (aNil)))))) (eIxT (eV 0) (eInt 1)) (eSlT (eV 0) (o1 (eInt 2)) (o0))))
    (sSeq (sRet (eTop1 (eCatL (eLc (iT (eV 1)) (gN 2) (tYes') (eCall 1 slf (aCons (eV 2) (aNil))) [2] (fun _ h => h)) (eLst (aCons (eInt 0) (aNil))))))
    (sNil))))
def f_l_high (T : Tx K κ mg) : Nat → Fn
  | 0 => fun _ => .bad
  | n + 1 => Pv.fnOf 3 (b_l_high T (f_l_high T n)).asg (b_l_high T (f_l_high T n)).sv
abbrev s_l_lines : Stmt := topS 46
abbrev N_l_lines : List Str := ["_law_sums", "_law_found", "_law_at", "_law_best", "_law_slope", "_law_height", "_law_to"]
abbrev p_l_lines : List Str := ["_law_sums"]
theorem sc_l_lines : FnScope N_l_lines p_l_lines (defScope s_l_lines) := ⟨rfl, rfl, rfl, by decide +kernel, rfl, by decide +kernel, by decide +kernel⟩
def b_l_lines (T : Tx K κ mg) : SS K κ :=
    sSeq (sAsg 1 (eLstM (aNil)))
    (sSeq (sFor (iR1 (eLen (aCons (eV 0) (aNil)))) (gN 2) (sSeq (sAsg 3 (eNon))
    (sSeq (sFor (iR1 (eAdd (eTop1 (eV 0)) (eInt 1))) (gN 4) (sSeq (sAsg 5 (eTop1 (eLc (iR1 (eLen (aCons (eV 0) (aNil)))) (gN 6) (tYes') (eSub (eIxL (eV 0) (eV 6)) (eMul (eV 4) (eSub (eV 6) (eV 2)))) [6] (fun _ h => h))))
    (sSeq (sIf (tOr' (tV (eIsN (eV 3))) (tV' (eLt (eV 5) (eV 3)))) (sSeq (sAsg 3 (eV 5))
    (sNil)) (sNil))
    (sNil))))
    (sSeq (sApp K rfl 1 (eV 3))
    (sNil)))))
    (sSeq (sRet (eV 1))
    (sNil)))
def f_l_lines (T : Tx K κ mg) : Fn := Pv.fnOf 7 (b_l_lines T).asg (b_l_lines T).sv
abbrev s_l_due : Stmt := topS 47
abbrev N_l_due : List Str := ["_law_right_here", "_law_sums", "_law_heights", "_law_steps", "_law_found", "_law_at", "_law_bound", "_law_ahead", "_law_later"]
abbrev p_l_due : List Str := ["_law_right_here"]
theorem sc_l_due : FnScope N_l_due p_l_due (defScope s_l_due) := ⟨rfl, rfl, rfl, by decide +kernel, rfl, by decide +kernel, by decide +kernel⟩
def b_l_due (T : Tx K κ mg) : SS K κ :=
    sSeq (sAsg 1 (eLc (iR2 (eInt 1) (eAdd (eCall 1 (f_l_high T 7) (aCons (eV 0) (aNil))) (eInt 2))) (gN 6) (tYes') (eCall 2 (f_l_top T 7) (aCons (eV 0) (aCons (eV 6) (aNil)))) [6] (fun _ h => h)))
    (sSeq (sAsg 2 (eCall 1 (f_l_lines T) (aCons (eV 1) (aNil))))
    (sSeq (sAsg 3 (eCatL (eLc (iZipLU (eV 2) (eSlL (eV 2) (o1 (eInt 1)) (o0))) (gT 2 (gs1 (gN 7) (gs1 (gN 8) (gs0)))) (tYes') (eSub (eV 8) (eV 7)) [7, 8] (fun _ h => h)) (eLst (aCons (eInt 0) (aNil)))))
    (sSeq (sAsg 4 (eLstM (aNil)))
    (sSeq (sFor (iR1 (eSub (eLen (aCons (eV 3) (aNil))) (eInt 1))) (gN 5) (sSeq (sIf (tV' (eGt (eIxL (eV 3) (eV 5)) (eIxL (eV 3) (eAdd (eV 5) (eInt 1))))) (sSeq (sApp K rfl 4 (eTup (aCons (eAdd (eV 5) (eInt 1)) (aCons (eSub (eIxL (eV 3) (eV 5)) (eIxL (eV 3) (eAdd (eV 5) (eInt 1)))) (aNil)))))
    (sNil)) (sNil))
    (sNil)))
    (sSeq (sRet (eTupOf (aCons (eRevL (eV 4)) (aNil))))
    (sNil))))))
def f_l_due (T : Tx K κ mg) : Fn := Pv.fnOf 9 (b_l_due T).asg (b_l_due T).sv
abbrev s_l_good : Stmt := topS 48
abbrev N_l_good : List Str := ["_law_right_here", "_law_due_here", "_law_found", "_law_size", "_law_often"]
abbrev p_l_good : List Str := ["_law_right_here"]
theorem sc_l_good : FnScope N_l_good p_l_good (defScope s_l_good) := ⟨rfl, rfl, rfl, by decide +kernel, rfl, by decide +kernel, by decide +kernel⟩
def b_l_good (T : Tx K κ mg) : SS K κ :=
    sSeq (sAsg 1 (eCall 1 (f_l_due T) (aCons (eV 0) (aNil))))
    (sSeq (sAsg 2 (eCall 1 (f_cover T) (aCons (eV 0) (aNil))))
    (sSeq (sIf (tOr' (tV' (eNe (eV 2) (eV 1))) (tOr' (tNot' (tV (eIsTy "tuple" (eV 2)))) (tV' (eNe (eCall 1 (f_cover T) (aCons (eV 0) (aNil))) (eV 1))))) (sSeq (sRet (eBl false))
    (sNil)) (sNil))
    (sSeq (sFor (iT (eV 2)) (gT 2 (gs1 (gN 3) (gs1 (gN 4) (gs0)))) (sSeq (sIf (tOr' (tV (eIsTy "bool" (eV 3))) (tV (eIsTy "bool" (eV 4)))) (sSeq (sRet (eBl false))
    (sNil)) (sNil))
    (sNil)))
    (sSeq (sRet (eBl true))
    (sNil)))))
def f_l_good (T : Tx K κ mg) : Fn := Pv.fnOf 5 (b_l_good T).asg (b_l_good T).sv
abbrev s_law : Stmt := topS 49
abbrev N_law : List Str := ["_law_script", "_law_turn", "_law_choice_told", "_law_calls_told", "_law_deep_one", "_law_fewer", "_law_digits", "_law_k", "_law_one", "_law_other"]
abbrev p_law : List Str := ["_law_script"]
theorem sc_law : FnScope N_law p_law (defScope s_law) := ⟨rfl, rfl, rfl, by decide +kernel, rfl, by decide +kernel, by decide +kernel⟩
def b_law (T : Tx K κ mg) : SS K κ :=
    sSeq (sFor (iR1 (eMax2 (aCons (eMin2 (aCons (eLen (aCons (eV 0) (aNil))) (aCons (eInt 5) (aNil)))) (aCons (eInt 1) (aNil))))) (gN 1) (sSeq (sAsg 6 (eLstM (aCons (eCall 2 (f_l_cell T) (aCons (eV 0) (aCons (eV 1) (aNil)))) (aNil))))
    (sSeq (sFor (iR1 (eInt 2)) (gN 7) (sSeq (sAsg 8 (eCallL (f_l_right T 7) 6 (eInt 3) "abcd" 7))
    (sSeq (sAsg 9 (eCallL (f_l_right T 7) 6 (eInt 2) "efgh" 9))
    (sSeq (sIf (tOr' (tNot' (tV (eCall 1 (f_l_good T) (aCons (eV 8) (aNil))))) (tNot' (tV (eCall 1 (f_l_good T) (aCons (eTup (aCons (eStr "one") (aCons (eTup (aCons (eV 8) (aCons (eV 9) (aNil)))) (aNil)))) (aNil)))))) (sSeq (sRet (eBl false))
    (sNil)) (sNil))
    (sNil)))))
    (sNil))))
    (sSeq (sAsg 2 (eTup (aCons (eStr "one") (aCons (eTup (aCons (eTup (aCons (eStr "call") (aCons (eStr "a") (aCons (eInt 4) (aCons (eInt 1) (aNil)))))) (aCons (eTup (aCons (eStr "call") (aCons (eStr "b") (aCons (eInt 1) (aCons (eInt 3) (aNil)))))) (aNil)))) (aNil)))))
    (sSeq (sIf (tOr' (tV' (eNe (eCall 1 (f_cover T) (aCons (eV 2) (aNil))) (eTup (aCons (eTup (aCons (eInt 2) (aCons (eInt 1) (aNil)))) (aCons (eTup (aCons (eInt 1) (aCons (eInt 2) (aNil)))) (aNil)))))) (tV' (eNe (eCall 1 (f_cover T) (aCons (eTup (aCons (eStr "none") (aNil))) (aNil))) (eTup (aNil))))) (sSeq (sRet (eBl false))
    (sNil)) (sNil))
    (sSeq (sAsg 3 (eTup (aCons (eStr "all") (aCons (eTup (aCons (eTup (aCons (eStr "call") (aCons (eStr "a") (aCons (eInt 5) (aCons (eInt 2) (aNil)))))) (aCons (eTup (aCons (eStr "call") (aCons (eStr "b") (aCons (eInt 9) (aCons (eInt 1) (aNil)))))) (aCons (eTup (aCons (eStr "call") (aCons (eStr "c") (aCons (eInt 5) (aCons (eInt 1) (aNil)))))) (aNil))))) (aNil)))))
    (sSeq (sAsg 4 (eTup (aCons (eStr "calls") (aCons (eInt 9) (aCons (eTup (aCons (eStr "calls") (aCons (eInt 9) (aCons (eTup (aCons (eStr "calls") (aCons (eInt 9) (aCons (eTup (aCons (eStr "calls") (aCons (eInt 9) (aCons (eTup (aCons (eStr "calls") (aCons (eInt 9) (aCons (eTup (aCons (eStr "call") (aCons (eStr "a") (aCons (eInt 2) (aCons (eInt 1) (aNil)))))) (aNil))))) (aNil))))) (aNil))))) (aNil))))) (aNil))))))
    (sSeq (sIf (tOr' (tV' (eNe (eCall 1 (f_cover T) (aCons (eTup (aCons (eStr "call") (aCons (eStr "a") (aCons (eInt 5) (aCons (eInt 20) (aNil)))))) (aNil))) (eTup (aCons (eTup (aCons (eInt 5) (aCons (eInt 20) (aNil)))) (aNil))))) (tV' (eNe (eCall 1 (f_cover T) (aCons (eV 4) (aNil))) (eTup (aCons (eTup (aCons (eInt 2) (aCons (eInt 1) (aNil)))) (aNil)))))) (sSeq (sRet (eBl false))
    (sNil)) (sNil))
    (sSeq (sIf (tOr' (tV' (eNe (eCall 1 (f_cover T) (aCons (eTup (aCons (eStr "call") (aCons (eStr "a") (aCons (eInt 200) (aCons (eInt 1) (aNil)))))) (aNil))) (eTup (aCons (eTup (aCons (eInt 200) (aCons (eInt 1) (aNil)))) (aNil))))) (tV' (eNe (eCall 1 (f_cover T) (aCons (eTup (aCons (eStr "within") (aCons (eInt 20) (aCons (eTup (aCons (eStr "call") (aCons (eStr "a") (aCons (eInt 20) (aCons (eInt 12) (aNil)))))) (aNil))))) (aNil))) (eTup (aCons (eTup (aCons (eInt 2) (aCons (eInt 8) (aNil)))) (aCons (eTup (aCons (eInt 1) (aCons (eInt 4) (aNil)))) (aNil))))))) (sSeq (sRet (eBl false))
    (sNil)) (sNil))
    (sSeq (sAsg 5 (eTup (aCons (eStr "calls") (aCons (eInt 2) (aCons (eV 3) (aNil))))))
    (sSeq (sRet (eAndV (eEq (eCall 1 (f_cover T) (aCons (eV 3) (aNil))) (eTup (aCons (eTup (aCons (eInt 9) (aCons (eInt 1) (aNil)))) (aCons (eTup (aCons (eInt 5) (aCons (eInt 3) (aNil)))) (aNil))))) (eEq (eCall 1 (f_cover T) (aCons (eV 5) (aNil))) (eCall 1 (f_l_due T) (aCons (eV 5) (aNil))))))
    (sNil)))))))))
def f_law (T : Tx K κ mg) : Fn := Pv.fnOf 10 (b_law T).asg (b_law T).sv
end
end K33
set_option maxRecDepth 100000
set_option maxHeartbeats 4000000
namespace K33
open PySem PySem.Spec PyProof.Rows L2 Pv
section
variable {P : Program} {w : World} {K : PySem.W.Frag} {κ : Cls} {mg : Str → Option Value} {base : Heap}
theorem ok_l_mixed {a : Addr} {fd : FuncData} (T : Tx K κ mg) (F : Fun K "_law_mixed" "_law_mixed" s_l_mixed a fd)  : FnX P w K κ mg base 1 a fd p_l_mixed (f_l_mixed T) := by
  refine fnx_of F sc_l_mixed (by decide) fun cdv A outer s H E Wx hr hq tk => ?_
  have hu := hr.units
  have hu2 := hu_str hr
  have hu1 := hu_of hr
  exact ⟨_, pss_cons (ps_set (i := 2) sc_l_mixed.nd rfl (Or.inl rfl) (pe_op op_mod (pe_op op_add (pe_op op_add (pe_op op_mul (pe_op op_mod (pv 0) (pe_int)) (pe_int)) (pe_op op_mul (pv 1) (pe_int))) (pe_int)) (pe_int)))
    (pss_cons (ps_set (i := 2) sc_l_mixed.nd rfl (Or.inl rfl) (pe_op op_mod (pe_op op_mul (pv 2) (pv 2)) (pe_int)))
    (pss_cons (ps_ret (pe_op op_mod (pe_op op_mul (pv 2) (pe_op op_add (pv 2) (pe_int))) (pe_int)))
    (pss_nil))), rfl⟩
end
end K33
set_option maxRecDepth 100000
set_option maxHeartbeats 4000000
namespace K33
open PySem PySem.Spec PyProof.Rows L2 Pv
section
variable {P : Program} {w : World} {K : PySem.W.Frag} {κ : Cls} {mg : Str → Option Value} {base : Heap}
theorem ok_l_cell {a : Addr} {fd : FuncData} (T : Tx K κ mg) (F : Fun K "_law_cell" "_law_cell" s_l_cell a fd) (D_l_mixed : Def P w K κ mg base "_law_mixed" 1 p_l_mixed (f_l_mixed T)) : FnX P w K κ mg base 2 a fd p_l_cell (f_l_cell T) := by
  refine fnx_of F sc_l_cell (by decide) fun cdv A outer s H E Wx hr hq tk => ?_
  have hu := hr.units
  have hu2 := hu_str hr
  have hu1 := hu_of hr
  exact ⟨_, pss_cons (ps_set (i := 2) sc_l_cell.nd rfl (Or.inl rfl) (pe_int))
    (pss_cons (ps_if (pt_cmpR op_lt (pv 1) (pe_callB call_len_seq (by rfl) T.z_len (by decide +kernel) (pa_cons (pv 0) (pa_nil))) (nomark _)) (pss_cons (ps_set (i := 2) sc_l_cell.nd rfl (Or.inl rfl) (pe_ix ix_list (pv 0) (pv 1) (fun _ _ => rfl)))
    (pss_nil)) (pss_nil))
    (pss_cons (ps_if (pt_cmpR op_ge (pv 2) (pe_op op_pow (pe_int) (pe_int)) (nomark _)) (pss_cons (ps_ret (pe_op op_mod (pe_op op_sub (pv 2) (pe_op op_pow (pe_int) (pe_int))) (pe_op op_mulW (pe_op op_mulW (pe_op op_mulW (pe_op op_pow (pe_int) (pe_int)) (pe_op op_pow (pe_int) (pe_int))) (pe_op op_pow (pe_int) (pe_int))) (pe_op op_pow (pe_int) (pe_int)))))
    (pss_nil)) (pss_nil))
    (pss_cons (ps_set (i := 3) sc_l_cell.nd rfl (Or.inl rfl) (pe_int))
    (pss_cons (ps_for (passes_of rfl) rfl (pi_range1 (by rfl) T.z_range (pa_cons (pe_int) pa_nil)) (pg_name (i := 4) sc_l_cell.nd rfl (Or.inl rfl)) (pss_cons (ps_set (i := 3) sc_l_cell.nd rfl (Or.inl rfl) (pe_op op_add (pe_op op_mul (pv 3) (pe_int)) (pe_defK D_l_mixed ⟨rfl, rfl, rfl, rfl, rfl⟩ hr (by decide) hq tk (pa_cons (pv 2) (pa_cons (pe_op op_add (pe_op op_add (pe_op op_mul (pe_int) (pv 1)) (pe_op op_mul (pe_int) (pv 4))) (pe_op op_mul (pv 4) (pv 4))) (pa_nil))))))
    (pss_nil)))
    (pss_cons (ps_ret (pv 3))
    (pss_nil)))))), rfl⟩
end
end K33
set_option maxRecDepth 100000
set_option maxHeartbeats 4000000
namespace K33
open PySem PySem.Spec PyProof.Rows L2 Pv
section
variable {P : Program} {w : World} {K : PySem.W.Frag} {κ : Cls} {mg : Str → Option Value} {base : Heap}
theorem ok_l_high {a : Addr} {fd : FuncData} (T : Tx K κ mg) (F : Fun K "_law_high" "_law_high" s_l_high a fd) (mk : ∀ (l : Nat) (F' : Fn), FnX P w K κ mg base l a fd p_l_high F' → Def P w K κ mg base "_law_high" l p_l_high F')  : ∀ n : Nat, FnX P w K κ mg base (0 + n) a fd p_l_high (f_l_high T n) := by
  refine fnx_rec rfl fun n IH => ?_
  have D_l_high := mk _ _ IH
  show FnX P w K κ mg base ((0 + n) + 1) a fd p_l_high (Pv.fnOf 3 (b_l_high T (f_l_high T n)).asg (b_l_high T (f_l_high T n)).sv)
  obtain ⟨slf, hslf⟩ : ∃ g, g = f_l_high T n := ⟨_, rfl⟩
  rw [← hslf] at D_l_high ⊢
  refine fnx_of F sc_l_high (by decide) fun cdv A outer s H E Wx hr hq tk => ?_
  have hu := hr.units
  have hu2 := hu_str hr
  have hu1 := hu_of hr
  exact ⟨_, pss_cons (ps_if (pt_cmpR (op_eqD hu) (pe_ix ix_tup (pv 0) (pe_int) (fun _ _ => rfl)) (pe_str) (nomark _)) (pss_cons (ps_ret (pe_ix ix_tup (pv 0) (pe_int) (fun _ _ => rfl)))
    (pss_nil)) (pss_nil))
    (pss_cons (ps_if (pt_cmpR (op_eqD hu) (pe_ix ix_tup (pv 0) (pe_int) (fun _ _ => rfl)) (pe_str) (nomark _)) (pss_cons (ps_ret (pe_int))
    (pss_nil)) (pss_nil))
    (pss_cons (ps_set (i := 1) sc_l_high.nd rfl (Or.inl rfl) (pe_ifExp (pt_cmpR op_in_seq (pe_ix ix_tup (pv 0) (pe_int) (fun _ _ => rfl)) (pe_tupP (pa_cons (pe_str) (pa_cons (pe_str) (pa_nil)))) (by rfl)) (pe_ix ix_tup (pv 0) (pe_int) (fun _ _ => rfl)) (pe_slice sl_tupP (pv 0) (po_some (pe_int)) (po_none))))
    (pss_cons (ps_ret (pe_callB (cr_max rfl) (by rfl) T.z_max (by decide +kernel) (pa_cons (pe_op op_catL (pe_lc (own := [("_law_part", 2)]) rfl sc_l_high.nd (pi_tup (pv 1)) (blkOk_by (own := [("_law_part", 2)]) (N := N_l_high) (sc := defScope s_l_high) (by decide +kernel)) (fun _ _ _ _ _ => by exact (pg_name (i := 2) sc_l_high.nd rfl (Or.inl rfl))) (fun _ _ _ _ _ => by exact (pts_nil)) (fun _ _ _ _ _ => by exact (pe_defK D_l_high ⟨rfl, rfl, rfl, rfl, rfl⟩ hr (by omega) hq takes0 (pa_cons (pv 2) (pa_nil))))) (pe_lst (pa_cons (pe_int) (pa_nil)))) pa_nil)))
    (pss_nil)))), rfl⟩
end
end K33
set_option maxRecDepth 100000
set_option maxHeartbeats 4000000
namespace K33
open PySem PySem.Spec PyProof.Rows L2 Pv
section
variable {P : Program} {w : World} {K : PySem.W.Frag} {κ : Cls} {mg : Str → Option Value} {base : Heap}
theorem ok_l_lines {a : Addr} {fd : FuncData} (T : Tx K κ mg) (F : Fun K "_law_lines" "_law_lines" s_l_lines a fd)  : FnX P w K κ mg base 1 a fd p_l_lines (f_l_lines T) := by
  refine fnx_of F sc_l_lines (by decide) fun cdv A outer s H E Wx hr hq tk => ?_
  have hu := hr.units
  have hu2 := hu_str hr
  have hu1 := hu_of hr
  exact ⟨_, pss_cons (ps_set (i := 1) sc_l_lines.nd rfl (Or.inl rfl) (pe_lst (pa_nil)))
    (pss_cons (ps_for (passes_of rfl) rfl (pi_range1 (by rfl) T.z_range (pa_cons (pe_callB call_len_seq (by rfl) T.z_len (by decide +kernel) (pa_cons (pv 0) (pa_nil))) pa_nil)) (pg_name (i := 2) sc_l_lines.nd rfl (Or.inr rfl)) (pss_cons (ps_set (i := 3) sc_l_lines.nd rfl (Or.inl rfl) (pe_non))
    (pss_cons (ps_for (passes_of rfl) rfl (pi_range1 (by rfl) T.z_range (pa_cons (pe_op op_add (pe_callB (cr_max rfl) (by rfl) T.z_max (by decide +kernel) (pa_cons (pv 0) pa_nil)) (pe_int)) pa_nil)) (pg_name (i := 4) sc_l_lines.nd rfl (Or.inr rfl)) (pss_cons (ps_set (i := 5) sc_l_lines.nd rfl (Or.inl rfl) (pe_callB (cr_max rfl) (by rfl) T.z_max (by decide +kernel) (pa_cons (pe_lc (own := [("_law_to", 6)]) rfl sc_l_lines.nd (pi_range1 (by rfl) T.z_range (pa_cons (pe_callB call_len_seq (by rfl) T.z_len (by decide +kernel) (pa_cons (pv 0) (pa_nil))) pa_nil)) (blkOk_by (own := [("_law_to", 6)]) (N := N_l_lines) (sc := defScope s_l_lines) (by decide +kernel)) (fun _ _ _ _ _ => by exact (pg_name (i := 6) sc_l_lines.nd rfl (Or.inl rfl))) (fun _ _ _ _ _ => by exact (pts_nil)) (fun _ _ _ _ _ => by exact (pe_op op_sub (pe_ix ix_list (pv 0) (pv 6) (fun _ _ => rfl)) (pe_op op_mul (pv 4) (pe_op op_sub (pv 6) (pv 2)))))) pa_nil)))
    (pss_cons (ps_if (PW.pt (pw_or (pt_cmp (pc_isN (pv 3)) rfl) (pw_or1 (pt_cmpR op_lt (pv 5) (pv 3) (nomark _))))) (pss_cons (ps_set (i := 3) sc_l_lines.nd rfl (Or.inl rfl) (pv 5))
    (pss_nil)) (pss_nil))
    (pss_nil))))
    (pss_cons (ps_expr (pe_bm PySem.F.plainAttrs_list PySem.F.slot_list_append PySem.F.type_list_append mt_append (pv 1) (pa_cons (pv 3) pa_nil)))
    (pss_nil)))))
    (pss_cons (ps_ret (pv 1))
    (pss_nil))), rfl⟩
end
end K33
set_option maxRecDepth 100000
set_option maxHeartbeats 4000000
namespace K33
open PySem PySem.Spec PyProof.Rows L2 Pv
section
variable {P : Program} {w : World} {K : PySem.W.Frag} {κ : Cls} {mg : Str → Option Value} {base : Heap}
theorem ok_l_length {a : Addr} {fd : FuncData} (T : Tx K κ mg) (F : Fun K "_law_length" "_law_length" s_l_length a fd) (mk : ∀ (l : Nat) (F' : Fn), FnX P w K κ mg base l a fd p_l_length F' → Def P w K κ mg base "_law_length" l p_l_length F')  : ∀ n : Nat, FnX P w K κ mg base (0 + n) a fd p_l_length (f_l_length T n) := by
  refine fnx_rec rfl fun n IH => ?_
  have D_l_length := mk _ _ IH
  show FnX P w K κ mg base ((0 + n) + 1) a fd p_l_length (Pv.fnOf 4 (b_l_length T (f_l_length T n)).asg (b_l_length T (f_l_length T n)).sv)
  obtain ⟨slf, hslf⟩ : ∃ g, g = f_l_length T n := ⟨_, rfl⟩
  rw [← hslf] at D_l_length ⊢
  refine fnx_of F sc_l_length (by decide) fun cdv A outer s H E Wx hr hq tk => ?_
  have hu := hr.units
  have hu2 := hu_str hr
  have hu1 := hu_of hr
  exact ⟨_, pss_cons (ps_set (i := 1) sc_l_length.nd rfl (Or.inl rfl) (pe_ix ix_tup (pv 0) (pe_int) (fun _ _ => rfl)))
    (pss_cons (ps_if (pt_cmpR (op_eqD hu) (pv 1) (pe_str) (nomark _)) (pss_cons (ps_ret (pe_ix ix_tup (pv 0) (pe_int) (fun _ _ => rfl)))
    (pss_nil)) (pss_nil))
    (pss_cons (ps_if (pt_cmpR op_in_seq (pv 1) (pe_tupP (pa_cons (pe_str) (pa_cons (pe_str) (pa_nil)))) (by rfl)) (pss_cons (ps_ret (pe_callB (call_min2 rfl) (by rfl) T.z_min (by decide +kernel) (pa_cons (pe_ix ix_tup (pv 0) (pe_int) (fun _ _ => rfl)) (pa_cons (pe_defK D_l_length ⟨rfl, rfl, rfl, rfl, rfl⟩ hr (by omega) hq tk (pa_cons (pe_ix ix_tup (pv 0) (pe_int) (fun _ _ => rfl)) (pa_nil))) (pa_nil)))))
    (pss_nil)) (pss_nil))
    (pss_cons (ps_if (pt_cmpR (op_eqD hu) (pv 1) (pe_str) (nomark _)) (pss_cons (ps_ret (pe_int))
    (pss_nil)) (pss_nil))
    (pss_cons (ps_setLc (i := 2) (own := [("_law_part", 3)]) rfl sc_l_length.nd rfl rfl (sw_true rfl rfl rfl (by decide +kernel)) (pi_tup (pe_ix ix_tup (pv 0) (pe_int) (fun _ _ => rfl))) (blkOk_by (own := [("_law_part", 3)]) (N := N_l_length) (sc := defScope s_l_length) (by decide +kernel)) (fun _ _ _ _ _ => by exact (pg_name (i := 3) sc_l_length.nd rfl (Or.inl rfl))) (fun _ _ _ _ _ => by exact (pts_nil)) (fun _ _ _ _ _ => by exact (pe_defK D_l_length ⟨rfl, rfl, rfl, rfl, rfl⟩ hr (by omega) hq takes0 (pa_cons (pv 3) (pa_nil)))))
    (pss_cons (ps_ret (pe_ifExp (pt_cmpR (op_eqD hu) (pv 1) (pe_str) (nomark _)) (pe_callB (cr_sum rfl) (by rfl) T.z_sum (by decide +kernel) (pa_cons (pv 2) (pa_nil))) (pe_callB (cr_max rfl) (by rfl) T.z_max (by decide +kernel) (pa_cons (pe_op op_catL (pv 2) (pe_lst (pa_cons (pe_int) (pa_nil)))) pa_nil))))
    (pss_nil)))))), rfl⟩
end
end K33
set_option maxRecDepth 100000
set_option maxHeartbeats 4000000
namespace K33
open PySem PySem.Spec PyProof.Rows L2 Pv
section
variable {P : Program} {w : World} {K : PySem.W.Frag} {κ : Cls} {mg : Str → Option Value} {base : Heap}
theorem ok_l_row {a : Addr} {fd : FuncData} (T : Tx K κ mg) (F : Fun K "_law_row" "_law_row" s_l_row a fd) (mk : ∀ (l : Nat) (F' : Fn), FnX P w K κ mg base l a fd p_l_row F' → Def P w K κ mg base "_law_row" l p_l_row F')  : ∀ n : Nat, FnX P w K κ mg base (0 + n) a fd p_l_row (f_l_row T n) := by
  refine fnx_rec rfl fun n IH => ?_
  have D_l_row := mk _ _ IH
  show FnX P w K κ mg base ((0 + n) + 1) a fd p_l_row (Pv.fnOf 12 (b_l_row T (f_l_row T n)).asg (b_l_row T (f_l_row T n)).sv)
  obtain ⟨slf, hslf⟩ : ∃ g, g = f_l_row T n := ⟨_, rfl⟩
  rw [← hslf] at D_l_row ⊢
  refine fnx_of F sc_l_row (by decide) fun cdv A outer s H E Wx hr hq tk => ?_
  have hu := hr.units
  have hu2 := hu_str hr
  have hu1 := hu_of hr
  exact ⟨_, pss_cons (ps_set (i := 3) sc_l_row.nd rfl (Or.inl rfl) (pe_ix ix_tup (pv 0) (pe_int) (fun _ _ => rfl)))
    (pss_cons (ps_if (pt_cmpR (op_eqD hu) (pv 3) (pe_str) (nomark _)) (pss_cons (ps_set (i := 6) sc_l_row.nd rfl (Or.inr rfl) (pe_ifExp (pt_cmp (pc_isN (pv 1)) rfl) (pe_ix ix_tup (pv 0) (pe_int) (fun _ _ => rfl)) (pe_callB (call_min2 rfl) (by rfl) T.z_min (by decide +kernel) (pa_cons (pe_ix ix_tup (pv 0) (pe_int) (fun _ _ => rfl)) (pa_cons (pe_op op_sub (pv 1) (pe_int)) (pa_nil))))))
    (pss_cons (ps_ret (pe_lc (own := [("_law_j", 8)]) rfl sc_l_row.nd (pi_range1 (by rfl) T.z_range (pa_cons (pe_op op_add (pv 2) (pe_int)) pa_nil)) (blkOk_by (own := [("_law_j", 8)]) (N := N_l_row) (sc := defScope s_l_row) (by decide +kernel)) (fun _ _ _ _ _ => by exact (pg_name (i := 8) sc_l_row.nd rfl (Or.inl rfl))) (fun _ _ _ _ _ => by exact (pts_nil)) (fun _ _ _ _ _ => by exact (pe_op op_mul (pe_callB (call_min2 rfl) (by rfl) T.z_min (by decide +kernel) (pa_cons (pe_ix ix_tup (pv 0) (pe_int) (fun _ _ => rfl)) (pa_cons (pv 8) (pa_nil)))) (pv 6)))))
    (pss_nil))) (pss_nil))
    (pss_cons (ps_if (pt_cmpR (op_eqD hu) (pv 3) (pe_str) (nomark _)) (pss_cons (ps_ret (pe_lc (own := [("_law_one", 9)]) rfl sc_l_row.nd (pi_list (pe_defK D_l_row ⟨rfl, rfl, rfl, rfl, rfl⟩ hr (by omega) hq tk (pa_cons (pe_ix ix_tup (pv 0) (pe_int) (fun _ _ => rfl)) (pa_cons (pv 1) (pa_cons (pv 2) (pa_nil)))))) (blkOk_by (own := [("_law_one", 9)]) (N := N_l_row) (sc := defScope s_l_row) (by decide +kernel)) (fun _ _ _ _ _ => by exact (pg_name (i := 9) sc_l_row.nd rfl (Or.inl rfl))) (fun _ _ _ _ _ => by exact (pts_nil)) (fun _ _ _ _ _ => by exact (pe_callB (call_min2 rfl) (by rfl) T.z_min (by decide +kernel) (pa_cons (pe_ix ix_tup (pv 0) (pe_int) (fun _ _ => rfl)) (pa_cons (pv 9) (pa_nil)))))))
    (pss_nil)) (pss_nil))
    (pss_cons (ps_if (pt_cmpR (op_eqD hu) (pv 3) (pe_str) (nomark _)) (pss_cons (ps_set (i := 4) sc_l_row.nd rfl (Or.inr rfl) (pe_defK D_l_row ⟨rfl, rfl, rfl, rfl, rfl⟩ hr (by omega) hq tk (pa_cons (pe_ix ix_tup (pv 0) (pe_int) (fun _ _ => rfl)) (pa_cons (pv 1) (pa_cons (pv 2) (pa_nil))))))
    (pss_cons (ps_ret (pe_lc (own := [("_law_j", 8)]) rfl sc_l_row.nd (pi_range1 (by rfl) T.z_range (pa_cons (pe_op op_add (pv 2) (pe_int)) pa_nil)) (blkOk_by (own := [("_law_j", 8)]) (N := N_l_row) (sc := defScope s_l_row) (by decide +kernel)) (fun _ _ _ _ _ => by exact (pg_name (i := 8) sc_l_row.nd rfl (Or.inl rfl))) (fun _ _ _ _ _ => by exact (pts_nil)) (fun _ _ _ _ _ => by exact (pe_ix ix_list (pv 4) (pe_callB (call_min2 rfl) (by rfl) T.z_min (by decide +kernel) (pa_cons (pv 8) (pa_cons (pe_ix ix_tup (pv 0) (pe_int) (fun _ _ => rfl)) (pa_nil)))) (fun _ _ => rfl)))))
    (pss_nil))) (pss_nil))
    (pss_cons (ps_set (i := 4) sc_l_row.nd rfl (Or.inr rfl) (pe_op op_rep (pe_lst (pa_cons (pe_int) (pa_nil))) (pe_op op_add (pv 2) (pe_int))))
    (pss_cons (ps_if (pt_cmpR (op_eqD hu) (pv 3) (pe_str) (nomark _)) (pss_cons (ps_ret (pv 4))
    (pss_nil)) (pss_nil))
    (pss_cons (ps_for (passes_of rfl) rfl (pi_tup (pe_ix ix_tup (pv 0) (pe_int) (fun _ _ => rfl))) (pg_name (i := 5) sc_l_row.nd rfl (Or.inl rfl)) (pss_cons (ps_set (i := 7) sc_l_row.nd rfl (Or.inr rfl) (pe_defK D_l_row ⟨rfl, rfl, rfl, rfl, rfl⟩ hr (by omega) hq tk (pa_cons (pv 5) (pa_cons (pv 1) (pa_cons (pv 2) (pa_nil))))))
    (pss_cons (ps_if (pt_cmpR (op_eqD hu) (pv 3) (pe_str) (nomark _)) (pss_cons (ps_set (i := 4) sc_l_row.nd rfl (Or.inr rfl) (pe_lc (own := [("_law_pair", 10)]) rfl sc_l_row.nd (PvZ.pi_zipN (by rfl) T.z_zip (pa_cons (pv 4) (pa_cons (pv 7) pa_nil))) (blkOk_by (own := [("_law_pair", 10)]) (N := N_l_row) (sc := defScope s_l_row) (by decide +kernel)) (fun _ _ _ _ _ => by exact (pg_name (i := 10) sc_l_row.nd rfl (Or.inl rfl))) (fun _ _ _ _ _ => by exact (pts_nil)) (fun _ _ _ _ _ => by exact (pe_callB (PvM.cr_maxT rfl) (by rfl) T.z_max (by decide +kernel) (pa_cons (pv 10) pa_nil)))))
    (pss_nil)) (pss_cons (ps_set (i := 4) sc_l_row.nd rfl (Or.inr rfl) (pe_lc (own := [("_law_j", 8)]) rfl sc_l_row.nd (pi_range1 (by rfl) T.z_range (pa_cons (pe_op op_add (pv 2) (pe_int)) pa_nil)) (blkOk_by (own := [("_law_j", 8)]) (N := N_l_row) (sc := defScope s_l_row) (by decide +kernel)) (fun _ _ _ _ _ => by exact (pg_name (i := 8) sc_l_row.nd rfl (Or.inr rfl))) (fun _ _ _ _ _ => by exact (pts_nil)) (fun _ _ _ _ _ => by exact (pe_callB (cr_max rfl) (by rfl) T.z_max (by decide +kernel) (pa_cons (pe_lc (own := [("_law_i", 11)]) rfl sc_l_row.nd (pi_range1 (by rfl) T.z_range (pa_cons (pe_op op_add (pv 8) (pe_int)) pa_nil)) (blkOk_by (own := [("_law_i", 11)]) (N := N_l_row) (by kernel_rfl)) (fun _ _ _ _ _ => by exact (pg_name (i := 11) sc_l_row.nd rfl (Or.inl rfl))) (fun _ _ _ _ _ => by exact (pts_nil)) (fun _ _ _ _ _ => by exact (pe_op op_add (pe_ix ix_list (pv 4) (pv 11) (fun _ _ => rfl)) (pe_ix ix_list (pv 7) (pe_op op_sub (pv 8) (pv 11)) (fun _ _ => rfl))))) pa_nil)))))
    (pss_nil)))
    (pss_nil))))
    (pss_cons (ps_ret (pv 4))
    (pss_nil)))))))), rfl⟩
end
end K33
set_option maxRecDepth 100000
set_option maxHeartbeats 4000000
namespace K33
open PySem PySem.Spec PyProof.Rows L2 Pv
section
variable {P : Program} {w : World} {K : PySem.W.Frag} {κ : Cls} {mg : Str → Option Value} {base : Heap}
theorem ok_l_top {a : Addr} {fd : FuncData} (T : Tx K κ mg) (F : Fun K "_law_top" "_law_top" s_l_top a fd) (mk : ∀ (l : Nat) (F' : Fn), FnX P w K κ mg base l a fd p_l_top F' → Def P w K κ mg base "_law_top" l p_l_top F') (D_l_length : Def P w K κ mg base "_law_length" 7 p_l_length (f_l_length T 7)) (D_l_row : Def P w K κ mg base "_law_row" 7 p_l_row (f_l_row T 7)) : ∀ n : Nat, FnX P w K κ mg base (7 + n) a fd p_l_top (f_l_top T n) := by
  refine fnx_rec rfl fun n IH => ?_
  have D_l_top := mk _ _ IH
  show FnX P w K κ mg base ((7 + n) + 1) a fd p_l_top (Pv.fnOf 5 (b_l_top T (f_l_top T n)).asg (b_l_top T (f_l_top T n)).sv)
  obtain ⟨slf, hslf⟩ : ∃ g, g = f_l_top T n := ⟨_, rfl⟩
  rw [← hslf] at D_l_top ⊢
  refine fnx_of F sc_l_top (by decide) fun cdv A outer s H E Wx hr hq tk => ?_
  have hu := hr.units
  have hu2 := hu_str hr
  have hu1 := hu_of hr
  exact ⟨_, pss_cons (ps_set (i := 2) sc_l_top.nd rfl (Or.inl rfl) (pe_ix ix_tup (pv 0) (pe_int) (fun _ _ => rfl)))
    (pss_cons (ps_if (pt_cmpR (op_eqD hu) (pv 2) (pe_str) (nomark _)) (pss_cons (ps_ret (pe_op op_mul (pe_ix ix_tup (pv 0) (pe_int) (fun _ _ => rfl)) (pe_ifExp (pt_cmp (pc_isN (pv 1)) rfl) (pe_ix ix_tup (pv 0) (pe_int) (fun _ _ => rfl)) (pe_callB (call_min2 rfl) (by rfl) T.z_min (by decide +kernel) (pa_cons (pe_ix ix_tup (pv 0) (pe_int) (fun _ _ => rfl)) (pa_cons (pe_op op_sub (pv 1) (pe_int)) (pa_nil)))))))
    (pss_nil)) (pss_nil))
    (pss_cons (ps_if (pt_cmpR (op_eqD hu) (pv 2) (pe_str) (nomark _)) (pss_cons (ps_ret (pe_callB (call_min2 rfl) (by rfl) T.z_min (by decide +kernel) (pa_cons (pe_ix ix_tup (pv 0) (pe_int) (fun _ _ => rfl)) (pa_cons (pe_defK D_l_top ⟨rfl, rfl, rfl, rfl, rfl⟩ hr (by omega) hq tk (pa_cons (pe_ix ix_tup (pv 0) (pe_int) (fun _ _ => rfl)) (pa_cons (pv 1) (pa_nil)))) (pa_nil)))))
    (pss_nil)) (pss_nil))
    (pss_cons (ps_if (pt_cmpR (op_eqD hu) (pv 2) (pe_str) (nomark _)) (pss_cons (ps_ret (pe_ix ix_list (pe_defK D_l_row ⟨rfl, rfl, rfl, rfl, rfl⟩ hr (by omega) hq tk (pa_cons (pe_ix ix_tup (pv 0) (pe_int) (fun _ _ => rfl)) (pa_cons (pv 1) (pa_cons (pe_callB (call_min2 rfl) (by rfl) T.z_min (by decide +kernel) (pa_cons (pe_ix ix_tup (pv 0) (pe_int) (fun _ _ => rfl)) (pa_cons (pe_defK D_l_length ⟨rfl, rfl, rfl, rfl, rfl⟩ hr (by omega) hq tk (pa_cons (pe_ix ix_tup (pv 0) (pe_int) (fun _ _ => rfl)) (pa_nil))) (pa_nil)))) (pa_nil))))) (pe_un un_neg pe_int) (fun _ _ => rfl)))
    (pss_nil)) (pss_nil))
    (pss_cons (ps_if (pt_cmpR (op_eqD hu) (pv 2) (pe_str) (nomark _)) (pss_cons (ps_ret (pe_int))
    (pss_nil)) (pss_nil))
    (pss_cons (ps_setLc (i := 3) (own := [("_law_part", 4)]) rfl sc_l_top.nd rfl rfl (sw_true rfl rfl rfl (by decide +kernel)) (pi_tup (pe_ix ix_tup (pv 0) (pe_int) (fun _ _ => rfl))) (blkOk_by (own := [("_law_part", 4)]) (N := N_l_top) (sc := defScope s_l_top) (by decide +kernel)) (fun _ _ _ _ _ => by exact (pg_name (i := 4) sc_l_top.nd rfl (Or.inl rfl))) (fun _ _ _ _ _ => by exact (pts_nil)) (fun _ _ _ _ _ => by exact (pe_defK D_l_top ⟨rfl, rfl, rfl, rfl, rfl⟩ hr (by omega) hq takes0 (pa_cons (pv 4) (pa_cons (pv 1) (pa_nil))))))
    (pss_cons (ps_ret (pe_ifExp (pt_cmpR (op_eqD hu) (pv 2) (pe_str) (nomark _)) (pe_callB (cr_sum rfl) (by rfl) T.z_sum (by decide +kernel) (pa_cons (pv 3) (pa_nil))) (pe_callB (cr_max rfl) (by rfl) T.z_max (by decide +kernel) (pa_cons (pe_op op_catL (pv 3) (pe_lst (pa_cons (pe_int) (pa_nil)))) pa_nil))))
    (pss_nil))))))), rfl⟩
end
end K33
set_option maxRecDepth 100000
set_option maxHeartbeats 4000000
namespace K33
open PySem PySem.Spec PyProof.Rows L2 Pv
section
variable {P : Program} {w : World} {K : PySem.W.Frag} {κ : Cls} {mg : Str → Option Value} {base : Heap}
theorem ok_l_due {a : Addr} {fd : FuncData} (T : Tx K κ mg) (F : Fun K "_law_due" "_law_due" s_l_due a fd) (D_l_high : Def P w K κ mg base "_law_high" 7 p_l_high (f_l_high T 7)) (D_l_lines : Def P w K κ mg base "_law_lines" 1 p_l_lines (f_l_lines T)) (D_l_top : Def P w K κ mg base "_law_top" 14 p_l_top (f_l_top T 7)) : FnX P w K κ mg base 15 a fd p_l_due (f_l_due T) := by
  refine fnx_of F sc_l_due (by decide) fun cdv A outer s H E Wx hr hq tk => ?_
  have hu := hr.units
  have hu2 := hu_str hr
  have hu1 := hu_of hr
  exact ⟨_, pss_cons (ps_setLc (i := 1) (own := [("_law_bound", 6)]) rfl sc_l_due.nd rfl rfl (sw_true rfl rfl rfl (by decide +kernel)) (pi_range2 (by rfl) T.z_range (pa_cons (pe_int) (pa_cons (pe_op op_add (pe_defK D_l_high ⟨rfl, rfl, rfl, rfl, rfl⟩ hr (by decide) hq tk (pa_cons (pv 0) (pa_nil))) (pe_int)) pa_nil))) (blkOk_by (own := [("_law_bound", 6)]) (N := N_l_due) (sc := defScope s_l_due) (by decide +kernel)) (fun _ _ _ _ _ => by exact (pg_name (i := 6) sc_l_due.nd rfl (Or.inl rfl))) (fun _ _ _ _ _ => by exact (pts_nil)) (fun _ _ _ _ _ => by exact (pe_defK D_l_top ⟨rfl, rfl, rfl, rfl, rfl⟩ hr (by decide) hq takes0 (pa_cons (pv 0) (pa_cons (pv 6) (pa_nil))))))
    (pss_cons (ps_set (i := 2) sc_l_due.nd rfl (Or.inl rfl) (pe_defK D_l_lines ⟨rfl, rfl, rfl, rfl, rfl⟩ hr (by decide) hq tk (pa_cons (pv 1) (pa_nil))))
    (pss_cons (ps_set (i := 3) sc_l_due.nd rfl (Or.inl rfl) (pe_op op_catL (pe_lc (own := [("_law_ahead", 7), ("_law_later", 8)]) rfl sc_l_due.nd (RZ.pi_zipA (by rfl) T.z_zip (pa_cons (pv 2) (pa_cons (pe_slice sl_list (pv 2) (po_some (pe_int)) (po_none)) pa_nil))) (blkOk_by (own := [("_law_ahead", 7), ("_law_later", 8)]) (N := N_l_due) (sc := defScope s_l_due) (by decide +kernel)) (fun _ _ _ _ _ => by exact (pg_tup (by rfl) (pgs_cons (pg_name (i := 7) sc_l_due.nd rfl (Or.inl rfl)) (pgs_cons (pg_name (i := 8) sc_l_due.nd rfl (Or.inl rfl)) (pgs_nil))))) (fun _ _ _ _ _ => by exact (pts_nil)) (fun _ _ _ _ _ => by exact (pe_op op_sub (pv 8) (pv 7)))) (pe_lst (pa_cons (pe_int) (pa_nil)))))
    (pss_cons (ps_set (i := 4) sc_l_due.nd rfl (Or.inl rfl) (pe_lst (pa_nil)))
    (pss_cons (ps_for (passes_of rfl) rfl (pi_range1 (by rfl) T.z_range (pa_cons (pe_op op_sub (pe_callB call_len_seq (by rfl) T.z_len (by decide +kernel) (pa_cons (pv 3) (pa_nil))) (pe_int)) pa_nil)) (pg_name (i := 5) sc_l_due.nd rfl (Or.inl rfl)) (pss_cons (ps_if (pt_cmpR op_gt (pe_ix ix_list (pv 3) (pv 5) (fun _ _ => rfl)) (pe_ix ix_list (pv 3) (pe_op op_add (pv 5) (pe_int)) (fun _ _ => rfl)) (nomark _)) (pss_cons (ps_expr (pe_bm PySem.F.plainAttrs_list PySem.F.slot_list_append PySem.F.type_list_append mt_append (pv 4) (pa_cons (pe_tupP (pa_cons (pe_op op_add (pv 5) (pe_int)) (pa_cons (pe_op op_sub (pe_ix ix_list (pv 3) (pv 5) (fun _ _ => rfl)) (pe_ix ix_list (pv 3) (pe_op op_add (pv 5) (pe_int)) (fun _ _ => rfl))) (pa_nil)))) pa_nil)))
    (pss_nil)) (pss_nil))
    (pss_nil)))
    (pss_cons (ps_ret (pe_callTy call_tupP (by rfl) T.z_tuple (by decide +kernel) (pa_cons (pe_revL (pv 4)) (pa_nil))))
    (pss_nil)))))), rfl⟩
end
end K33
set_option maxRecDepth 100000
set_option maxHeartbeats 4000000
namespace K33
open PySem PySem.Spec PyProof.Rows L2 Pv
section
variable {P : Program} {w : World} {K : PySem.W.Frag} {κ : Cls} {mg : Str → Option Value} {base : Heap}
theorem ok__calls_from {a : Addr} {fd : FuncData} (T : Tx K κ mg) (F : Fun K "_calls_from" "_calls_from" s__calls_from a fd)  : FnX P w K κ mg base 1 a fd p__calls_from (f__calls_from T) := by
  refine fnx_of F sc__calls_from (by decide) fun cdv A outer s H E Wx hr hq tk => ?_
  have hu := hr.units
  have hu2 := hu_str hr
  have hu1 := hu_of hr
  exact ⟨_, pss_cons (ps_ret (pe_callB (cr_max rfl) (by rfl) T.z_max (by decide +kernel) (pa_cons (pe_op op_catL (pe_lst (pa_cons (pe_int) (pa_nil))) (pe_lc (own := [("below", 3)]) rfl sc__calls_from.nd (pi_range2 (by rfl) T.z_range (pa_cons (pe_op op_add (pv 1) (pe_int)) (pa_cons (pe_callB call_len_seq (by rfl) T.z_len (by decide +kernel) (pa_cons (pv 0) (pa_nil))) pa_nil))) (blkOk_by (own := [("below", 3)]) (N := N__calls_from) (sc := defScope s__calls_from) (by decide +kernel)) (fun _ _ _ _ _ => by exact (pg_name (i := 3) sc__calls_from.nd rfl (Or.inl rfl))) (fun _ _ _ _ _ => by exact (pts_nil)) (fun _ _ _ _ _ => by exact (pe_un (r := rU fun i => .int (-i)) un_neg (pe_op op_fdivW (pe_op op_sub (pv 2) (pe_ix ix_list (pv 0) (pv 3) (fun _ _ => rfl))) (pe_op op_sub (pv 3) (pv 1))))))) pa_nil)))
    (pss_nil), rfl⟩
end
end K33
set_option maxRecDepth 100000
set_option maxHeartbeats 4000000
namespace K33
open PySem PySem.Spec PyProof.Rows L2 Pv
section
variable {P : Program} {w : World} {K : PySem.W.Frag} {κ : Cls} {mg : Str → Option Value} {base : Heap}
theorem ok__has_form {a : Addr} {fd : FuncData} (T : Tx K κ mg) (F : Fun K "_has_form" "_has_form" s__has_form a fd) (D_kd_FORM_LENGTHS : ∃ es n, KDict K w (κ.at_ 1) es n) : FnX P w K κ mg base 1 a fd p__has_form (f__has_form T) := by
  refine fnx_of F sc__has_form (by decide) fun cdv A outer s H E Wx hr hq tk => ?_
  have hu := hr.units
  have hu2 := hu_str hr
  have hu1 := hu_of hr
  exact ⟨_, pss_cons (ps_if (PW.pt (pw_or (pt_not (pt_val (pe_callB call_isD (by rfl) T.z_isinstance (by decide +kernel) (pa_cons (pv 0) (pa_cons (pe_bltn (v := .ty "tuple") (u := .type "tuple") (by rfl) T.z_tuple (by decide +kernel) rfl) pa_nil))))) (pw_or (pt_not (pt_truth (pv 0) (fun _ => rfl))) (pw_or1 (pt_not (pt_val (pe_callB call_isD (by rfl) T.z_isinstance (by decide +kernel) (pa_cons (pe_ix ix_tup (pv 0) (pe_int) (fun _ _ => rfl)) (pa_cons (pe_bltn (v := .ty "str") (u := .type "str") (by rfl) T.z_str (by decide +kernel) rfl) pa_nil))))))))) (pss_cons (ps_ret (pe_bl))
    (pss_nil)) (pss_nil))
    (pss_cons (ps_ret (pe_cmpR (op_eqD hu) (pe_getK D_kd_FORM_LENGTHS.choose_spec.choose_spec (pe_glob (v := .ref (κ.at_ 1)) rfl T.g_FORM_LENGTHS rfl) (pe_ix ix_tup (pv 0) (pe_int) (fun _ _ => rfl)) (pe_int) ⟨rfl, rfl, rfl, rfl⟩) (pe_callB call_len_seq (by rfl) T.z_len (by decide +kernel) (pa_cons (pv 0) (pa_nil))) (nomark _)))
    (pss_nil)), rfl⟩
end
end K33
set_option maxRecDepth 100000
set_option maxHeartbeats 4000000
namespace K33
open PySem PySem.Spec PyProof.Rows L2 Pv
section
variable {P : Program} {w : World} {K : PySem.W.Frag} {κ : Cls} {mg : Str → Option Value} {base : Heap}
theorem ok_is_name {a cc : Addr} {fd : FuncData} (T : Tx K κ mg) (F : FunC K "is_name" "is_name" s_is_name a fd cc) (TB : GxR.TabB base mg cc κ.tab0)  : FnX P w K κ mg base 1 a fd p_is_name (f_is_name T) := by
  refine fnx_ofC F sc_is_name (by decide) fun A outer s H E Wx hr hq tk => ?_
  have hu := hr.units
  have hu2 := hu_str hr
  have hu1 := hu_of hr
  exact ⟨_, pss_cons (ps_if (PW.pt (pw_or (pt_not (pt_val (pe_callB call_isD (by rfl) T.z_isinstance (by decide +kernel) (pa_cons (pv 0) (pa_cons (pe_bltn (v := .ty "str") (u := .type "str") (by rfl) T.z_str (by decide +kernel) rfl) pa_nil))))) (pw_or1 (pt_not (pt_chain op_le op_le (pe_int) (pe_callB call_len_str (by rfl) T.z_len (by decide +kernel) (pa_cons (pv 0) (pa_nil))) (pe_glob (v := .int 8) rfl T.c_MOST_LETTERS.choose_spec ⟨_, rfl⟩)))))) (pss_cons (ps_ret (pe_bl))
    (pss_nil)) (pss_nil))
    (pss_cons (ps_ret (GxR.pe_allS hr rfl T.z_all (by decide +kernel) TB rfl (by exact genS_by rfl rfl (by decide +kernel) rfl rfl) (pv 0) (by exact elt_rng rfl rfl) (fun _ => rfl)))
    (pss_nil)), rfl⟩
end
end K33
set_option maxRecDepth 100000
set_option maxHeartbeats 4000000
namespace K33
open PySem PySem.Spec PyProof.Rows L2 Pv
section
variable {P : Program} {w : World} {K : PySem.W.Frag} {κ : Cls} {mg : Str → Option Value} {base : Heap}
theorem ok_is_number {a : Addr} {fd : FuncData} (T : Tx K κ mg) (F : Fun K "is_number" "is_number" s_is_number a fd)  : FnX P w K κ mg base 1 a fd p_is_number (f_is_number T) := by
  refine fnx_of F sc_is_number (by decide) fun cdv A outer s H E Wx hr hq tk => ?_
  have hu := hr.units
  have hu2 := hu_str hr
  have hu1 := hu_of hr
  exact ⟨_, pss_cons (ps_ret (pe_and (pe_callB call_isD (by rfl) T.z_isinstance (by decide +kernel) (pa_cons (pv 0) (pa_cons (pe_bltn (v := .ty "int") (u := .type "int") (by rfl) T.z_int (by decide +kernel) rfl) pa_nil))) (pe_and (pe_not (pe_callB call_isD (by rfl) T.z_isinstance (by decide +kernel) (pa_cons (pv 0) (pa_cons (pe_bltn (v := .ty "bool") (u := .type "bool") (by rfl) T.z_bool (by decide +kernel) rfl) pa_nil)))) (pe_one (pe_cmpR op_ge (pv 0) (pv 1) (nomark _))))))
    (pss_nil), rfl⟩
end
end K33
set_option maxRecDepth 100000
set_option maxHeartbeats 4000000
namespace K33
open PySem PySem.Spec PyProof.Rows L2 Pv
section
variable {P : Program} {w : World} {K : PySem.W.Frag} {κ : Cls} {mg : Str → Option Value} {base : Heap}
theorem ok__is_new_call {a : Addr} {fd : FuncData} (T : Tx K κ mg) (F : Fun K "_is_new_call" "_is_new_call" s__is_new_call a fd) (D_is_name : Def P w K κ mg base "is_name" 1 p_is_name (f_is_name T)) (D_is_number : Def P w K κ mg base "is_number" 1 p_is_number (f_is_number T)) : FnX P w K κ mg base 2 a fd p__is_new_call (f__is_new_call T) := by
  refine fnx_of F sc__is_new_call (by decide) fun cdv A outer s H E Wx hr hq tk => ?_
  have hu := hr.units
  have hu2 := hu_str hr
  have hu1 := hu_of hr
  exact ⟨_, pss_cons (ps_asg (pv 0) (pg_tup (by rfl) (pgs_cons (pg_name (i := 2) sc__is_new_call.nd rfl (Or.inl rfl)) (pgs_cons (pg_name (i := 3) sc__is_new_call.nd rfl (Or.inl rfl)) (pgs_cons (pg_name (i := 4) sc__is_new_call.nd rfl (Or.inl rfl)) (pgs_cons (pg_name (i := 5) sc__is_new_call.nd rfl (Or.inl rfl)) (pgs_nil)))))))
    (pss_cons (ps_if (PW.pt (pw_or (pt_not (pt_val (pe_defK D_is_name ⟨rfl, rfl, rfl, rfl, rfl⟩ hr (by decide) hq tk (pa_cons (pv 3) (pa_nil))))) (pw_or1 (pt_cmp (pc_din hu1 (pv 3) (pv 1)) rfl)))) (pss_cons (ps_ret (pe_bl))
    (pss_nil)) (pss_nil))
    (pss_cons (ps_dput hu1 (pv 1) (pv 3) (pe_bl) rfl)
    (pss_cons (ps_ret (pe_and (pe_defK D_is_number ⟨rfl, rfl, rfl, rfl, rfl⟩ hr (by decide) hq tk (pa_cons (pv 4) (pa_cons (pe_int) (pa_nil)))) (pe_one (pe_defK D_is_number ⟨rfl, rfl, rfl, rfl, rfl⟩ hr (by decide) hq tk (pa_cons (pv 5) (pa_cons (pe_int) (pa_nil)))))))
    (pss_nil)))), rfl⟩
end
end K33
set_option maxRecDepth 100000
set_option maxHeartbeats 4000000
namespace K33
open PySem PySem.Spec PyProof.Rows L2 Pv
section
variable {P : Program} {w : World} {K : PySem.W.Frag} {κ : Cls} {mg : Str → Option Value} {base : Heap}
theorem ok_straight_within {a : Addr} {fd : FuncData} (T : Tx K κ mg) (F : Fun K "straight_within" "straight_within" s_straight_within a fd)  : FnX P w K κ mg base 1 a fd p_straight_within (f_straight_within T) := by
  refine fnx_of F sc_straight_within (by decide) fun cdv A outer s H E Wx hr hq tk => ?_
  have hu := hr.units
  have hu2 := hu_str hr
  have hu1 := hu_of hr
  exact ⟨_, pss_cons (ps_if (pt_cmpR op_in_seq (pe_ix ix_tup (pv 0) (pe_int) (fun _ _ => rfl)) (pe_tupP (pa_cons (pe_str) (pa_cons (pe_str) (pa_nil)))) (by rfl)) (pss_cons (ps_ret (pe_ix ix_tup (pv 0) (pe_int) (fun _ _ => rfl)))
    (pss_nil)) (pss_nil))
    (pss_cons (ps_if (pt_cmpR op_in_seq (pe_ix ix_tup (pv 0) (pe_int) (fun _ _ => rfl)) (pe_tupP (pa_cons (pe_str) (pa_cons (pe_str) (pa_nil)))) (by rfl)) (pss_cons (ps_ret (pe_tupP (pa_cons (pe_ix ix_tup (pv 0) (pe_int) (fun _ _ => rfl)) (pa_nil))))
    (pss_nil)) (pss_nil))
    (pss_cons (ps_ret (pe_tupP (pa_nil)))
    (pss_nil))), rfl⟩
end
end K33
set_option maxRecDepth 100000
set_option maxHeartbeats 4000000
namespace K33
open PySem PySem.Spec PyProof.Rows L2 Pv
section
variable {P : Program} {w : World} {K : PySem.W.Frag} {κ : Cls} {mg : Str → Option Value} {base : Heap}
theorem ok__is_new_right {a : Addr} {fd : FuncData} (T : Tx K κ mg) (F : Fun K "_is_new_right" "_is_new_right" s__is_new_right a fd) (mk : ∀ (l : Nat) (F' : Fn), FnX P w K κ mg base l a fd p__is_new_right F' → Def P w K κ mg base "_is_new_right" l p__is_new_right F') (D__has_form : Def P w K κ mg base "_has_form" 1 p__has_form (f__has_form T)) (D__is_new_call : Def P w K κ mg base "_is_new_call" 2 p__is_new_call (f__is_new_call T)) (D_is_number : Def P w K κ mg base "is_number" 1 p_is_number (f_is_number T)) (D_straight_within : Def P w K κ mg base "straight_within" 1 p_straight_within (f_straight_within T)) : ∀ n : Nat, FnX P w K κ mg base (2 + n) a fd p__is_new_right (f__is_new_right T n) := by
  refine fnx_rec rfl fun n IH => ?_
  have D__is_new_right := mk _ _ IH
  show FnX P w K κ mg base ((2 + n) + 1) a fd p__is_new_right (Pv.fnOf 4 (b__is_new_right T (f__is_new_right T n)).asg (b__is_new_right T (f__is_new_right T n)).sv)
  obtain ⟨slf, hslf⟩ : ∃ g, g = f__is_new_right T n := ⟨_, rfl⟩
  rw [← hslf] at D__is_new_right ⊢
  refine fnx_of F sc__is_new_right (by decide) fun cdv A outer s H E Wx hr hq tk => ?_
  have hu := hr.units
  have hu2 := hu_str hr
  have hu1 := hu_of hr
  exact ⟨_, pss_cons (ps_if (PW.pt (pw_or (pt_cmpR (op_eqD hu) (pv 1) (pe_int) (nomark _)) (pw_or1 (pt_not (pt_val (pe_defK D__has_form ⟨rfl, rfl, rfl, rfl, rfl⟩ hr (by omega) hq tk (pa_cons (pv 0) (pa_nil)))))))) (pss_cons (ps_ret (pe_bl))
    (pss_nil)) (pss_nil))
    (pss_cons (ps_if (pt_cmpR (op_eqD hu) (pe_ix ix_tup (pv 0) (pe_int) (fun _ _ => rfl)) (pe_str) (nomark _)) (pss_cons (ps_ret (pe_defK D__is_new_call ⟨rfl, rfl, rfl, rfl, rfl⟩ hr (by omega) hq tk (pa_cons (pv 0) (pa_cons (pv 2) (pa_nil)))))
    (pss_nil)) (pss_nil))
    (pss_cons (ps_if (PW.pt (pw_and (pt_cmpR op_in_seq (pe_ix ix_tup (pv 0) (pe_int) (fun _ _ => rfl)) (pe_tupP (pa_cons (pe_str) (pa_cons (pe_str) (pa_nil)))) (by rfl)) (pw_and1 (pt_not (pt_val (pe_callB call_isD (by rfl) T.z_isinstance (by decide +kernel) (pa_cons (pe_ix ix_tup (pv 0) (pe_int) (fun _ _ => rfl)) (pa_cons (pe_bltn (v := .ty "tuple") (u := .type "tuple") (by rfl) T.z_tuple (by decide +kernel) rfl) pa_nil)))))))) (pss_cons (ps_ret (pe_bl))
    (pss_nil)) (pss_nil))
    (pss_cons (ps_if (PW.pt (pw_and (pt_cmpR op_in_seq (pe_ix ix_tup (pv 0) (pe_int) (fun _ _ => rfl)) (pe_tupP (pa_cons (pe_str) (pa_cons (pe_str) (pa_nil)))) (by rfl)) (pw_and1 (pt_not (pt_val (pe_defK D_is_number ⟨rfl, rfl, rfl, rfl, rfl⟩ hr (by omega) hq tk (pa_cons (pe_ix ix_tup (pv 0) (pe_int) (fun _ _ => rfl)) (pa_cons (pe_int) (pa_nil))))))))) (pss_cons (ps_ret (pe_bl))
    (pss_nil)) (pss_nil))
    (pss_cons (ps_for (passes_of rfl) rfl (pi_tup (pe_defK D_straight_within ⟨rfl, rfl, rfl, rfl, rfl⟩ hr (by omega) hq tk (pa_cons (pv 0) (pa_nil)))) (pg_name (i := 3) sc__is_new_right.nd rfl (Or.inl rfl)) (pss_cons (ps_if (pt_not (pt_val (pe_defK D__is_new_right ⟨rfl, rfl, rfl, rfl, rfl⟩ hr (by omega) hq tk (pa_cons (pv 3) (pa_cons (pe_op op_sub (pv 1) (pe_int)) (pa_cons (pv 2) (pa_nil))))))) (pss_cons (ps_ret (pe_bl))
    (pss_nil)) (pss_nil))
    (pss_nil)))
    (pss_cons (ps_ret (pe_bl))
    (pss_nil)))))), rfl⟩
end
end K33
set_option maxRecDepth 100000
set_option maxHeartbeats 4000000
namespace K33
open PySem PySem.Spec PyProof.Rows L2 Pv
section
variable {P : Program} {w : World} {K : PySem.W.Frag} {κ : Cls} {mg : Str → Option Value} {base : Heap}
theorem ok_is_right {a : Addr} {fd : FuncData} (T : Tx K κ mg) (F : Fun K "is_right" "is_right" s_is_right a fd) (D__is_new_right : Def P w K κ mg base "_is_new_right" 9 p__is_new_right (f__is_new_right T 7)) : FnX P w K κ mg base 10 a fd p_is_right (f_is_right T) := by
  refine fnx_of F sc_is_right (by decide) fun cdv A outer s H E Wx hr hq tk => ?_
  have hu := hr.units
  have hu2 := hu_str hr
  have hu1 := hu_of hr
  exact ⟨_, pss_cons (ps_ret (pe_defK D__is_new_right ⟨rfl, rfl, rfl, rfl, rfl⟩ hr (by decide) hq tk (pa_cons (pv 0) (pa_cons (pe_glob (v := .int 6) rfl T.c_MOST_DEEP.choose_spec ⟨_, rfl⟩) (pa_cons pe_dnewK pa_nil)))))
    (pss_nil), rfl⟩
end
end K33
set_option maxRecDepth 100000
set_option maxHeartbeats 4000000
namespace K33
open PySem PySem.Spec PyProof.Rows L2 Pv
section
variable {P : Program} {w : World} {K : PySem.W.Frag} {κ : Cls} {mg : Str → Option Value} {base : Heap}
theorem ok_check_right {a : Addr} {fd : FuncData} (T : Tx K κ mg) (F : Fun K "check_right" "check_right" s_check_right a fd) (D_is_right : Def P w K κ mg base "is_right" 10 p_is_right (f_is_right T)) : FnX P w K κ mg base 11 a fd p_check_right (f_check_right T) := by
  refine fnx_of F sc_check_right (by decide) fun cdv A outer s H E Wx hr hq tk => ?_
  have hu := hr.units
  have hu2 := hu_str hr
  have hu1 := hu_of hr
  exact ⟨_, pss_cons (ps_if (pt_not (pt_val (pe_defK D_is_right ⟨rfl, rfl, rfl, rfl, rfl⟩ hr (by decide) hq tk (pa_cons (pv 0) (pa_nil))))) (pss_cons (ps_never)
    (pss_nil)) (pss_nil))
    (pss_nil), rfl⟩
end
end K33
set_option maxRecDepth 100000
set_option maxHeartbeats 4000000
namespace K33
open PySem PySem.Spec PyProof.Rows L2 Pv
section
variable {P : Program} {w : World} {K : PySem.W.Frag} {κ : Cls} {mg : Str → Option Value} {base : Heap}
theorem ok__has_small_mosts {a : Addr} {fd : FuncData} (T : Tx K κ mg) (F : Fun K "_has_small_mosts" "_has_small_mosts" s__has_small_mosts a fd) (mk : ∀ (l : Nat) (F' : Fn), FnX P w K κ mg base l a fd p__has_small_mosts F' → Def P w K κ mg base "_has_small_mosts" l p__has_small_mosts F') (D_straight_within : Def P w K κ mg base "straight_within" 1 p_straight_within (f_straight_within T)) : ∀ n : Nat, FnX P w K κ mg base (1 + n) a fd p__has_small_mosts (f__has_small_mosts T n) := by
  refine fnx_rec rfl fun n IH => ?_
  have D__has_small_mosts := mk _ _ IH
  show FnX P w K κ mg base ((1 + n) + 1) a fd p__has_small_mosts (Pv.fnOf 2 (b__has_small_mosts T (f__has_small_mosts T n)).asg (b__has_small_mosts T (f__has_small_mosts T n)).sv)
  obtain ⟨slf, hslf⟩ : ∃ g, g = f__has_small_mosts T n := ⟨_, rfl⟩
  rw [← hslf] at D__has_small_mosts ⊢
  refine fnx_of F sc__has_small_mosts (by decide) fun cdv A outer s H E Wx hr hq tk => ?_
  have hu := hr.units
  have hu2 := hu_str hr
  have hu1 := hu_of hr
  exact ⟨_, pss_cons (ps_if (PW.pt (pw_or (PW.pt (pw_and (pt_cmpR (op_eqD hu) (pe_ix ix_tup (pv 0) (pe_int) (fun _ _ => rfl)) (pe_str) (nomark _)) (pw_and1 (pt_cmpR op_gt (pe_ix ix_tup (pv 0) (pe_int) (fun _ _ => rfl)) (pe_glob (v := .int 200) rfl T.c_SMALL.choose_spec ⟨_, rfl⟩) (nomark _))))) (pw_or1 (PW.pt (pw_and (pt_cmpR (op_eqD hu) (pe_ix ix_tup (pv 0) (pe_int) (fun _ _ => rfl)) (pe_str) (nomark _)) (pw_and1 (pt_cmpR op_gt (pe_ix ix_tup (pv 0) (pe_int) (fun _ _ => rfl)) (pe_glob (v := .int 200) rfl T.c_SMALL.choose_spec ⟨_, rfl⟩) (nomark _)))))))) (pss_cons (ps_ret (pe_bl))
    (pss_nil)) (pss_nil))
    (pss_cons (ps_ret (pe_callB (cr_all rfl) (by rfl) T.z_all (by decide +kernel) (pa_cons (pe_lc (own := [("part", 1)]) rfl sc__has_small_mosts.nd (pi_tup (pe_defK D_straight_within ⟨rfl, rfl, rfl, rfl, rfl⟩ hr (by omega) hq tk (pa_cons (pv 0) (pa_nil)))) (blkOk_by (own := [("part", 1)]) (N := N__has_small_mosts) (sc := defScope s__has_small_mosts) (by decide +kernel)) (fun _ _ _ _ _ => by exact (pg_name (i := 1) sc__has_small_mosts.nd rfl (Or.inl rfl))) (fun _ _ _ _ _ => by exact (pts_nil)) (fun _ _ _ _ _ => by exact (pe_defK D__has_small_mosts ⟨rfl, rfl, rfl, rfl, rfl⟩ hr (by omega) hq takes0 (pa_cons (pv 1) (pa_nil))))) (pa_nil))))
    (pss_nil)), rfl⟩
end
end K33
set_option maxRecDepth 100000
set_option maxHeartbeats 4000000
namespace K33
open PySem PySem.Spec PyProof.Rows L2 Pv
section
variable {P : Program} {w : World} {K : PySem.W.Frag} {κ : Cls} {mg : Str → Option Value} {base : Heap}
theorem ok__amount_below {a : Addr} {fd : FuncData} (T : Tx K κ mg) (F : Fun K "_amount_below" "_amount_below" s__amount_below a fd)  : FnX P w K κ mg base 1 a fd p__amount_below (f__amount_below T) := by
  refine fnx_of F sc__amount_below (by decide) fun cdv A outer s H E Wx hr hq tk => ?_
  have hu := hr.units
  have hu2 := hu_str hr
  have hu1 := hu_of hr
  exact ⟨_, pss_cons (ps_ret (pe_ifExp (pt_cmp (pc_isN (pv 1)) rfl) (pv 0) (pe_callB (call_min2 rfl) (by rfl) T.z_min (by decide +kernel) (pa_cons (pv 0) (pa_cons (pe_op op_sub (pv 1) (pe_int)) (pa_nil))))))
    (pss_nil), rfl⟩
end
end K33
set_option maxRecDepth 100000
set_option maxHeartbeats 4000000
namespace K33
open PySem PySem.Spec PyProof.Rows L2 Pv
section
variable {P : Program} {w : World} {K : PySem.W.Frag} {κ : Cls} {mg : Str → Option Value} {base : Heap}
theorem ok__most_calls {a : Addr} {fd : FuncData} (T : Tx K κ mg) (F : Fun K "_most_calls" "_most_calls" s__most_calls a fd) (mk : ∀ (l : Nat) (F' : Fn), FnX P w K κ mg base l a fd p__most_calls F' → Def P w K κ mg base "_most_calls" l p__most_calls F')  : ∀ n : Nat, FnX P w K κ mg base (0 + n) a fd p__most_calls (f__most_calls T n) := by
  refine fnx_rec rfl fun n IH => ?_
  have D__most_calls := mk _ _ IH
  show FnX P w K κ mg base ((0 + n) + 1) a fd p__most_calls (Pv.fnOf 3 (b__most_calls T (f__most_calls T n)).asg (b__most_calls T (f__most_calls T n)).sv)
  obtain ⟨slf, hslf⟩ : ∃ g, g = f__most_calls T n := ⟨_, rfl⟩
  rw [← hslf] at D__most_calls ⊢
  refine fnx_of F sc__most_calls (by decide) fun cdv A outer s H E Wx hr hq tk => ?_
  have hu := hr.units
  have hu2 := hu_str hr
  have hu1 := hu_of hr
  exact ⟨_, pss_cons (ps_set (i := 1) sc__most_calls.nd rfl (Or.inl rfl) (pe_ix ix_tup (pv 0) (pe_int) (fun _ _ => rfl)))
    (pss_cons (ps_if (pt_cmpR (op_eqD hu) (pv 1) (pe_str) (nomark _)) (pss_cons (ps_ret (pe_int))
    (pss_nil)) (pss_nil))
    (pss_cons (ps_if (pt_cmpR (op_eqD hu) (pv 1) (pe_str) (nomark _)) (pss_cons (ps_ret (pe_ix ix_tup (pv 0) (pe_int) (fun _ _ => rfl)))
    (pss_nil)) (pss_nil))
    (pss_cons (ps_if (pt_cmpR (op_eqD hu) (pv 1) (pe_str) (nomark _)) (pss_cons (ps_ret (pe_callB (cr_sum rfl) (by rfl) T.z_sum (by decide +kernel) (pa_cons (pe_lc (own := [("part", 2)]) rfl sc__most_calls.nd (pi_tup (pe_ix ix_tup (pv 0) (pe_int) (fun _ _ => rfl))) (blkOk_by (own := [("part", 2)]) (N := N__most_calls) (sc := defScope s__most_calls) (by decide +kernel)) (fun _ _ _ _ _ => by exact (pg_name (i := 2) sc__most_calls.nd rfl (Or.inl rfl))) (fun _ _ _ _ _ => by exact (pts_nil)) (fun _ _ _ _ _ => by exact (pe_defK D__most_calls ⟨rfl, rfl, rfl, rfl, rfl⟩ hr (by omega) hq takes0 (pa_cons (pv 2) (pa_nil))))) (pa_nil))))
    (pss_nil)) (pss_nil))
    (pss_cons (ps_if (pt_cmpR (op_eqD hu) (pv 1) (pe_str) (nomark _)) (pss_cons (ps_ret (pe_callBK (cr_topK rfl) (by rfl) T.z_max (by decide +kernel) (pa_cons (pe_lc (own := [("part", 2)]) rfl sc__most_calls.nd (pi_tup (pe_ix ix_tup (pv 0) (pe_int) (fun _ _ => rfl))) (blkOk_by (own := [("part", 2)]) (N := N__most_calls) (sc := defScope s__most_calls) (by decide +kernel)) (fun _ _ _ _ _ => by exact (pg_name (i := 2) sc__most_calls.nd rfl (Or.inl rfl))) (fun _ _ _ _ _ => by exact (pts_nil)) (fun _ _ _ _ _ => by exact (pe_defK D__most_calls ⟨rfl, rfl, rfl, rfl, rfl⟩ hr (by omega) hq takes0 (pa_cons (pv 2) (pa_nil))))) pa_nil) (pk_cons (pe_int) pk_nil)))
    (pss_nil)) (pss_nil))
    (pss_cons (ps_ret (pe_callB (call_min2 rfl) (by rfl) T.z_min (by decide +kernel) (pa_cons (pe_ix ix_tup (pv 0) (pe_int) (fun _ _ => rfl)) (pa_cons (pe_defK D__most_calls ⟨rfl, rfl, rfl, rfl, rfl⟩ hr (by omega) hq tk (pa_cons (pe_ix ix_tup (pv 0) (pe_int) (fun _ _ => rfl)) (pa_nil))) (pa_nil)))))
    (pss_nil)))))), rfl⟩
end
end K33
set_option maxRecDepth 100000
set_option maxHeartbeats 4000000
namespace K33
open PySem PySem.Spec PyProof.Rows L2 Pv
section
variable {P : Program} {w : World} {K : PySem.W.Frag} {κ : Cls} {mg : Str → Option Value} {base : Heap}
theorem ok__cut_at_count {a : Addr} {fd : FuncData} (T : Tx K κ mg) (F : Fun K "_cut_at_count" "_cut_at_count" s__cut_at_count a fd)  : FnX P w K κ mg base 1 a fd p__cut_at_count (f__cut_at_count T) := by
  refine fnx_of F sc__cut_at_count (by decide) fun cdv A outer s H E Wx hr hq tk => ?_
  have hu := hr.units
  have hu2 := hu_str hr
  have hu1 := hu_of hr
  exact ⟨_, pss_cons (ps_set (i := 2) sc__cut_at_count.nd rfl (Or.inl rfl) (pe_lst (pa_nil)))
    (pss_cons (ps_set (i := 3) sc__cut_at_count.nd rfl (Or.inl rfl) (pv 1))
    (pss_cons (ps_for (passes_of rfl) rfl (pi_tup (pv 0)) (pg_tup (by rfl) (pgs_cons (pg_name (i := 4) sc__cut_at_count.nd rfl (Or.inl rfl)) (pgs_cons (pg_name (i := 5) sc__cut_at_count.nd rfl (Or.inl rfl)) (pgs_cons (pg_name (i := 6) sc__cut_at_count.nd rfl (Or.inl rfl)) (pgs_nil))))) (pss_cons (ps_set (i := 7) sc__cut_at_count.nd rfl (Or.inl rfl) (pe_callB (call_min2 rfl) (by rfl) T.z_min (by decide +kernel) (pa_cons (pv 5) (pa_cons (pv 3) (pa_nil)))))
    (pss_cons (ps_if (pt_cmpR op_gt (pv 7) (pe_int) (nomark _)) (pss_cons (ps_expr (pe_bm PySem.F.plainAttrs_list PySem.F.slot_list_append PySem.F.type_list_append mt_append (pv 2) (pa_cons (pe_tupP (pa_cons (pv 4) (pa_cons (pv 7) (pa_cons (pv 6) (pa_nil))))) pa_nil)))
    (pss_nil)) (pss_nil))
    (pss_cons (ps_aug (i := 3) sc__cut_at_count.nd rfl (Or.inl rfl) (pv 7) ip_sub)
    (pss_nil)))))
    (pss_cons (ps_ret (pe_callTy call_tupP (by rfl) T.z_tuple (by decide +kernel) (pa_cons (pv 2) (pa_nil))))
    (pss_nil)))), rfl⟩
end
end K33
set_option maxRecDepth 100000
set_option maxHeartbeats 4000000
namespace K33
open PySem PySem.Spec PyProof.Rows L2 Pv
section
variable {P : Program} {w : World} {K : PySem.W.Frag} {κ : Cls} {mg : Str → Option Value} {base : Heap}
theorem ok__cut_at_sum {a : Addr} {fd : FuncData} (T : Tx K κ mg) (F : Fun K "_cut_at_sum" "_cut_at_sum" s__cut_at_sum a fd)  : FnX P w K κ mg base 1 a fd p__cut_at_sum (f__cut_at_sum T) := by
  refine fnx_of F sc__cut_at_sum (by decide) fun cdv A outer s H E Wx hr hq tk => ?_
  have hu := hr.units
  have hu2 := hu_str hr
  have hu1 := hu_of hr
  exact ⟨_, pss_cons (ps_set (i := 2) sc__cut_at_sum.nd rfl (Or.inl rfl) (pe_lst (pa_nil)))
    (pss_cons (ps_set (i := 3) sc__cut_at_sum.nd rfl (Or.inl rfl) (pv 1))
    (pss_cons (ps_for (passes_of rfl) rfl (pi_tup (pv 0)) (pg_tup (by rfl) (pgs_cons (pg_name (i := 4) sc__cut_at_sum.nd rfl (Or.inl rfl)) (pgs_cons (pg_name (i := 5) sc__cut_at_sum.nd rfl (Or.inl rfl)) (pgs_cons (pg_name (i := 6) sc__cut_at_sum.nd rfl (Or.inl rfl)) (pgs_nil))))) (pss_cons (ps_set (i := 7) sc__cut_at_sum.nd rfl (Or.inl rfl) (pe_callB (call_min2 rfl) (by rfl) T.z_min (by decide +kernel) (pa_cons (pv 5) (pa_cons (pe_op op_fdivW (pv 3) (pv 4)) (pa_nil)))))
    (pss_cons (ps_if (pt_cmpR op_gt (pv 7) (pe_int) (nomark _)) (pss_cons (ps_expr (pe_bm PySem.F.plainAttrs_list PySem.F.slot_list_append PySem.F.type_list_append mt_append (pv 2) (pa_cons (pe_tupP (pa_cons (pv 4) (pa_cons (pv 7) (pa_cons (pv 6) (pa_nil))))) pa_nil)))
    (pss_nil)) (pss_nil))
    (pss_cons (ps_aug (i := 3) sc__cut_at_sum.nd rfl (Or.inl rfl) (pe_op op_mul (pv 4) (pv 7)) ip_sub)
    (pss_cons (ps_if (pt_cmpR op_lt (pv 7) (pv 5) (nomark _)) (pss_cons (ps_ret (pe_ifExp (pt_cmpR op_gt (pv 3) (pe_int) (nomark _)) (pe_callTy call_tupP (by rfl) T.z_tuple (by decide +kernel) (pa_cons (pe_op op_catL (pv 2) (pe_lst (pa_cons (pe_tupP (pa_cons (pv 3) (pa_cons (pe_int) (pa_cons (pv 6) (pa_nil))))) (pa_nil)))) (pa_nil))) (pe_callTy call_tupP (by rfl) T.z_tuple (by decide +kernel) (pa_cons (pv 2) (pa_nil)))))
    (pss_nil)) (pss_nil))
    (pss_nil))))))
    (pss_cons (ps_ret (pe_callTy call_tupP (by rfl) T.z_tuple (by decide +kernel) (pa_cons (pv 2) (pa_nil))))
    (pss_nil)))), rfl⟩
end
end K33
set_option maxRecDepth 100000
set_option maxHeartbeats 4000000
namespace K33
open PySem PySem.Spec PyProof.Rows L2 Pv
section
variable {P : Program} {w : World} {K : PySem.W.Frag} {κ : Cls} {mg : Str → Option Value} {base : Heap}
theorem ok_sum_of_first {a : Addr} {fd : FuncData} (T : Tx K κ mg) (F : Fun K "sum_of_first" "sum_of_first" s_sum_of_first a fd)  : FnX P w K κ mg base 1 a fd p_sum_of_first (f_sum_of_first T) := by
  refine fnx_of F sc_sum_of_first (by decide) fun cdv A outer s H E Wx hr hq tk => ?_
  have hu := hr.units
  have hu2 := hu_str hr
  have hu1 := hu_of hr
  exact ⟨_, pss_cons (ps_set (i := 2) sc_sum_of_first.nd rfl (Or.inl rfl) (pe_int))
    (pss_cons (ps_set (i := 3) sc_sum_of_first.nd rfl (Or.inl rfl) (pv 1))
    (pss_cons (ps_for (passes_of rfl) rfl (pi_tup (pv 0)) (pg_tup (by rfl) (pgs_cons (pg_name (i := 4) sc_sum_of_first.nd rfl (Or.inl rfl)) (pgs_cons (pg_name (i := 5) sc_sum_of_first.nd rfl (Or.inl rfl)) (pgs_cons (pg_name (i := 6) sc_sum_of_first.nd rfl (Or.inl rfl)) (pgs_nil))))) (pss_cons (ps_if (pt_cmpR op_ge (pv 5) (pv 3) (nomark _)) (pss_cons (ps_ret (pe_op op_add (pv 2) (pe_op op_mul (pv 4) (pv 3))))
    (pss_nil)) (pss_nil))
    (pss_cons (ps_aug (i := 2) sc_sum_of_first.nd rfl (Or.inl rfl) (pe_op op_mul (pv 4) (pv 5)) ip_add)
    (pss_cons (ps_aug (i := 3) sc_sum_of_first.nd rfl (Or.inl rfl) (pv 5) ip_sub)
    (pss_nil)))))
    (pss_cons (ps_ret (pv 2))
    (pss_nil)))), rfl⟩
end
end K33
set_option maxRecDepth 100000
set_option maxHeartbeats 4000000
namespace K33
open PySem PySem.Spec PyProof.Rows L2 Pv
section
variable {P : Program} {w : World} {K : PySem.W.Frag} {κ : Cls} {mg : Str → Option Value} {base : Heap}
theorem ok__outdoes {a : Addr} {fd : FuncData} (T : Tx K κ mg) (F : Fun K "_outdoes" "_outdoes" s__outdoes a fd) (D_sum_of_first : Def P w K κ mg base "sum_of_first" 1 p_sum_of_first (f_sum_of_first T)) : FnX P w K κ mg base 2 a fd p__outdoes (f__outdoes T) := by
  refine fnx_of F sc__outdoes (by decide) fun cdv A outer s H E Wx hr hq tk => ?_
  have hu := hr.units
  have hu2 := hu_str hr
  have hu1 := hu_of hr
  exact ⟨_, pss_cons (ps_asg2 (pe_int) (pg_name (i := 2) sc__outdoes.nd rfl (Or.inl rfl)) (pg_name (i := 3) sc__outdoes.nd rfl (Or.inl rfl)))
    (pss_cons (ps_for (passes_of rfl) rfl (pi_tup (pv 1)) (pg_tup (by rfl) (pgs_cons (pg_name (i := 4) sc__outdoes.nd rfl (Or.inl rfl)) (pgs_cons (pg_name (i := 5) sc__outdoes.nd rfl (Or.inl rfl)) (pgs_cons (pg_name (i := 6) sc__outdoes.nd rfl (Or.inl rfl)) (pgs_nil))))) (pss_cons (ps_aug (i := 2) sc__outdoes.nd rfl (Or.inl rfl) (pv 5) ip_add)
    (pss_cons (ps_aug (i := 3) sc__outdoes.nd rfl (Or.inl rfl) (pe_op op_mul (pv 4) (pv 5)) ip_add)
    (pss_cons (ps_if (pt_cmpR op_lt (pe_defK D_sum_of_first ⟨rfl, rfl, rfl, rfl, rfl⟩ hr (by decide) hq tk (pa_cons (pv 0) (pa_cons (pv 2) (pa_nil)))) (pv 3) (nomark _)) (pss_cons (ps_ret (pe_bl))
    (pss_nil)) (pss_nil))
    (pss_nil)))))
    (pss_cons (ps_ret (pe_bl))
    (pss_nil))), rfl⟩
end
end K33
set_option maxRecDepth 100000
set_option maxHeartbeats 4000000
namespace K33
open PySem PySem.Spec PyProof.Rows L2 Pv
section
variable {P : Program} {w : World} {K : PySem.W.Frag} {κ : Cls} {mg : Str → Option Value} {base : Heap}
theorem ok__not_outdone {a : Addr} {fd : FuncData} (T : Tx K κ mg) (F : Fun K "_not_outdone" "_not_outdone" s__not_outdone a fd) (D__outdoes : Def P w K κ mg base "_outdoes" 2 p__outdoes (f__outdoes T)) : FnX P w K κ mg base 3 a fd p__not_outdone (f__not_outdone T) := by
  refine fnx_of F sc__not_outdone (by decide) fun cdv A outer s H E Wx hr hq tk => ?_
  have hu := hr.units
  have hu2 := hu_str hr
  have hu1 := hu_of hr
  exact ⟨_, pss_cons (ps_set (i := 1) sc__not_outdone.nd rfl (Or.inl rfl) (pe_lst (pa_cons (pe_tupP (pa_nil)) (pa_nil))))
    (pss_cons (ps_for (passes_of rfl) rfl (pi_list (pv 0)) (pg_name (i := 2) sc__not_outdone.nd rfl (Or.inr rfl)) (pss_cons (ps_if (pt_not (pt_val (pe_callB (cr_any rfl) (by rfl) T.z_any (by decide +kernel) (pa_cons (pe_lc (own := [("other", 3)]) rfl sc__not_outdone.nd (pi_list (pv 1)) (blkOk_by (own := [("other", 3)]) (N := N__not_outdone) (sc := defScope s__not_outdone) (by decide +kernel)) (fun _ _ _ _ _ => by exact (pg_name (i := 3) sc__not_outdone.nd rfl (Or.inl rfl))) (fun _ _ _ _ _ => by exact (pts_nil)) (fun _ _ _ _ _ => by exact (pe_defK D__outdoes ⟨rfl, rfl, rfl, rfl, rfl⟩ hr (by decide) hq takes0 (pa_cons (pv 3) (pa_cons (pv 2) (pa_nil)))))) (pa_nil))))) (pss_cons (ps_set (i := 1) sc__not_outdone.nd rfl (Or.inl rfl) (pe_op op_catL (pe_lc (own := [("other", 3)]) rfl sc__not_outdone.nd (pi_list (pv 1)) (blkOk_by (own := [("other", 3)]) (N := N__not_outdone) (sc := defScope s__not_outdone) (by decide +kernel)) (fun _ _ _ _ _ => by exact (pg_name (i := 3) sc__not_outdone.nd rfl (Or.inl rfl))) (fun _ _ _ _ _ => by exact (pts_one (pt_not (pt_val (pe_defK D__outdoes ⟨rfl, rfl, rfl, rfl, rfl⟩ hr (by decide) hq takes0 (pa_cons (pv 2) (pa_cons (pv 3) (pa_nil)))))))) (fun _ _ _ _ _ => by exact (pv 3))) (pe_lst (pa_cons (pv 2) (pa_nil)))))
    (pss_nil)) (pss_nil))
    (pss_nil)))
    (pss_cons (ps_ret (pv 1))
    (pss_nil))), rfl⟩
end
end K33
set_option maxRecDepth 100000
set_option maxHeartbeats 4000000
namespace K33
open PySem PySem.Spec PyProof.Rows L2 Pv
section
variable {P : Program} {w : World} {K : PySem.W.Frag} {κ : Cls} {mg : Str → Option Value} {base : Heap}
theorem ok__rows_of_all {a : Addr} {fd : FuncData} {lv : Nat} {slf : Fn} (T : Tx K κ mg) (F : Fun K "_rows_of_all" "_rows_of_all" s__rows_of_all a fd) (hlv : 0 ≤ lv) (D_rows_of : Def P w K κ mg base "rows_of" lv p_rows_of slf)  : FnX P w K κ mg base (lv + 1) a fd p__rows_of_all (f__rows_of_all T slf) := by
  refine fnx_of F sc__rows_of_all (by decide) fun cdv A outer s H E Wx hr hq tk => ?_
  have hu := hr.units
  have hu2 := hu_str hr
  have hu1 := hu_of hr
  exact ⟨_, pss_cons (ps_set (i := 2) sc__rows_of_all.nd rfl (Or.inl rfl) (pe_lst (pa_cons (pe_tupP (pa_nil)) (pa_nil))))
    (pss_cons (ps_for (passes_of rfl) rfl (pi_tup (pv 0)) (pg_name (i := 3) sc__rows_of_all.nd rfl (Or.inl rfl)) (pss_cons (ps_set (i := 4) sc__rows_of_all.nd rfl (Or.inr rfl) (pe_defK D_rows_of ⟨rfl, rfl, rfl, rfl, rfl⟩ hr (by omega) hq tk (pa_cons (pv 3) (pa_cons (pv 1) (pa_nil)))))
    (pss_cons (ps_setLc2 (i := 2) (own := [("row", 5), ("other", 6)]) (vs1 := [6]) rfl sc__rows_of_all.nd rfl rfl (sw_true rfl rfl rfl (by decide +kernel)) (pi_list (pv 2)) (blkOk_by (own := [("row", 5), ("other", 6)]) (N := N__rows_of_all) (sc := defScope s__rows_of_all) (by decide +kernel)) (by decide) (fun _ _ _ _ _ => by exact (pg_name (i := 5) sc__rows_of_all.nd rfl (Or.inl rfl))) (fun _ _ _ _ _ => by exact (pts_nil)) (fun _ _ _ _ _ => by exact (pi_list (pv 4))) (fun _ _ _ _ _ => by exact (pg_name (i := 6) sc__rows_of_all.nd rfl (Or.inl rfl))) (fun _ _ _ _ _ => by exact (pts_nil)) (fun _ _ _ _ _ => by exact (pe_callTy call_tupP (by rfl) T.z_tuple (by decide +kernel) (pa_cons (pe_callBK (PvS.cr_sortTR hu) (by rfl) T.z_sorted (by decide +kernel) (pa_cons (pe_op op_catP (pv 5) (pv 6)) pa_nil) (pk_cons (pe_bl) pk_nil)) (pa_nil)))))
    (pss_nil))))
    (pss_cons (ps_ret (pv 2))
    (pss_nil))), rfl⟩
end
end K33
set_option maxRecDepth 100000
set_option maxHeartbeats 4000000
namespace K33
open PySem PySem.Spec PyProof.Rows L2 Pv
section
variable {P : Program} {w : World} {K : PySem.W.Frag} {κ : Cls} {mg : Str → Option Value} {base : Heap}
theorem ok_rows_of {a a2 : Addr} {fd fd2 : FuncData} (T : Tx K κ mg) (F : Fun K "rows_of" "rows_of" s_rows_of a fd) (mk : ∀ (l : Nat) (F' : Fn), FnX P w K κ mg base l a fd p_rows_of F' → Def P w K κ mg base "rows_of" l p_rows_of F') (F2 : Fun K "_rows_of_all" "_rows_of_all" s__rows_of_all a2 fd2) (mk2 : ∀ (l : Nat) (F' : Fn), FnX P w K κ mg base l a2 fd2 p__rows_of_all F' → Def P w K κ mg base "_rows_of_all" l p__rows_of_all F') (D__amount_below : Def P w K κ mg base "_amount_below" 1 p__amount_below (f__amount_below T)) (D__cut_at_count : Def P w K κ mg base "_cut_at_count" 1 p__cut_at_count (f__cut_at_count T)) (D__cut_at_sum : Def P w K κ mg base "_cut_at_sum" 1 p__cut_at_sum (f__cut_at_sum T)) (D__not_outdone : Def P w K κ mg base "_not_outdone" 3 p__not_outdone (f__not_outdone T)) : ∀ n : Nat, FnX P w K κ mg base (3 + 2 * n) a fd p_rows_of (f_rows_of T n) := by
  refine fnx_recB rfl fun n IH => ?_
  have D_rows_of := mk _ _ IH
  have D__rows_of_all := mk2 _ _ (ok__rows_of_all T F2 (lv := 3 + 2 * n) (by omega) D_rows_of )
  show FnX P w K κ mg base ((3 + 2 * n + 1) + 1) a fd p_rows_of (Pv.fnOf 6 (b_rows_of T (f_rows_of T n) (f__rows_of_all T (f_rows_of T n))).asg (b_rows_of T (f_rows_of T n) (f__rows_of_all T (f_rows_of T n))).sv)
  obtain ⟨slf, hslf⟩ : ∃ g, g = f_rows_of T n := ⟨_, rfl⟩
  rw [← hslf] at D_rows_of D__rows_of_all ⊢
  obtain ⟨oth, hoth⟩ : ∃ g, g = f__rows_of_all T slf := ⟨_, rfl⟩
  rw [← hoth] at D__rows_of_all ⊢
  refine fnx_of F sc_rows_of (by decide) fun cdv A outer s H E Wx hr hq tk => ?_
  have hu := hr.units
  have hu2 := hu_str hr
  have hu1 := hu_of hr
  exact ⟨_, pss_cons (ps_set (i := 2) sc_rows_of.nd rfl (Or.inl rfl) (pe_ix ix_tup (pv 0) (pe_int) (fun _ _ => rfl)))
    (pss_cons (ps_if (pt_cmpR (op_eqD hu) (pv 2) (pe_str) (nomark _)) (pss_cons (ps_ret (pe_lst (pa_cons (pe_tupP (pa_nil)) (pa_nil))))
    (pss_nil)) (pss_nil))
    (pss_cons (ps_if (pt_cmpR (op_eqD hu) (pv 2) (pe_str) (nomark _)) (pss_cons (ps_set (i := 3) sc_rows_of.nd rfl (Or.inl rfl) (pe_defK D__amount_below ⟨rfl, rfl, rfl, rfl, rfl⟩ hr (by omega) hq tk (pa_cons (pe_ix ix_tup (pv 0) (pe_int) (fun _ _ => rfl)) (pa_cons (pv 1) (pa_nil)))))
    (pss_cons (ps_ret (pe_ifExp (pt_cmpR op_gt (pv 3) (pe_int) (nomark _)) (pe_lst (pa_cons (pe_tupP (pa_cons (pe_tupP (pa_cons (pv 3) (pa_cons (pe_ix ix_tup (pv 0) (pe_int) (fun _ _ => rfl)) (pa_cons (pe_ix ix_tup (pv 0) (pe_int) (fun _ _ => rfl)) (pa_nil))))) (pa_nil))) (pa_nil))) (pe_lst (pa_cons (pe_tupP (pa_nil)) (pa_nil)))))
    (pss_nil))) (pss_nil))
    (pss_cons (ps_if (pt_cmpR (op_eqD hu) (pv 2) (pe_str) (nomark _)) (pss_cons (ps_ret (pe_defK D__rows_of_all ⟨rfl, rfl, rfl, rfl, rfl⟩ hr (by omega) hq tk (pa_cons (pe_ix ix_tup (pv 0) (pe_int) (fun _ _ => rfl)) (pa_cons (pv 1) (pa_nil)))))
    (pss_nil)) (pss_nil))
    (pss_cons (ps_if (pt_cmpR (op_eqD hu) (pv 2) (pe_str) (nomark _)) (pss_cons (ps_ret (pe_defK D__not_outdone ⟨rfl, rfl, rfl, rfl, rfl⟩ hr (by omega) hq tk (pa_cons (pe_lc2 (own := [("part", 5), ("row", 4)]) (vs1 := [4]) rfl sc_rows_of.nd (pi_tup (pe_ix ix_tup (pv 0) (pe_int) (fun _ _ => rfl))) (blkOk_by (own := [("part", 5), ("row", 4)]) (N := N_rows_of) (sc := defScope s_rows_of) (by decide +kernel)) (by decide) (fun _ _ _ _ _ => by exact (pg_name (i := 5) sc_rows_of.nd rfl (Or.inl rfl))) (fun _ _ _ _ _ => by exact (pts_nil)) (fun _ _ _ _ _ => by exact (pi_list (pe_defK D_rows_of ⟨rfl, rfl, rfl, rfl, rfl⟩ hr (by omega) hq takes0 (pa_cons (pv 5) (pa_cons (pv 1) (pa_nil)))))) (fun _ _ _ _ _ => by exact (pg_name (i := 4) sc_rows_of.nd rfl (Or.inl rfl))) (fun _ _ _ _ _ => by exact (pts_nil)) (fun _ _ _ _ _ => by exact (pv 4))) (pa_nil))))
    (pss_nil)) (pss_nil))
    (pss_cons (ps_if (pt_cmpR (op_eqD hu) (pv 2) (pe_str) (nomark _)) (pss_cons (ps_ret (pe_lc (own := [("row", 4)]) rfl sc_rows_of.nd (pi_list (pe_defK D_rows_of ⟨rfl, rfl, rfl, rfl, rfl⟩ hr (by omega) hq tk (pa_cons (pe_ix ix_tup (pv 0) (pe_int) (fun _ _ => rfl)) (pa_cons (pv 1) (pa_nil))))) (blkOk_by (own := [("row", 4)]) (N := N_rows_of) (sc := defScope s_rows_of) (by decide +kernel)) (fun _ _ _ _ _ => by exact (pg_name (i := 4) sc_rows_of.nd rfl (Or.inl rfl))) (fun _ _ _ _ _ => by exact (pts_nil)) (fun _ _ _ _ _ => by exact (pe_defK D__cut_at_sum ⟨rfl, rfl, rfl, rfl, rfl⟩ hr (by omega) hq takes0 (pa_cons (pv 4) (pa_cons (pe_ix ix_tup (pv 0) (pe_int) (fun _ _ => rfl)) (pa_nil)))))))
    (pss_nil)) (pss_nil))
    (pss_cons (ps_ret (pe_lc (own := [("row", 4)]) rfl sc_rows_of.nd (pi_list (pe_defK D_rows_of ⟨rfl, rfl, rfl, rfl, rfl⟩ hr (by omega) hq tk (pa_cons (pe_ix ix_tup (pv 0) (pe_int) (fun _ _ => rfl)) (pa_cons (pv 1) (pa_nil))))) (blkOk_by (own := [("row", 4)]) (N := N_rows_of) (sc := defScope s_rows_of) (by decide +kernel)) (fun _ _ _ _ _ => by exact (pg_name (i := 4) sc_rows_of.nd rfl (Or.inl rfl))) (fun _ _ _ _ _ => by exact (pts_nil)) (fun _ _ _ _ _ => by exact (pe_defK D__cut_at_count ⟨rfl, rfl, rfl, rfl, rfl⟩ hr (by omega) hq takes0 (pa_cons (pv 4) (pa_cons (pe_ix ix_tup (pv 0) (pe_int) (fun _ _ => rfl)) (pa_nil)))))))
    (pss_nil))))))), rfl⟩
end
end K33
set_option maxRecDepth 100000
set_option maxHeartbeats 4000000
namespace K33
open PySem PySem.Spec PyProof.Rows L2 Pv
section
variable {P : Program} {w : World} {K : PySem.W.Frag} {κ : Cls} {mg : Str → Option Value} {base : Heap}
theorem ok_greatest_sum {a : Addr} {fd : FuncData} {lv : Nat} {slf : Fn} (T : Tx K κ mg) (F : Fun K "greatest_sum" "greatest_sum" s_greatest_sum a fd) (hlv : 17 ≤ lv) (D__sum_of_all_calls : Def P w K κ mg base "_sum_of_all_calls" lv p__sum_of_all_calls slf) (D__most_calls : Def P w K κ mg base "_most_calls" 7 p__most_calls (f__most_calls T 7)) (D_rows_of : Def P w K κ mg base "rows_of" 17 p_rows_of (f_rows_of T 7)) (D_sum_of_first : Def P w K κ mg base "sum_of_first" 1 p_sum_of_first (f_sum_of_first T)) : FnX P w K κ mg base (lv + 1) a fd p_greatest_sum (f_greatest_sum T slf) := by
  refine fnx_of F sc_greatest_sum (by decide) fun cdv A outer s H E Wx hr hq tk => ?_
  have hu := hr.units
  have hu2 := hu_str hr
  have hu1 := hu_of hr
  exact ⟨_, pss_cons (ps_if (PW.pt (pw_or (pt_cmp (pc_isN (pv 2)) rfl) (pw_or1 (pt_cmpR op_ge (pv 2) (pe_defK D__most_calls ⟨rfl, rfl, rfl, rfl, rfl⟩ hr (by omega) hq tk (pa_cons (pv 0) (pa_nil))) (nomark _))))) (pss_cons (ps_ret (pe_defK D__sum_of_all_calls ⟨rfl, rfl, rfl, rfl, rfl⟩ hr (by omega) hq tk (pa_cons (pv 0) (pa_cons (pv 1) (pa_nil)))))
    (pss_nil)) (pss_nil))
    (pss_cons (ps_ret (pe_callB (cr_max rfl) (by rfl) T.z_max (by decide +kernel) (pa_cons (pe_lc (own := [("row", 3)]) rfl sc_greatest_sum.nd (pi_list (pe_defK D_rows_of ⟨rfl, rfl, rfl, rfl, rfl⟩ hr (by omega) hq tk (pa_cons (pv 0) (pa_cons (pv 1) (pa_nil))))) (blkOk_by (own := [("row", 3)]) (N := N_greatest_sum) (sc := defScope s_greatest_sum) (by decide +kernel)) (fun _ _ _ _ _ => by exact (pg_name (i := 3) sc_greatest_sum.nd rfl (Or.inl rfl))) (fun _ _ _ _ _ => by exact (pts_nil)) (fun _ _ _ _ _ => by exact (pe_defK D_sum_of_first ⟨rfl, rfl, rfl, rfl, rfl⟩ hr (by omega) hq takes0 (pa_cons (pv 3) (pa_cons (pv 2) (pa_nil)))))) pa_nil)))
    (pss_nil)), rfl⟩
end
end K33
set_option maxRecDepth 100000
set_option maxHeartbeats 4000000
namespace K33
open PySem PySem.Spec PyProof.Rows L2 Pv
section
variable {P : Program} {w : World} {K : PySem.W.Frag} {κ : Cls} {mg : Str → Option Value} {base : Heap}
theorem ok__sum_of_all_calls {a a2 : Addr} {fd fd2 : FuncData} (T : Tx K κ mg) (F : Fun K "_sum_of_all_calls" "_sum_of_all_calls" s__sum_of_all_calls a fd) (mk : ∀ (l : Nat) (F' : Fn), FnX P w K κ mg base l a fd p__sum_of_all_calls F' → Def P w K κ mg base "_sum_of_all_calls" l p__sum_of_all_calls F') (F2 : Fun K "greatest_sum" "greatest_sum" s_greatest_sum a2 fd2) (mk2 : ∀ (l : Nat) (F' : Fn), FnX P w K κ mg base l a2 fd2 p_greatest_sum F' → Def P w K κ mg base "greatest_sum" l p_greatest_sum F') (D__amount_below : Def P w K κ mg base "_amount_below" 1 p__amount_below (f__amount_below T)) (D__most_calls : Def P w K κ mg base "_most_calls" 7 p__most_calls (f__most_calls T 7)) (D_rows_of : Def P w K κ mg base "rows_of" 17 p_rows_of (f_rows_of T 7)) (D_sum_of_first : Def P w K κ mg base "sum_of_first" 1 p_sum_of_first (f_sum_of_first T)) : ∀ n : Nat, FnX P w K κ mg base (17 + 2 * n) a fd p__sum_of_all_calls (f__sum_of_all_calls T n) := by
  refine fnx_recB rfl fun n IH => ?_
  have D__sum_of_all_calls := mk _ _ IH
  have D_greatest_sum := mk2 _ _ (ok_greatest_sum T F2 (lv := 17 + 2 * n) (by omega) D__sum_of_all_calls D__most_calls D_rows_of D_sum_of_first)
  show FnX P w K κ mg base ((17 + 2 * n + 1) + 1) a fd p__sum_of_all_calls (Pv.fnOf 4 (b__sum_of_all_calls T (f__sum_of_all_calls T n) (f_greatest_sum T (f__sum_of_all_calls T n))).asg (b__sum_of_all_calls T (f__sum_of_all_calls T n) (f_greatest_sum T (f__sum_of_all_calls T n))).sv)
  obtain ⟨slf, hslf⟩ : ∃ g, g = f__sum_of_all_calls T n := ⟨_, rfl⟩
  rw [← hslf] at D__sum_of_all_calls D_greatest_sum ⊢
  obtain ⟨oth, hoth⟩ : ∃ g, g = f_greatest_sum T slf := ⟨_, rfl⟩
  rw [← hoth] at D_greatest_sum ⊢
  refine fnx_of F sc__sum_of_all_calls (by decide) fun cdv A outer s H E Wx hr hq tk => ?_
  have hu := hr.units
  have hu2 := hu_str hr
  have hu1 := hu_of hr
  exact ⟨_, pss_cons (ps_set (i := 2) sc__sum_of_all_calls.nd rfl (Or.inl rfl) (pe_ix ix_tup (pv 0) (pe_int) (fun _ _ => rfl)))
    (pss_cons (ps_if (pt_cmpR (op_eqD hu) (pv 2) (pe_str) (nomark _)) (pss_cons (ps_ret (pe_int))
    (pss_nil)) (pss_nil))
    (pss_cons (ps_if (pt_cmpR (op_eqD hu) (pv 2) (pe_str) (nomark _)) (pss_cons (ps_ret (pe_op op_mul (pe_ix ix_tup (pv 0) (pe_int) (fun _ _ => rfl)) (pe_defK D__amount_below ⟨rfl, rfl, rfl, rfl, rfl⟩ hr (by omega) hq tk (pa_cons (pe_ix ix_tup (pv 0) (pe_int) (fun _ _ => rfl)) (pa_cons (pv 1) (pa_nil))))))
    (pss_nil)) (pss_nil))
    (pss_cons (ps_if (pt_cmpR (op_eqD hu) (pv 2) (pe_str) (nomark _)) (pss_cons (ps_ret (pe_callB (cr_sum rfl) (by rfl) T.z_sum (by decide +kernel) (pa_cons (pe_lc (own := [("part", 3)]) rfl sc__sum_of_all_calls.nd (pi_tup (pe_ix ix_tup (pv 0) (pe_int) (fun _ _ => rfl))) (blkOk_by (own := [("part", 3)]) (N := N__sum_of_all_calls) (sc := defScope s__sum_of_all_calls) (by decide +kernel)) (fun _ _ _ _ _ => by exact (pg_name (i := 3) sc__sum_of_all_calls.nd rfl (Or.inl rfl))) (fun _ _ _ _ _ => by exact (pts_nil)) (fun _ _ _ _ _ => by exact (pe_defK D__sum_of_all_calls ⟨rfl, rfl, rfl, rfl, rfl⟩ hr (by omega) hq takes0 (pa_cons (pv 3) (pa_cons (pv 1) (pa_nil)))))) (pa_nil))))
    (pss_nil)) (pss_nil))
    (pss_cons (ps_if (pt_cmpR (op_eqD hu) (pv 2) (pe_str) (nomark _)) (pss_cons (ps_ret (pe_callBK (cr_topK rfl) (by rfl) T.z_max (by decide +kernel) (pa_cons (pe_lc (own := [("part", 3)]) rfl sc__sum_of_all_calls.nd (pi_tup (pe_ix ix_tup (pv 0) (pe_int) (fun _ _ => rfl))) (blkOk_by (own := [("part", 3)]) (N := N__sum_of_all_calls) (sc := defScope s__sum_of_all_calls) (by decide +kernel)) (fun _ _ _ _ _ => by exact (pg_name (i := 3) sc__sum_of_all_calls.nd rfl (Or.inl rfl))) (fun _ _ _ _ _ => by exact (pts_nil)) (fun _ _ _ _ _ => by exact (pe_defK D__sum_of_all_calls ⟨rfl, rfl, rfl, rfl, rfl⟩ hr (by omega) hq takes0 (pa_cons (pv 3) (pa_cons (pv 1) (pa_nil)))))) pa_nil) (pk_cons (pe_int) pk_nil)))
    (pss_nil)) (pss_nil))
    (pss_cons (ps_if (pt_cmpR (op_eqD hu) (pv 2) (pe_str) (nomark _)) (pss_cons (ps_ret (pe_callB (call_min2 rfl) (by rfl) T.z_min (by decide +kernel) (pa_cons (pe_ix ix_tup (pv 0) (pe_int) (fun _ _ => rfl)) (pa_cons (pe_defK D__sum_of_all_calls ⟨rfl, rfl, rfl, rfl, rfl⟩ hr (by omega) hq tk (pa_cons (pe_ix ix_tup (pv 0) (pe_int) (fun _ _ => rfl)) (pa_cons (pv 1) (pa_nil)))) (pa_nil)))))
    (pss_nil)) (pss_nil))
    (pss_cons (ps_ret (pe_defK D_greatest_sum ⟨rfl, rfl, rfl, rfl, rfl⟩ hr (by omega) hq tk (pa_cons (pe_ix ix_tup (pv 0) (pe_int) (fun _ _ => rfl)) (pa_cons (pv 1) (pa_cons (pe_ix ix_tup (pv 0) (pe_int) (fun _ _ => rfl)) (pa_nil))))))
    (pss_nil))))))), rfl⟩
end
end K33
set_option maxRecDepth 100000
set_option maxHeartbeats 4000000
namespace K33
open PySem PySem.Spec PyProof.Rows L2 Pv
section
variable {P : Program} {w : World} {K : PySem.W.Frag} {κ : Cls} {mg : Str → Option Value} {base : Heap}
theorem ok_check_small_right {a : Addr} {fd : FuncData} (T : Tx K κ mg) (F : Fun K "check_small_right" "check_small_right" s_check_small_right a fd) (D__has_small_mosts : Def P w K κ mg base "_has_small_mosts" 8 p__has_small_mosts (f__has_small_mosts T 7)) (D_greatest_sum : Def P w K κ mg base "greatest_sum" 32 p_greatest_sum (f_greatest_sum T (f__sum_of_all_calls T 7))) : FnX P w K κ mg base 33 a fd p_check_small_right (f_check_small_right T) := by
  refine fnx_of F sc_check_small_right (by decide) fun cdv A outer s H E Wx hr hq tk => ?_
  have hu := hr.units
  have hu2 := hu_str hr
  have hu1 := hu_of hr
  exact ⟨_, pss_cons (ps_if (PW.pt (pw_or (pt_not (pt_val (pe_defK D__has_small_mosts ⟨rfl, rfl, rfl, rfl, rfl⟩ hr (by decide) hq tk (pa_cons (pv 0) (pa_nil))))) (pw_or1 (pt_cmpR op_gt (pe_defK D_greatest_sum ⟨rfl, rfl, rfl, rfl, rfl⟩ hr (by decide) hq tk (pa_cons (pv 0) (pa_cons (pe_non) (pa_cons (pe_non) (pa_nil))))) (pe_glob (v := .int 200) rfl T.c_SMALL.choose_spec ⟨_, rfl⟩) (nomark _))))) (pss_cons (ps_never)
    (pss_nil)) (pss_nil))
    (pss_nil), rfl⟩
end
end K33
set_option maxRecDepth 100000
set_option maxHeartbeats 4000000
namespace K33
open PySem PySem.Spec PyProof.Rows L2 Pv
section
variable {P : Program} {w : World} {K : PySem.W.Frag} {κ : Cls} {mg : Str → Option Value} {base : Heap}
theorem ok_greatest_call {a : Addr} {fd : FuncData} (T : Tx K κ mg) (F : Fun K "greatest_call" "greatest_call" s_greatest_call a fd) (mk : ∀ (l : Nat) (F' : Fn), FnX P w K κ mg base l a fd p_greatest_call F' → Def P w K κ mg base "greatest_call" l p_greatest_call F') (D_straight_within : Def P w K κ mg base "straight_within" 1 p_straight_within (f_straight_within T)) : ∀ n : Nat, FnX P w K κ mg base (1 + n) a fd p_greatest_call (f_greatest_call T n) := by
  refine fnx_rec rfl fun n IH => ?_
  have D_greatest_call := mk _ _ IH
  show FnX P w K κ mg base ((1 + n) + 1) a fd p_greatest_call (Pv.fnOf 2 (b_greatest_call T (f_greatest_call T n)).asg (b_greatest_call T (f_greatest_call T n)).sv)
  obtain ⟨slf, hslf⟩ : ∃ g, g = f_greatest_call T n := ⟨_, rfl⟩
  rw [← hslf] at D_greatest_call ⊢
  refine fnx_of F sc_greatest_call (by decide) fun cdv A outer s H E Wx hr hq tk => ?_
  have hu := hr.units
  have hu2 := hu_str hr
  have hu1 := hu_of hr
  exact ⟨_, pss_cons (ps_if (pt_cmpR (op_eqD hu) (pe_ix ix_tup (pv 0) (pe_int) (fun _ _ => rfl)) (pe_str) (nomark _)) (pss_cons (ps_ret (pe_ix ix_tup (pv 0) (pe_int) (fun _ _ => rfl)))
    (pss_nil)) (pss_nil))
    (pss_cons (ps_ret (pe_callBK (cr_topK rfl) (by rfl) T.z_max (by decide +kernel) (pa_cons (pe_lc (own := [("part", 1)]) rfl sc_greatest_call.nd (pi_tup (pe_defK D_straight_within ⟨rfl, rfl, rfl, rfl, rfl⟩ hr (by omega) hq tk (pa_cons (pv 0) (pa_nil)))) (blkOk_by (own := [("part", 1)]) (N := N_greatest_call) (sc := defScope s_greatest_call) (by decide +kernel)) (fun _ _ _ _ _ => by exact (pg_name (i := 1) sc_greatest_call.nd rfl (Or.inl rfl))) (fun _ _ _ _ _ => by exact (pts_nil)) (fun _ _ _ _ _ => by exact (pe_defK D_greatest_call ⟨rfl, rfl, rfl, rfl, rfl⟩ hr (by omega) hq takes0 (pa_cons (pv 1) (pa_nil))))) pa_nil) (pk_cons (pe_int) pk_nil)))
    (pss_nil)), rfl⟩
end
end K33
set_option maxRecDepth 100000
set_option maxHeartbeats 4000000
namespace K33
open PySem PySem.Spec PyProof.Rows L2 Pv
section
variable {P : Program} {w : World} {K : PySem.W.Frag} {κ : Cls} {mg : Str → Option Value} {base : Heap}
theorem ok_sums_below {a : Addr} {fd : FuncData} (T : Tx K κ mg) (F : Fun K "sums_below" "sums_below" s_sums_below a fd) (D_greatest_call : Def P w K κ mg base "greatest_call" 8 p_greatest_call (f_greatest_call T 7)) (D_greatest_sum : Def P w K κ mg base "greatest_sum" 32 p_greatest_sum (f_greatest_sum T (f__sum_of_all_calls T 7))) : FnX P w K κ mg base 33 a fd p_sums_below (f_sums_below T) := by
  refine fnx_of F sc_sums_below (by decide) fun cdv A outer s H E Wx hr hq tk => ?_
  have hu := hr.units
  have hu2 := hu_str hr
  have hu1 := hu_of hr
  exact ⟨_, pss_cons (ps_ret (pe_op op_catL (pe_lst (pa_cons (pe_int) (pa_nil))) (pe_lc (own := [("below", 1)]) rfl sc_sums_below.nd (pi_range2 (by rfl) T.z_range (pa_cons (pe_int) (pa_cons (pe_op op_add (pe_defK D_greatest_call ⟨rfl, rfl, rfl, rfl, rfl⟩ hr (by decide) hq tk (pa_cons (pv 0) (pa_nil))) (pe_int)) pa_nil))) (blkOk_by (own := [("below", 1)]) (N := N_sums_below) (sc := defScope s_sums_below) (by decide +kernel)) (fun _ _ _ _ _ => by exact (pg_name (i := 1) sc_sums_below.nd rfl (Or.inl rfl))) (fun _ _ _ _ _ => by exact (pts_nil)) (fun _ _ _ _ _ => by exact (pe_defK D_greatest_sum ⟨rfl, rfl, rfl, rfl, rfl⟩ hr (by decide) hq takes0 (pa_cons (pv 0) (pa_cons (pv 1) (pa_cons (pe_non) (pa_nil)))))))))
    (pss_nil), rfl⟩
end
end K33
set_option maxRecDepth 100000
set_option maxHeartbeats 4000000
namespace K33
open PySem PySem.Spec PyProof.Rows L2 Pv
section
variable {P : Program} {w : World} {K : PySem.W.Frag} {κ : Cls} {mg : Str → Option Value} {base : Heap}
theorem ok_cover {a : Addr} {fd : FuncData} (T : Tx K κ mg) (F : Fun K "cover" "cover" s_cover a fd) (D__calls_from : Def P w K κ mg base "_calls_from" 1 p__calls_from (f__calls_from T)) (D_check_right : Def P w K κ mg base "check_right" 11 p_check_right (f_check_right T)) (D_check_small_right : Def P w K κ mg base "check_small_right" 33 p_check_small_right (f_check_small_right T)) (D_sums_below : Def P w K κ mg base "sums_below" 33 p_sums_below (f_sums_below T)) : FnX P w K κ mg base 34 a fd p_cover (f_cover T) := by
  refine fnx_of F sc_cover (by decide) fun cdv A outer s H E Wx hr hq tk => ?_
  have hu := hr.units
  have hu2 := hu_str hr
  have hu1 := hu_of hr
  exact ⟨_, pss_cons (ps_expr (pe_defK D_check_right ⟨rfl, rfl, rfl, rfl, rfl⟩ hr (by decide) hq tk (pa_cons (pv 0) (pa_nil))))
    (pss_cons (ps_expr (pe_defK D_check_small_right ⟨rfl, rfl, rfl, rfl, rfl⟩ hr (by decide) hq tk (pa_cons (pv 0) (pa_nil))))
    (pss_cons (ps_set (i := 1) sc_cover.nd rfl (Or.inl rfl) (pe_defK D_sums_below ⟨rfl, rfl, rfl, rfl, rfl⟩ hr (by decide) hq tk (pa_cons (pv 0) (pa_nil))))
    (pss_cons (ps_set (i := 2) sc_cover.nd rfl (Or.inl rfl) (pe_lst (pa_nil)))
    (pss_cons (ps_set (i := 3) sc_cover.nd rfl (Or.inl rfl) (pe_int))
    (pss_cons (ps_asg (pe_tupP (pa_cons (pe_int) (pa_cons (pe_int) (pa_nil)))) (pg_tup (by rfl) (pgs_cons (pg_name (i := 4) sc_cover.nd rfl (Or.inl rfl)) (pgs_cons (pg_name (i := 5) sc_cover.nd rfl (Or.inl rfl)) (pgs_nil)))))
    (pss_cons (ps_for (passes_of rfl) rfl (pi_range2 (by rfl) T.z_range (pa_cons (pe_int) (pa_cons (pe_callB call_len_seq (by rfl) T.z_len (by decide +kernel) (pa_cons (pv 1) (pa_nil))) pa_nil))) (pg_name (i := 6) sc_cover.nd rfl (Or.inl rfl)) (pss_cons (ps_set (i := 7) sc_cover.nd rfl (Or.inl rfl) (pe_defK D__calls_from ⟨rfl, rfl, rfl, rfl, rfl⟩ hr (by decide) hq tk (pa_cons (pv 1) (pa_cons (pv 6) (pa_cons (pv 3) (pa_nil))))))
    (pss_cons (ps_if (pt_cmpR op_lt (pv 7) (pv 5) (nomark _)) (pss_cons (ps_expr (pe_bm PySem.F.plainAttrs_list PySem.F.slot_list_append PySem.F.type_list_append mt_append (pv 2) (pa_cons (pe_tupP (pa_cons (pv 4) (pa_cons (pe_op op_sub (pv 5) (pv 7)) (pa_nil)))) pa_nil)))
    (pss_nil)) (pss_nil))
    (pss_cons (ps_aug (i := 3) sc_cover.nd rfl (Or.inl rfl) (pv 7) ip_add)
    (pss_cons (ps_par (by rfl) sc_cover.nd rfl rfl (by decide) rfl rfl (pa_cons (pv 6) (pa_cons (pv 7) pa_nil)) (by rfl))
    (pss_nil))))))
    (pss_cons (ps_expr (pe_bm0 PySem.F.plainAttrs_list PySem.F.slot_list_reverse PySem.F.type_list_reverse mt_reverse (pv 2)))
    (pss_cons (ps_ret (pe_callTy call_tupP (by rfl) T.z_tuple (by decide +kernel) (pa_cons (pv 2) (pa_nil))))
    (pss_nil))))))))), rfl⟩
end
end K33
set_option maxRecDepth 100000
set_option maxHeartbeats 4000000
namespace K33
open PySem PySem.Spec PyProof.Rows L2 Pv
section
variable {P : Program} {w : World} {K : PySem.W.Frag} {κ : Cls} {mg : Str → Option Value} {base : Heap}
theorem ok_l_good {a : Addr} {fd : FuncData} (T : Tx K κ mg) (F : Fun K "_law_good" "_law_good" s_l_good a fd) (D_l_due : Def P w K κ mg base "_law_due" 15 p_l_due (f_l_due T)) (D_cover : Def P w K κ mg base "cover" 34 p_cover (f_cover T)) : FnX P w K κ mg base 35 a fd p_l_good (f_l_good T) := by
  refine fnx_of F sc_l_good (by decide) fun cdv A outer s H E Wx hr hq tk => ?_
  have hu := hr.units
  have hu2 := hu_str hr
  have hu1 := hu_of hr
  exact ⟨_, pss_cons (ps_set (i := 1) sc_l_good.nd rfl (Or.inl rfl) (pe_defK D_l_due ⟨rfl, rfl, rfl, rfl, rfl⟩ hr (by decide) hq tk (pa_cons (pv 0) (pa_nil))))
    (pss_cons (ps_set (i := 2) sc_l_good.nd rfl (Or.inl rfl) (pe_defK D_cover ⟨rfl, rfl, rfl, rfl, rfl⟩ hr (by decide) hq tk (pa_cons (pv 0) (pa_nil))))
    (pss_cons (ps_if (PW.pt (pw_or (pt_cmpR (op_neD hu) (pv 2) (pv 1) (nomark _)) (pw_or (pt_not (pt_val (pe_callB call_isD (by rfl) T.z_isinstance (by decide +kernel) (pa_cons (pv 2) (pa_cons (pe_bltn (v := .ty "tuple") (u := .type "tuple") (by rfl) T.z_tuple (by decide +kernel) rfl) pa_nil))))) (pw_or1 (pt_cmpR (op_neD hu) (pe_defK D_cover ⟨rfl, rfl, rfl, rfl, rfl⟩ hr (by decide) hq tk (pa_cons (pv 0) (pa_nil))) (pv 1) (nomark _)))))) (pss_cons (ps_ret (pe_bl))
    (pss_nil)) (pss_nil))
    (pss_cons (ps_for (passes_of rfl) rfl (pi_tup (pv 2)) (pg_tup (by rfl) (pgs_cons (pg_name (i := 3) sc_l_good.nd rfl (Or.inl rfl)) (pgs_cons (pg_name (i := 4) sc_l_good.nd rfl (Or.inl rfl)) (pgs_nil)))) (pss_cons (ps_if (PW.pt (pw_or (pt_val (pe_callB call_isD (by rfl) T.z_isinstance (by decide +kernel) (pa_cons (pv 3) (pa_cons (pe_bltn (v := .ty "bool") (u := .type "bool") (by rfl) T.z_bool (by decide +kernel) rfl) pa_nil)))) (pw_or1 (pt_val (pe_callB call_isD (by rfl) T.z_isinstance (by decide +kernel) (pa_cons (pv 4) (pa_cons (pe_bltn (v := .ty "bool") (u := .type "bool") (by rfl) T.z_bool (by decide +kernel) rfl) pa_nil))))))) (pss_cons (ps_ret (pe_bl))
    (pss_nil)) (pss_nil))
    (pss_nil)))
    (pss_cons (ps_ret (pe_bl))
    (pss_nil))))), rfl⟩
end
end K33
set_option maxRecDepth 100000
set_option maxHeartbeats 4000000
namespace K33
open PySem PySem.Spec PyProof.Rows L2 Pv
section
variable {P : Program} {w : World} {K : PySem.W.Frag} {κ : Cls} {mg : Str → Option Value} {base : Heap}
theorem ok_l_take {a : Addr} {fd : FuncData} (T : Tx K κ mg) (F : Fun K "_law_take" "_law_take" s_l_take a fd)  : FnX P w K κ mg base 1 a fd p_l_take (f_l_take T) := by
  refine fnx_of F sc_l_take (by decide) fun cdv A outer s H E Wx hr hq tk => ?_
  have hu := hr.units
  have hu2 := hu_str hr
  have hu1 := hu_of hr
  exact ⟨_, pss_cons (ps_set (i := 2) sc_l_take.nd rfl (Or.inl rfl) (pe_op op_mod (pe_ix ix_list (pv 0) (pe_int) (fun _ _ => rfl)) (pv 1)))
    (pss_cons (ps_asg (pe_op op_fdivW (pe_ix ix_list (pv 0) (pe_int) (fun _ _ => rfl)) (pv 1)) (pg_sub (pv 0) pe_int set_list))
    (pss_cons (ps_ret (pv 2))
    (pss_nil))), rfl⟩
end
end K33
set_option maxRecDepth 100000
set_option maxHeartbeats 4000000
namespace K33
open PySem PySem.Spec PyProof.Rows L2 Pv
section
variable {P : Program} {w : World} {K : PySem.W.Frag} {κ : Cls} {mg : Str → Option Value} {base : Heap}
theorem ok_l_right {a : Addr} {fd : FuncData} (T : Tx K κ mg) (F : Fun K "_law_right" "_law_right" s_l_right a fd) (mk : ∀ (l : Nat) (F' : Fn), FnX P w K κ mg base l a fd p_l_right F' → Def P w K κ mg base "_law_right" l p_l_right F') (D_l_take : Def P w K κ mg base "_law_take" 1 p_l_take (f_l_take T)) : ∀ n : Nat, FnX P w K κ mg base (1 + n) a fd p_l_right (f_l_right T n) := by
  refine fnx_rec rfl fun n IH => ?_
  have D_l_right := mk _ _ IH
  show FnX P w K κ mg base ((1 + n) + 1) a fd p_l_right (Pv.fnOf 7 (b_l_right T (f_l_right T n)).asg (b_l_right T (f_l_right T n)).sv)
  obtain ⟨slf, hslf⟩ : ∃ g, g = f_l_right T n := ⟨_, rfl⟩
  rw [← hslf] at D_l_right ⊢
  refine fnx_of F sc_l_right (by decide) fun cdv A outer s H E Wx hr hq tk => ?_
  have hu := hr.units
  have hu2 := hu_str hr
  have hu1 := hu_of hr
  exact ⟨_, pss_cons (ps_set (i := 4) sc_l_right.nd rfl (Or.inl rfl) (pe_defK D_l_take ⟨rfl, rfl, rfl, rfl, rfl⟩ hr (by omega) hq tk (pa_cons (pv 0) (pa_cons (pe_int) (pa_nil)))))
    (pss_cons (ps_if (pt_cmpR (op_eqD hu) (pv 2) (pe_lst (pa_nil)) (nomark _)) (pss_cons (ps_ret (pe_tupP (pa_cons (pe_str) (pa_nil))))
    (pss_nil)) (pss_nil))
    (pss_cons (ps_if (PW.pt (pw_or (pt_cmpR op_lt (pv 1) (pe_int) (nomark _)) (pw_or1 (pt_cmpR op_lt (pv 4) (pe_int) (nomark _))))) (pss_cons (ps_ret (pe_tupP (pa_cons (pe_str) (pa_cons (pe_bm PySem.F.plainAttrs_list PySem.F.slot_list_pop PySem.F.type_list_pop mt_popAt (pv 2) (pa_cons (pe_int) pa_nil)) (pa_cons (pe_op op_add (pe_int) (pe_defK D_l_take ⟨rfl, rfl, rfl, rfl, rfl⟩ hr (by omega) hq tk (pa_cons (pv 0) (pa_cons (pv 3) (pa_nil))))) (pa_cons (pe_op op_add (pe_int) (pe_op op_mul (pe_defK D_l_take ⟨rfl, rfl, rfl, rfl, rfl⟩ hr (by omega) hq tk (pa_cons (pv 0) (pa_cons (pe_int) (pa_nil)))) (pe_callTy call_int1 (by rfl) T.z_int (by decide +kernel) (pa_cons (pe_cmpR (op_eqD hu) (pv 4) (pe_int) (nomark _)) (pa_nil))))) (pa_nil)))))))
    (pss_nil)) (pss_nil))
    (pss_cons (ps_if (pt_cmpR (op_eqD hu) (pv 4) (pe_int) (nomark _)) (pss_cons (ps_ret (pe_tupP (pa_cons (pe_str) (pa_cons (pe_op op_add (pe_int) (pe_defK D_l_take ⟨rfl, rfl, rfl, rfl, rfl⟩ hr (by omega) hq tk (pa_cons (pv 0) (pa_cons (pe_op op_mul (pe_int) (pv 3)) (pa_nil))))) (pa_cons (pe_defK D_l_right ⟨rfl, rfl, rfl, rfl, rfl⟩ hr (by omega) hq tk (pa_cons (pv 0) (pa_cons (pe_op op_sub (pv 1) (pe_int)) (pa_cons (pv 2) (pa_cons (pv 3) (pa_nil)))))) (pa_nil))))))
    (pss_nil)) (pss_nil))
    (pss_cons (ps_if (pt_cmpR (op_eqD hu) (pv 4) (pe_int) (nomark _)) (pss_cons (ps_ret (pe_tupP (pa_cons (pe_str) (pa_cons (pe_op op_add (pe_int) (pe_defK D_l_take ⟨rfl, rfl, rfl, rfl, rfl⟩ hr (by omega) hq tk (pa_cons (pv 0) (pa_cons (pe_int) (pa_nil))))) (pa_cons (pe_defK D_l_right ⟨rfl, rfl, rfl, rfl, rfl⟩ hr (by omega) hq tk (pa_cons (pv 0) (pa_cons (pe_op op_sub (pv 1) (pe_int)) (pa_cons (pv 2) (pa_cons (pv 3) (pa_nil)))))) (pa_nil))))))
    (pss_nil)) (pss_nil))
    (pss_cons (ps_setLc (i := 5) (own := [("_law_k", 6)]) rfl sc_l_right.nd rfl rfl (sw_true rfl rfl rfl (by decide +kernel)) (pi_range1 (by rfl) T.z_range (pa_cons (pe_op op_add (pe_int) (pe_defK D_l_take ⟨rfl, rfl, rfl, rfl, rfl⟩ hr (by omega) hq tk (pa_cons (pv 0) (pa_cons (pe_int) (pa_nil))))) pa_nil)) (blkOk_by (own := [("_law_k", 6)]) (N := N_l_right) (sc := defScope s_l_right) (by decide +kernel)) (fun _ _ _ _ _ => by exact (pg_name (i := 6) sc_l_right.nd rfl (Or.inl rfl))) (fun _ _ _ _ _ => by exact (pts_nil)) (fun _ _ _ _ _ => by exact (pe_defK D_l_right ⟨rfl, rfl, rfl, rfl, rfl⟩ hr (by omega) hq takes0 (pa_cons (pv 0) (pa_cons (pe_op op_sub (pv 1) (pe_int)) (pa_cons (pv 2) (pa_cons (pv 3) (pa_nil))))))))
    (pss_cons (ps_ret (pe_tupP (pa_cons (pe_ix ix_list (pe_lst (pa_cons (pe_str) (pa_cons (pe_str) (pa_cons (pe_str) (pa_nil))))) (pe_op op_sub (pv 4) (pe_int)) (fun _ _ => rfl)) (pa_cons (pe_callTy call_tupP (by rfl) T.z_tuple (by decide +kernel) (pa_cons (pv 5) (pa_nil))) (pa_nil)))))
    (pss_nil))))))), rfl⟩
end
end K33
set_option maxRecDepth 100000
set_option maxHeartbeats 4000000
namespace K33
open PySem PySem.Spec PyProof.Rows L2 Pv
section
variable {P : Program} {w : World} {K : PySem.W.Frag} {κ : Cls} {mg : Str → Option Value} {base : Heap}
theorem ok_law {a : Addr} {fd : FuncData} (T : Tx K κ mg) (F : Fun K "law" "law" s_law a fd) (D_l_cell : Def P w K κ mg base "_law_cell" 2 p_l_cell (f_l_cell T)) (D_l_due : Def P w K κ mg base "_law_due" 15 p_l_due (f_l_due T)) (D_l_good : Def P w K κ mg base "_law_good" 35 p_l_good (f_l_good T)) (D_l_right : Def P w K κ mg base "_law_right" 8 p_l_right (f_l_right T 7)) (D_cover : Def P w K κ mg base "cover" 34 p_cover (f_cover T)) : FnX P w K κ mg base 36 a fd p_law (f_law T) := by
  refine fnx_of F sc_law (by decide) fun cdv A outer s H E Wx hr hq tk => ?_
  have hu := hr.units
  have hu2 := hu_str hr
  have hu1 := hu_of hr
  exact ⟨_, pss_cons (ps_for (passes_of rfl) rfl (pi_range1 (by rfl) T.z_range (pa_cons (pe_callB (call_max2 rfl) (by rfl) T.z_max (by decide +kernel) (pa_cons (pe_callB (call_min2 rfl) (by rfl) T.z_min (by decide +kernel) (pa_cons (pe_callB call_len_seq (by rfl) T.z_len (by decide +kernel) (pa_cons (pv 0) (pa_nil))) (pa_cons (pe_int) (pa_nil)))) (pa_cons (pe_int) (pa_nil)))) pa_nil)) (pg_name (i := 1) sc_law.nd rfl (Or.inl rfl)) (pss_cons (ps_set (i := 6) sc_law.nd rfl (Or.inl rfl) (pe_lst (pa_cons (pe_defK D_l_cell ⟨rfl, rfl, rfl, rfl, rfl⟩ hr (by decide) hq tk (pa_cons (pv 0) (pa_cons (pv 1) (pa_nil)))) (pa_nil))))
    (pss_cons (ps_for (passes_of rfl) rfl (pi_range1 (by rfl) T.z_range (pa_cons (pe_int) pa_nil)) (pg_name (i := 7) sc_law.nd rfl (Or.inl rfl)) (pss_cons (ps_set (i := 8) sc_law.nd rfl (Or.inl rfl) (pe_defK D_l_right ⟨rfl, rfl, rfl, rfl, rfl⟩ hr (by decide) hq tk (pa_cons (pv 6) (pa_cons (pe_int) (pa_cons (pe_callTy (cr_listS rfl) (by rfl) T.z_list (by decide +kernel) (pa_cons pe_str pa_nil)) (pa_cons pe_int pa_nil))))))
    (pss_cons (ps_set (i := 9) sc_law.nd rfl (Or.inl rfl) (pe_defK D_l_right ⟨rfl, rfl, rfl, rfl, rfl⟩ hr (by decide) hq tk (pa_cons (pv 6) (pa_cons (pe_int) (pa_cons (pe_callTy (cr_listS rfl) (by rfl) T.z_list (by decide +kernel) (pa_cons pe_str pa_nil)) (pa_cons pe_int pa_nil))))))
    (pss_cons (ps_if (PW.pt (pw_or (pt_not (pt_val (pe_defK D_l_good ⟨rfl, rfl, rfl, rfl, rfl⟩ hr (by decide) hq tk (pa_cons (pv 8) (pa_nil))))) (pw_or1 (pt_not (pt_val (pe_defK D_l_good ⟨rfl, rfl, rfl, rfl, rfl⟩ hr (by decide) hq tk (pa_cons (pe_tupP (pa_cons (pe_str) (pa_cons (pe_tupP (pa_cons (pv 8) (pa_cons (pv 9) (pa_nil)))) (pa_nil)))) (pa_nil)))))))) (pss_cons (ps_ret (pe_bl))
    (pss_nil)) (pss_nil))
    (pss_nil)))))
    (pss_nil))))
    (pss_cons (ps_set (i := 2) sc_law.nd rfl (Or.inl rfl) (pe_tupP (pa_cons (pe_str) (pa_cons (pe_tupP (pa_cons (pe_tupP (pa_cons (pe_str) (pa_cons (pe_str) (pa_cons (pe_int) (pa_cons (pe_int) (pa_nil)))))) (pa_cons (pe_tupP (pa_cons (pe_str) (pa_cons (pe_str) (pa_cons (pe_int) (pa_cons (pe_int) (pa_nil)))))) (pa_nil)))) (pa_nil)))))
    (pss_cons (ps_if (PW.pt (pw_or (pt_cmpR (op_neD hu) (pe_defK D_cover ⟨rfl, rfl, rfl, rfl, rfl⟩ hr (by decide) hq tk (pa_cons (pv 2) (pa_nil))) (pe_tupP (pa_cons (pe_tupP (pa_cons (pe_int) (pa_cons (pe_int) (pa_nil)))) (pa_cons (pe_tupP (pa_cons (pe_int) (pa_cons (pe_int) (pa_nil)))) (pa_nil)))) (nomark _)) (pw_or1 (pt_cmpR (op_neD hu) (pe_defK D_cover ⟨rfl, rfl, rfl, rfl, rfl⟩ hr (by decide) hq tk (pa_cons (pe_tupP (pa_cons (pe_str) (pa_nil))) (pa_nil))) (pe_tupP (pa_nil)) (nomark _))))) (pss_cons (ps_ret (pe_bl))
    (pss_nil)) (pss_nil))
    (pss_cons (ps_set (i := 3) sc_law.nd rfl (Or.inl rfl) (pe_tupP (pa_cons (pe_str) (pa_cons (pe_tupP (pa_cons (pe_tupP (pa_cons (pe_str) (pa_cons (pe_str) (pa_cons (pe_int) (pa_cons (pe_int) (pa_nil)))))) (pa_cons (pe_tupP (pa_cons (pe_str) (pa_cons (pe_str) (pa_cons (pe_int) (pa_cons (pe_int) (pa_nil)))))) (pa_cons (pe_tupP (pa_cons (pe_str) (pa_cons (pe_str) (pa_cons (pe_int) (pa_cons (pe_int) (pa_nil)))))) (pa_nil))))) (pa_nil)))))
    (pss_cons (ps_set (i := 4) sc_law.nd rfl (Or.inl rfl) (pe_tupP (pa_cons (pe_str) (pa_cons (pe_int) (pa_cons (pe_tupP (pa_cons (pe_str) (pa_cons (pe_int) (pa_cons (pe_tupP (pa_cons (pe_str) (pa_cons (pe_int) (pa_cons (pe_tupP (pa_cons (pe_str) (pa_cons (pe_int) (pa_cons (pe_tupP (pa_cons (pe_str) (pa_cons (pe_int) (pa_cons (pe_tupP (pa_cons (pe_str) (pa_cons (pe_str) (pa_cons (pe_int) (pa_cons (pe_int) (pa_nil)))))) (pa_nil))))) (pa_nil))))) (pa_nil))))) (pa_nil))))) (pa_nil))))))
    (pss_cons (ps_if (PW.pt (pw_or (pt_cmpR (op_neD hu) (pe_defK D_cover ⟨rfl, rfl, rfl, rfl, rfl⟩ hr (by decide) hq tk (pa_cons (pe_tupP (pa_cons (pe_str) (pa_cons (pe_str) (pa_cons (pe_int) (pa_cons (pe_int) (pa_nil)))))) (pa_nil))) (pe_tupP (pa_cons (pe_tupP (pa_cons (pe_int) (pa_cons (pe_int) (pa_nil)))) (pa_nil))) (nomark _)) (pw_or1 (pt_cmpR (op_neD hu) (pe_defK D_cover ⟨rfl, rfl, rfl, rfl, rfl⟩ hr (by decide) hq tk (pa_cons (pv 4) (pa_nil))) (pe_tupP (pa_cons (pe_tupP (pa_cons (pe_int) (pa_cons (pe_int) (pa_nil)))) (pa_nil))) (nomark _))))) (pss_cons (ps_ret (pe_bl))
    (pss_nil)) (pss_nil))
    (pss_cons (ps_if (PW.pt (pw_or (pt_cmpR (op_neD hu) (pe_defK D_cover ⟨rfl, rfl, rfl, rfl, rfl⟩ hr (by decide) hq tk (pa_cons (pe_tupP (pa_cons (pe_str) (pa_cons (pe_str) (pa_cons (pe_int) (pa_cons (pe_int) (pa_nil)))))) (pa_nil))) (pe_tupP (pa_cons (pe_tupP (pa_cons (pe_int) (pa_cons (pe_int) (pa_nil)))) (pa_nil))) (nomark _)) (pw_or1 (pt_cmpR (op_neD hu) (pe_defK D_cover ⟨rfl, rfl, rfl, rfl, rfl⟩ hr (by decide) hq tk (pa_cons (pe_tupP (pa_cons (pe_str) (pa_cons (pe_int) (pa_cons (pe_tupP (pa_cons (pe_str) (pa_cons (pe_str) (pa_cons (pe_int) (pa_cons (pe_int) (pa_nil)))))) (pa_nil))))) (pa_nil))) (pe_tupP (pa_cons (pe_tupP (pa_cons (pe_int) (pa_cons (pe_int) (pa_nil)))) (pa_cons (pe_tupP (pa_cons (pe_int) (pa_cons (pe_int) (pa_nil)))) (pa_nil)))) (nomark _))))) (pss_cons (ps_ret (pe_bl))
    (pss_nil)) (pss_nil))
    (pss_cons (ps_set (i := 5) sc_law.nd rfl (Or.inl rfl) (pe_tupP (pa_cons (pe_str) (pa_cons (pe_int) (pa_cons (pv 3) (pa_nil))))))
    (pss_cons (ps_ret (pe_and (pe_cmpR (op_eqD hu) (pe_defK D_cover ⟨rfl, rfl, rfl, rfl, rfl⟩ hr (by decide) hq tk (pa_cons (pv 3) (pa_nil))) (pe_tupP (pa_cons (pe_tupP (pa_cons (pe_int) (pa_cons (pe_int) (pa_nil)))) (pa_cons (pe_tupP (pa_cons (pe_int) (pa_cons (pe_int) (pa_nil)))) (pa_nil)))) (nomark _)) (pe_one (pe_cmpR (op_eqD hu) (pe_defK D_cover ⟨rfl, rfl, rfl, rfl, rfl⟩ hr (by decide) hq tk (pa_cons (pv 5) (pa_nil))) (pe_defK D_l_due ⟨rfl, rfl, rfl, rfl, rfl⟩ hr (by decide) hq tk (pa_cons (pv 5) (pa_nil))) (nomark _)))))
    (pss_nil))))))))), rfl⟩
end
end K33
set_option maxRecDepth 100000
set_option maxHeartbeats 4000000
namespace K33
open PySem PySem.Spec PyProof.Rows L2 Pv
section
variable {K : PySem.W.Frag} {κ : Cls} {mg : Str → Option Value}
theorem v_take (T : Tx K κ mg) (d n : Int) (h : 0 < n) (h' : n < 10 ^ 12) : f_l_take T [.ml [.int d], .d (.int n)] = .ok (.d (.int (d % n))) [.ml [.int (d / n)], .d (.int n)] := by
  have a : L2.atI [D.int d] 0 = some (.int d) := rfl
  refine fn_rt (ρ := [some (.ml [.int (d / n)]), some (.d (.int n)), some (.d (.int (d % n)))]) ?_ rfl
  unfold b_l_take
  simp? [a, if_pos h, if_pos (divW12 h h')]
/-- a lot of a small pile -/
theorem v_mixed (T : Tx K κ mg) (c k : Int) : ∃ z, f_l_mixed T [.d (.int c), .d (.int k)] = .ok (.d (.int z)) [.d (.int c), .d (.int k)] := by
  obtain ⟨x, hx⟩ : ∃ x, x = (c % 2147483647 * 48271 + k * 69621 + 1048583) % 2147483629 := ⟨_, rfl⟩
  have x0 : 0 ≤ x := hx ▸ Int.emod_nonneg _ (by decide)
  have x1 : x < 2147483629 := hx ▸ Int.emod_lt_of_pos _ (by decide)
  obtain ⟨y, hy⟩ : ∃ y, y = x * x % 2147483587 := ⟨_, rfl⟩
  have y0 : 0 ≤ y := hy ▸ Int.emod_nonneg _ (by decide)
  have y1 : y < 2147483587 := hy ▸ Int.emod_lt_of_pos _ (by decide)
  have m1 : CMul (c % 2147483647) 48271 := .inr (by decide)
  have m2 : CMul k 69621 := .inr (by decide)
  have m3 : CMul x x := .inl ⟨by omega, by omega⟩
  have m4 : CMul y (y + 2) := .inl ⟨by omega, by omega⟩
  have p1 : (0 : Int) < 2147483647 := by decide
  have p2 : (0 : Int) < 2147483629 := by decide
  have p3 : (0 : Int) < 2147483587 := by decide
  have p4 : (0 : Int) < 2147483579 := by decide
  refine ⟨y * (y + 2) % 2147483579, fn_rt (ρ := [some (.d (.int c)), some (.d (.int k)), some (.d (.int y))]) ?_ rfl⟩
  unfold b_l_mixed
  refine seq_nx (ρ' := [some (.d (.int c)), some (.d (.int k)), some (.d (.int x))]) (by simp? [if_pos m1, if_pos m2, if_pos p1, if_pos p2, hx.symm]) ?_
  refine seq_nx (ρ' := [some (.d (.int c)), some (.d (.int k)), some (.d (.int y))]) (by simp? [if_pos m3, if_pos p3, hy.symm]) ?_
  exact seq_rt (by simp? [if_pos m4, if_pos p4])
def bd_cell (T : Tx K κ mg) : SS K κ := (sSeq (sAsg 3 (eAdd (eMul (eV 3) (eInt 2147483579)) (eCall 2 (f_l_mixed T) (aCons (eV 2) (aCons (eAdd (eAdd (eMul (eInt 7) (eV 1)) (eMul (eInt 100) (eV 4))) (eMul (eV 4) (eV 4))) (aNil))))))
    (sNil))
theorem cell_loop (T : Tx K κ mg) (a : Option W) (k c : Int) : ∀ (r : List D) (z : Int) (j : Option W), (∀ y ∈ r, ∃ i : Int, y = .int i ∧ 0 ≤ i ∧ i < 1000) →
    ∃ z' j', loopS (gN (K := K) (κ := κ) 4).put (bd_cell T).sv r [a, some (.d (.int k)), some (.d (.int c)), some (.d (.int z)), j] = .ok .nx [a, some (.d (.int k)), some (.d (.int c)), some (.d (.int z')), j'] := by
  intro r
  induction r with
  | nil => exact fun z j _ => ⟨z, j, rfl⟩
  | cons y r ih =>
    intro z j h
    obtain ⟨i, rfl, i0, i1⟩ := h y (by simp)
    obtain ⟨x, hx⟩ := v_mixed T c (7 * k + 100 * i + i * i)
    obtain ⟨z', j', e⟩ := ih (z * 2147483579 + x) (some (.d (.int i))) fun y q => h y (by simp [q])
    have m1 : CMul z 2147483579 := .inr (by decide)
    have m2 : CMul 7 k := .inl (by decide)
    have m3 : CMul 100 i := .inl (by decide)
    have m4 : CMul i i := .inl ⟨by omega, by omega⟩
    exact ⟨z', j', (loop_nx rfl (by unfold bd_cell; simp? [if_pos m1, if_pos m2, if_pos m3, if_pos m4, hx])).trans e⟩
def forCell (T : Tx K κ mg) : SS K κ := sFor (iR1 (eInt 24)) (gN 4) (bd_cell T)
def cell1 (T : Tx K κ mg) : SS K κ := (sIf (tV' (eLt (eV 1) (eLen (aCons (eV 0) (aNil))))) (sSeq (sAsg 2 (eIxL (eV 0) (eV 1)))
    (sNil)) (sNil))
theorem p60 : CPow 10 60 := ⟨by decide, by decide, by decide⟩
theorem p18 : CPow 10 18 := ⟨by decide, by decide, by decide⟩
theorem v_cell (T : Tx K κ mg) (ns : List Int) (k : Int) (hk : 0 ≤ k) : ∃ c, f_l_cell T [.d (.lst (ns.map .int)), .d (.int k)] = .ok (.d (.int c)) [.d (.lst (ns.map .int)), .d (.int k)] := by
  have c1 : ∃ c : Int, (cell1 T).sv [some (.d (.lst (ns.map .int))), some (.d (.int k)), some (.d (.int 0)), none, none] = .ok .nx [some (.d (.lst (ns.map .int))), some (.d (.int k)), some (.d (.int c)), none, none] := by
    have gl : gLen [.lst (ns.map .int)] = some (.int (ns.map D.int).length) := rfl
    by_cases q : k < (ns.map D.int).length
    · obtain ⟨z, hz, mz⟩ := at_in (xs := ns.map D.int) hk q
      obtain ⟨i, _, rfl⟩ := List.mem_map.mp mz
      have hz' : gIxL (.lst (ns.map D.int)) (.int k) = some (.int i) := hz
      exact ⟨i, by unfold cell1; simp? [gl, decide_eq_true q, hz']⟩
    · exact ⟨0, by unfold cell1; simp? [gl, decide_eq_false q]⟩
  obtain ⟨c, c1⟩ := c1
  by_cases b : (10 : Int) ^ (18 : Int).toNat ≤ c
  · obtain ⟨X, hX⟩ : ∃ X : Int, X = (10 : Int) ^ (60 : Int).toNat := ⟨_, rfl⟩
    have m1 : CMulW ((10 : Int) ^ (60 : Int).toNat) ((10 : Int) ^ (60 : Int).toNat) := by decide +kernel
    have m2 : CMulW ((10 : Int) ^ (60 : Int).toNat * (10 : Int) ^ (60 : Int).toNat) ((10 : Int) ^ (60 : Int).toNat) := by decide +kernel
    have m3 : CMulW ((10 : Int) ^ (60 : Int).toNat * (10 : Int) ^ (60 : Int).toNat * (10 : Int) ^ (60 : Int).toNat) ((10 : Int) ^ (60 : Int).toNat) := by decide +kernel
    have m4 : (0 : Int) < (10 : Int) ^ (60 : Int).toNat * (10 : Int) ^ (60 : Int).toNat * (10 : Int) ^ (60 : Int).toNat * (10 : Int) ^ (60 : Int).toNat := by decide +kernel
    rw [← hX] at m1 m2 m3 m4
    refine ⟨(c - (10 : Int) ^ (18 : Int).toNat) % (X * X * X * X), fn_rt (ρ := [some (.d (.lst (ns.map .int))), some (.d (.int k)), some (.d (.int c)), none, none]) ?_ rfl⟩
    · refine seq_nx (ρ' := [some (.d (.lst (ns.map .int))), some (.d (.int k)), some (.d (.int 0)), none, none]) (by simp? []) ?_
      refine seq_nx c1 ?_
      refine seq_rt ?_
      simp? [if_pos p18, if_pos p60, decide_eq_true b, hX.symm, if_pos m1, if_pos m2, if_pos m3, if_pos m4]
  · obtain ⟨z', j', e⟩ := cell_loop T (some (.d (.lst (ns.map .int)))) k c (nums 0 24) 0 none (by
      intro y hy
      simp only [nums, List.mem_map, List.mem_range] at hy
      obtain ⟨i, hi, rfl⟩ := hy
      exact ⟨_, rfl, by omega, by omega⟩)
    have f : (forCell T).sv [some (.d (.lst (ns.map .int))), some (.d (.int k)), some (.d (.int c)), some (.d (.int 0)), none] = .ok .nx [some (.d (.lst (ns.map .int))), some (.d (.int k)), some (.d (.int c)), some (.d (.int z')), j'] := for_of (by rfl) e
    refine ⟨z', fn_rt (ρ := [some (.d (.lst (ns.map .int))), some (.d (.int k)), some (.d (.int c)), some (.d (.int z')), j']) ?_ rfl⟩
    refine seq_nx (ρ' := [some (.d (.lst (ns.map .int))), some (.d (.int k)), some (.d (.int 0)), none, none]) (by simp? []) ?_
    refine seq_nx c1 ?_
    refine seq_nx (ρ' := [some (.d (.lst (ns.map .int))), some (.d (.int k)), some (.d (.int c)), none, none]) (by simp? [if_pos p18, decide_eq_false b]) ?_
    refine seq_nx (ρ' := [some (.d (.lst (ns.map .int))), some (.d (.int k)), some (.d (.int c)), some (.d (.int 0)), none]) (by simp? []) ?_
    refine seq_nx f ?_
    exact seq_rt (by simp? [])
end
end K33
namespace P25
/-- the lesser of two, as min tells it -/
def mn (x y : Int) : Int := if y < x then y else x
theorem mn_le_l (x y : Int) : mn x y ≤ x := by unfold mn; split <;> omega
theorem mn_le_r (x y : Int) : mn x y ≤ y := by unfold mn; split <;> omega
def Up : Int → List (Int × Int) → Prop
  | _, [] => True
  | m, p :: ps => m < p.1 ∧ 1 ≤ p.2 ∧ Up p.1 ps
theorem Up.lt : ∀ {ps : List (Int × Int)} {m : Int}, Up m ps → ∀ p ∈ ps, m < p.1
  | [], _, _, p, hp => nomatch hp
  | q :: ps, m, h, p, hp => by
    rcases List.mem_cons.mp hp with rfl | hp
    · exact h.1
    · have h1 := h.1
      have := Up.lt h.2.2 p hp
      omega
theorem Up.tail : ∀ {pre : List (Int × Int)} {m : Int} {suf : List (Int × Int)}, 0 ≤ m → Up m (pre ++ suf) → ∃ m', 0 ≤ m' ∧ Up m' suf
  | [], m, _, h0, h => ⟨m, h0, h⟩
  | p :: pre, m, _, h0, h => Up.tail (pre := pre) (m := p.1) (by have := h.1; omega) h.2.2
theorem Up.pre : ∀ {pre : List (Int × Int)} {m : Int} {suf : List (Int × Int)}, Up m (pre ++ suf) → Up m pre
  | [], _, _, _ => trivial
  | p :: pre, m, suf, h => ⟨h.1, h.2.1, Up.pre h.2.2⟩
end P25
namespace P66
end P66
namespace P66
open P25
end P66
set_option maxRecDepth 100000
set_option maxHeartbeats 4000000
namespace K33
open PySem PySem.Spec PyProof.Rows L2 Pv P25 P66
section
variable {K : PySem.W.Frag} {κ : Cls} {mg : Str → Option Value}
def pr (p : Int × Int) : D := .tup [.int p.1, .int p.2]
def pl (ps : List (Int × Int)) : D := .tup (ps.map pr)
theorem fm_some {α β : Type} (f : α → β) (qs : List α) : qs.filterMap (fun a => some (f a)) = qs.map f := by
  induction qs with
  | nil => rfl
  | cons q qs ih => simp [ih]
end
end K33
set_option maxRecDepth 100000
set_option maxHeartbeats 4000000
namespace K33
open PySem PySem.Spec PyProof.Rows L2 Pv P25 P66
section
variable {K : PySem.W.Frag} {κ : Cls} {mg : Str → Option Value}
theorem flats_pr : ∀ ps : List (Int × Int), D.flats 59 (ps.map pr) = true
  | [] => rfl
  | p :: ps => by
    rw [List.map_cons]
    unfold D.flats
    rw [flats_pr ps]
    rfl
end
end K33
namespace P50
open Pv P25
def cutA (b : Option Int) (a : Int) : Int := match b with
  | none => a
  | some w => mn a (w - 1)
/-- how a right behaves: its length, its row beneath a bound for so many calls, its top -/
structure Beh where
  len : Int
  row : Option Int → Nat → List Int
  top : Option Int → Int
def mxL (m : Int) : List Int → Int
  | [] => m
  | x :: xs => mxL (if m < x then x else m) xs
theorem mxL_ge : ∀ (xs : List Int) (m : Int), m ≤ mxL m xs ∧ ∀ x ∈ xs, x ≤ mxL m xs
  | [], m => ⟨Int.le_refl _, fun _ h => nomatch h⟩
  | y :: xs, m => by
    obtain ⟨h1, h2⟩ := mxL_ge xs (if m < y then y else m)
    have hm : m ≤ (if m < y then y else m) ∧ y ≤ (if m < y then y else m) := by by_cases c : m < y <;> simp only [c, if_true, if_false] <;> omega
    refine ⟨Int.le_trans hm.1 h1, fun x hx => ?_⟩
    rcases List.mem_cons.mp hx with rfl | hx
    · exact Int.le_trans hm.2 h1
    · exact h2 x hx
theorem mxL_le : ∀ (xs : List Int) (m c : Int), m ≤ c → (∀ x ∈ xs, x ≤ c) → mxL m xs ≤ c
  | [], m, c, h, _ => h
  | y :: xs, m, c, h, h' => by
    have hy := h' y (by simp)
    refine mxL_le xs _ c ?_ fun x hx => h' x (by simp [hx])
    split <;> omega
/-- rows, item by item -/
def at_ (r : List Int) (j : Nat) : Int := r.getD j 0
/-- two rows put together, for so many calls -/
def convR (m : Nat) (r s : List Int) : List Int := (List.range (m + 1)).map fun j => match (List.range (j + 1)).map fun i => at_ r i + at_ s (j - i) with
  | [] => 0
  | x :: xs => mxL x xs
def maxR (r s : List Int) : List Int := (r.zip s).map fun p => if p.1 < p.2 then p.2 else p.1
def zeroR (m : Nat) : List Int := List.replicate (m + 1) 0
/-- a right of at most so many forms within one another, and how it behaves -/
def All2 {α β : Type} (P : α → β → Prop) : List α → List β → Prop
  | [], [] => True
  | a :: as, b :: bs => P a b ∧ All2 P as bs
  | _, _ => False
theorem all2_zip {α β : Type} {P : α → β → Prop} : ∀ {as : List α} {bs : List β}, All2 P as bs → (as.zip bs).map Prod.fst = as ∧ (as.zip bs).map Prod.snd = bs ∧ ∀ p ∈ as.zip bs, P p.1 p.2
  | [], [], _ => ⟨rfl, rfl, fun _ h => nomatch h⟩
  | a :: as, b :: bs, ⟨h, q⟩ => by
    obtain ⟨h1, h2, h3⟩ := all2_zip q
    refine ⟨by simp [h1], by simp [h2], fun p hp => ?_⟩
    rcases List.mem_cons.mp (show p ∈ (a, b) :: as.zip bs from hp) with rfl | hp
    · exact h
    · exact h3 p hp
  | [], _ :: _, h => h.elim
  | _ :: _, [], h => h.elim
def Rgt : Nat → D → Beh → Prop
  | 0, _, _ => False
  | n + 1, d, B =>
    (d = .tup [.str "none"] ∧ B = ⟨0, fun _ m => zeroR m, fun _ => 0⟩) ∨
    (∃ x a t, (1 ≤ a ∧ PySem.PyData.strOk x = true) ∧ a ≤ 1000 ∧ 1 ≤ t ∧ t ≤ 1000 ∧ d = .tup [.str "call", .str x, .int a, .int t] ∧ B = ⟨t, fun b m => (List.range (m + 1)).map fun j : Nat => mn t (j : Int) * cutA b a, fun b => t * cutA b a⟩) ∨
    (∃ k d' B', 1 ≤ k ∧ k ≤ 1000 ∧ Rgt n d' B' ∧ d = .tup [.str "within", .int k, d'] ∧ B = ⟨mn k B'.len, fun b m => (B'.row b m).map (mn k), fun b => mn k (B'.top b)⟩) ∨
    (∃ k d' B', 1 ≤ k ∧ k ≤ 400 ∧ Rgt n d' B' ∧ d = .tup [.str "calls", .int k, d'] ∧ B = ⟨mn k B'.len, fun b m => (List.range (m + 1)).map fun j : Nat => at_ (B'.row b m) (mn (j : Int) k).toNat, fun b => at_ (B'.row b (mn k B'.len).toNat) (mn k B'.len).toNat⟩) ∨
    (∃ ds Bs, ds.length ≤ 10 ∧ All2 (Rgt n) ds Bs ∧ d = .tup [.str "all", .tup ds] ∧ B = ⟨(Bs.map Beh.len).sum, fun b m => Bs.foldl (fun r B' => convR m r (B'.row b m)) (zeroR m), fun b => (Bs.map fun B' => B'.top b).sum⟩) ∨
    (∃ ds Bs, ds.length ≤ 10 ∧ All2 (Rgt n) ds Bs ∧ d = .tup [.str "one", .tup ds] ∧ B = ⟨mxL 0 (Bs.map Beh.len), fun b m => Bs.foldl (fun r B' => maxR r (B'.row b m)) (zeroR m), fun b => mxL 0 (Bs.map fun B' => B'.top b)⟩)
/-- a bound no greater than another one; none: no bound -/
def Le (b b' : Option Int) : Prop := match b, b' with
  | _, none => True
  | some w, some w' => w ≤ w'
  | none, some _ => False
def Pos (b : Option Int) : Prop := ∀ w, b = some w → 1 ≤ w
/-- nothing falls as the bound rises, nothing is less than nought -/
structure Good (B : Beh) : Prop where
  len0 : 0 ≤ B.len
  top0 : ∀ b, Pos b → 0 ≤ B.top b
  rlen : ∀ b m, (B.row b m).length = m + 1
  row0 : ∀ b m, Pos b → ∀ j, 0 ≤ at_ (B.row b m) j
  topM : ∀ b b', Pos b → Le b b' → B.top b ≤ B.top b'
  rowM : ∀ b b' m, Pos b → Le b b' → ∀ j, at_ (B.row b m) j ≤ at_ (B.row b' m) j
theorem cut0 {b : Option Int} {a : Int} (hb : Pos b) (ha : 0 ≤ a) : 0 ≤ cutA b a := by
  unfold cutA
  cases b with
  | none => exact ha
  | some w =>
    have := hb w rfl
    show 0 ≤ mn a (w - 1)
    unfold mn
    split <;> omega
theorem cutM {b b' : Option Int} {a : Int} (h : Le b b') : cutA b a ≤ cutA b' a := by
  unfold cutA
  cases b with
  | none => cases b' with
    | none => exact Int.le_refl _
    | some w => exact h.elim
  | some w => cases b' with
    | none => exact mn_le_l _ _
    | some w' =>
      have : w ≤ w' := h
      show mn a (w - 1) ≤ mn a (w' - 1)
      unfold mn
      split <;> split <;> omega
theorem at_map (m : Nat) (f : Nat → Int) (j : Nat) : at_ ((List.range m).map f) j = if j < m then f j else 0 := by
  unfold at_
  by_cases h : j < m
  · rw [if_pos h]
    simp [List.getD_eq_getElem?_getD, h]
  · rw [if_neg h]
    simp [List.getD_eq_getElem?_getD, h]
theorem at_zero (m j : Nat) : at_ (zeroR m) j = 0 := by
  unfold at_ zeroR
  by_cases h : j < m + 1 <;> simp [List.getD_eq_getElem?_getD, List.getElem?_replicate, h]
theorem mxL_mono : ∀ (xs ys : List Int) (m m' : Int), m ≤ m' → xs.length = ys.length → (∀ j, at_ xs j ≤ at_ ys j) → mxL m xs ≤ mxL m' ys
  | [], [], _, _, h, _, _ => h
  | x :: xs, y :: ys, m, m', h, hl, h' => by
    have h0 : x ≤ y := h' 0
    refine mxL_mono xs ys _ _ ?_ (by simpa using hl) fun j => h' (j + 1)
    split <;> split <;> omega
theorem conv_len (m : Nat) (r s : List Int) : (convR m r s).length = m + 1 := by simp [convR]
theorem max_len {r s : List Int} (h : r.length = s.length) : (maxR r s).length = r.length := by simp [maxR, h]
theorem conv_at (m : Nat) (r s : List Int) (j : Nat) : at_ (convR m r s) j = if j < m + 1 then mxL (at_ r 0 + at_ s j) ((List.range j).map fun i => at_ r (i + 1) + at_ s (j - (i + 1))) else 0 := by
  unfold convR
  rw [at_map]
  congr 1
  rw [List.range_succ_eq_map, List.map_cons, List.map_map]
  rfl
theorem conv_mono {m : Nat} {r r' s s' : List Int} (h : ∀ j, at_ r j ≤ at_ r' j) (h' : ∀ j, at_ s j ≤ at_ s' j) (j : Nat) : at_ (convR m r s) j ≤ at_ (convR m r' s') j := by
  rw [conv_at, conv_at]
  split
  · refine mxL_mono _ _ _ _ (by have := h 0; have := h' j; omega) (by simp) fun i => ?_
    rw [at_map, at_map]
    split
    · have := h (i + 1); have := h' (j - (i + 1)); omega
    · exact Int.le_refl _
  · exact Int.le_refl _
theorem conv_pos {m : Nat} {r s : List Int} (h : ∀ j, 0 ≤ at_ r j) (h' : ∀ j, 0 ≤ at_ s j) (j : Nat) : 0 ≤ at_ (convR m r s) j := by
  rw [conv_at]
  split
  · have := (mxL_ge ((List.range j).map fun i => at_ r (i + 1) + at_ s (j - (i + 1))) (at_ r 0 + at_ s j)).1
    have := h 0
    have := h' j
    omega
  · exact Int.le_refl _
theorem max_at : ∀ {r s : List Int}, r.length = s.length → ∀ j, at_ (maxR r s) j = if at_ r j < at_ s j then at_ s j else at_ r j
  | [], [], _, j => by simp [maxR, at_]
  | x :: r, y :: s, h, 0 => by simp [maxR, at_]
  | x :: r, y :: s, h, j + 1 => by
    have := max_at (r := r) (s := s) (by simpa using h) j
    simpa [maxR, at_] using this
theorem max_mono {r r' s s' : List Int} (hl : r.length = s.length) (hl' : r'.length = s'.length) (h : ∀ j, at_ r j ≤ at_ r' j) (h' : ∀ j, at_ s j ≤ at_ s' j) (j : Nat) : at_ (maxR r s) j ≤ at_ (maxR r' s') j := by
  rw [max_at hl, max_at hl']
  have := h j
  have := h' j
  split <;> split <;> omega
theorem mn_mono {k x y : Int} (h : x ≤ y) : mn k x ≤ mn k y := by unfold mn; split <;> split <;> omega
theorem mn_pos {k x : Int} (hk : 0 ≤ k) (h : 0 ≤ x) : 0 ≤ mn k x := by unfold mn; split <;> omega
theorem at_mn {k : Int} (hk : 0 ≤ k) (r : List Int) (j : Nat) : at_ (r.map (mn k)) j = if j < r.length then mn k (at_ r j) else 0 := by
  unfold at_
  by_cases h : j < r.length
  · rw [if_pos h]; simp [List.getD_eq_getElem?_getD, h]
  · rw [if_neg h]; simp [List.getD_eq_getElem?_getD, h]
theorem all_sum0 : ∀ {Bs : List Beh} (f : Beh → Int), (∀ B ∈ Bs, 0 ≤ f B) → 0 ≤ (Bs.map f).sum
  | [], _, _ => by simp
  | B :: Bs, f, h => by
    have := all_sum0 (Bs := Bs) f fun C hC => h C (by simp [hC])
    have := h B (by simp)
    rw [List.map_cons, List.sum_cons]
    omega
theorem all_sumM : ∀ {Bs : List Beh} (f g : Beh → Int), (∀ B ∈ Bs, f B ≤ g B) → (Bs.map f).sum ≤ (Bs.map g).sum
  | [], _, _, _ => by simp
  | B :: Bs, f, g, h => by
    have := all_sumM (Bs := Bs) f g fun C hC => h C (by simp [hC])
    have := h B (by simp)
    rw [List.map_cons, List.sum_cons, List.map_cons, List.sum_cons]
    omega
theorem all_topM : ∀ {Bs : List Beh} (f g : Beh → Int) (m m' : Int), m ≤ m' → (∀ B ∈ Bs, f B ≤ g B) → mxL m (Bs.map f) ≤ mxL m' (Bs.map g)
  | [], _, _, _, _, h, _ => h
  | B :: Bs, f, g, m, m', hm, h => by
    have hB := h B (by simp)
    refine all_topM (Bs := Bs) f g _ _ ?_ fun C hC => h C (by simp [hC])
    split <;> split <;> omega
theorem fold_len (op : List Int → List Int → List Int) (b : Option Int) (m : Nat) (hop : ∀ r s, r.length = m + 1 → s.length = m + 1 → (op r s).length = m + 1) : ∀ (Bs : List Beh) (r : List Int), (∀ B ∈ Bs, Good B) → r.length = m + 1 → (Bs.foldl (fun r B => op r (B.row b m)) r).length = m + 1
  | [], r, _, h => h
  | B :: Bs, r, h, hr => fold_len op b m hop Bs _ (fun C hC => h C (by simp [hC])) (hop _ _ hr ((h B (by simp)).rlen b m))
theorem fold_conv0 (b : Option Int) (hb : Pos b) (m : Nat) : ∀ (Bs : List Beh) (r : List Int), (∀ B ∈ Bs, Good B) → (∀ j, 0 ≤ at_ r j) → ∀ j, 0 ≤ at_ (Bs.foldl (fun r B => convR m r (B.row b m)) r) j
  | [], r, _, h => h
  | B :: Bs, r, h, hr => fold_conv0 b hb m Bs _ (fun C hC => h C (by simp [hC])) (conv_pos hr ((h B (by simp)).row0 b m hb))
theorem fold_convM (b b' : Option Int) (hb : Pos b) (hl : Le b b') (m : Nat) : ∀ (Bs : List Beh) (r r' : List Int), (∀ B ∈ Bs, Good B) → (∀ j, at_ r j ≤ at_ r' j) → ∀ j, at_ (Bs.foldl (fun r B => convR m r (B.row b m)) r) j ≤ at_ (Bs.foldl (fun r B => convR m r (B.row b' m)) r') j
  | [], r, r', _, h => h
  | B :: Bs, r, r', h, hr => fold_convM b b' hb hl m Bs _ _ (fun C hC => h C (by simp [hC])) (conv_mono hr ((h B (by simp)).rowM b b' m hb hl))
theorem fold_max0 (b : Option Int) (hb : Pos b) (m : Nat) : ∀ (Bs : List Beh) (r : List Int), (∀ B ∈ Bs, Good B) → r.length = m + 1 → (∀ j, 0 ≤ at_ r j) → ∀ j, 0 ≤ at_ (Bs.foldl (fun r B => maxR r (B.row b m)) r) j
  | [], r, _, _, h => h
  | B :: Bs, r, h, hl, hr => by
    have lB := (h B (by simp)).rlen b m
    refine fold_max0 b hb m Bs _ (fun C hC => h C (by simp [hC])) (by rw [max_len (by omega)]; exact hl) fun j => ?_
    rw [max_at (by omega)]
    have := hr j
    split <;> omega
theorem fold_maxM (b b' : Option Int) (hb : Pos b) (hl : Le b b') (m : Nat) : ∀ (Bs : List Beh) (r r' : List Int), (∀ B ∈ Bs, Good B) → r.length = m + 1 → r'.length = m + 1 → (∀ j, at_ r j ≤ at_ r' j) → ∀ j, at_ (Bs.foldl (fun r B => maxR r (B.row b m)) r) j ≤ at_ (Bs.foldl (fun r B => maxR r (B.row b' m)) r') j
  | [], r, r', _, _, _, h => h
  | B :: Bs, r, r', h, h1, h2, hr => by
    have g := h B (by simp)
    have l1 := g.rlen b m
    have l2 := g.rlen b' m
    exact fold_maxM b b' hb hl m Bs _ _ (fun C hC => h C (by simp [hC])) (by rw [max_len (by omega)]; exact h1) (by rw [max_len (by omega)]; exact h2) (max_mono (by omega) (by omega) hr (g.rowM b b' m hb hl))
theorem all2_good {n : Nat} (ih : ∀ d B, Rgt n d B → Good B) : ∀ {ds : List D} {Bs : List Beh}, All2 (Rgt n) ds Bs → ∀ B ∈ Bs, Good B
  | [], [], _, B, h => nomatch h
  | d :: ds, B' :: Bs, ⟨h, q⟩, B, hB => by
    rcases List.mem_cons.mp hB with rfl | hB
    · exact ih d B h
    · exact all2_good ih q B hB
  | [], _ :: _, h, _, _ => h.elim
  | _ :: _, [], h, _, _ => h.elim
theorem zero0 (m j : Nat) : 0 ≤ at_ (zeroR m) j := by rw [at_zero]; exact Int.le_refl _
theorem good : ∀ (n : Nat) (d : D) (B : Beh), Rgt n d B → Good B
  | 0, _, _, h => h.elim
  | n + 1, d, B, h => by
    have ih := good n
    rcases h with ⟨_, rfl⟩ | ⟨x, a, t, ha, _, ht, _, _, rfl⟩ | ⟨k, d', B', hk, _, hr, _, rfl⟩ | ⟨k, d', B', hk, _, hr, _, rfl⟩ | ⟨ds, Bs, _, hr, _, rfl⟩ | ⟨ds, Bs, _, hr, _, rfl⟩
    · exact ⟨Int.le_refl _, fun _ _ => Int.le_refl _, fun _ m => by simp [zeroR], fun _ m _ j => zero0 m j, fun _ _ _ _ => Int.le_refl _, fun _ _ m _ _ j => Int.le_refl _⟩
    · refine ⟨by show 0 ≤ t; omega, fun b hb => Int.mul_nonneg (by omega) (cut0 hb (by omega)), fun b m => by simp, fun b m hb j => ?_, fun b b' _ hl => Int.mul_le_mul_of_nonneg_left (cutM hl) (by omega), fun b b' m _ hl j => ?_⟩
      · show 0 ≤ at_ ((List.range (m + 1)).map fun j : Nat => mn t (j : Int) * cutA b a) j
        rw [at_map]
        split
        · exact Int.mul_nonneg (mn_pos (by omega) (by omega)) (cut0 hb (by omega))
        · exact Int.le_refl _
      · show at_ ((List.range (m + 1)).map fun j : Nat => mn t (j : Int) * cutA b a) j ≤ at_ ((List.range (m + 1)).map fun j : Nat => mn t (j : Int) * cutA b' a) j
        rw [at_map, at_map]
        split
        · exact Int.mul_le_mul_of_nonneg_left (cutM hl) (mn_pos (by omega) (by omega))
        · exact Int.le_refl _
    · have g := ih d' B' hr
      refine ⟨mn_pos (by omega) g.len0, fun b hb => mn_pos (by omega) (g.top0 b hb), fun b m => by simp [g.rlen b m], fun b m hb j => ?_, fun b b' hb hl => mn_mono (g.topM b b' hb hl), fun b b' m hb hl j => ?_⟩
      · show 0 ≤ at_ ((B'.row b m).map (mn k)) j
        rw [at_mn (by omega)]
        split
        · exact mn_pos (by omega) (g.row0 b m hb j)
        · exact Int.le_refl _
      · show at_ ((B'.row b m).map (mn k)) j ≤ at_ ((B'.row b' m).map (mn k)) j
        rw [at_mn (by omega), at_mn (by omega), g.rlen b m, g.rlen b' m]
        split
        · exact mn_mono (g.rowM b b' m hb hl j)
        · exact Int.le_refl _
    · have g := ih d' B' hr
      refine ⟨mn_pos (by omega) g.len0, fun b hb => g.row0 b _ hb _, fun b m => by simp, fun b m hb j => ?_, fun b b' hb hl => g.rowM b b' _ hb hl _, fun b b' m hb hl j => ?_⟩
      · show 0 ≤ at_ ((List.range (m + 1)).map fun j : Nat => at_ (B'.row b m) (mn (j : Int) k).toNat) j
        rw [at_map]
        split
        · exact g.row0 b m hb _
        · exact Int.le_refl _
      · show at_ ((List.range (m + 1)).map fun j : Nat => at_ (B'.row b m) (mn (j : Int) k).toNat) j ≤ at_ ((List.range (m + 1)).map fun j : Nat => at_ (B'.row b' m) (mn (j : Int) k).toNat) j
        rw [at_map, at_map]
        split
        · exact g.rowM b b' m hb hl _
        · exact Int.le_refl _
    · have g := all2_good ih hr
      exact ⟨all_sum0 Beh.len fun B hB => (g B hB).len0, fun b hb => all_sum0 (fun B' => B'.top b) fun B hB => (g B hB).top0 b hb,
        fun b m => fold_len (convR m) b m (fun r s _ _ => conv_len m r s) Bs _ g (by simp [zeroR]), fun b m hb => fold_conv0 b hb m Bs _ g (zero0 m),
        fun b b' hb hl => all_sumM _ _ fun B hB => (g B hB).topM b b' hb hl, fun b b' m hb hl => fold_convM b b' hb hl m Bs _ _ g fun j => Int.le_refl _⟩
    · have g := all2_good ih hr
      exact ⟨(mxL_ge _ 0).1, fun b hb => (mxL_ge _ 0).1,
        fun b m => fold_len maxR b m (fun r s h1 h2 => by rw [max_len (by omega)]; exact h1) Bs _ g (by simp [zeroR]), fun b m hb => fold_max0 b hb m Bs _ g (by simp [zeroR]) (zero0 m),
        fun b b' hb hl => all_topM _ _ _ _ (Int.le_refl _) fun B hB => (g B hB).topM b b' hb hl, fun b b' m hb hl => fold_maxM b b' hb hl m Bs _ _ g (by simp [zeroR]) (by simp [zeroR]) fun j => Int.le_refl _⟩
end P50
namespace P54
open Pv PySem.Spec PyProof.Rows L2 P50
open PySem (Str)
def NameOk (s : Str) : Prop := 1 ≤ s.length ∧ s.length ≤ 8 ∧ s.cps.toList.all (rngB "a" "z") = true
/-- d is a right of at most so many forms within one another, xs its names -/
def Fm : Nat → D → List Str → Prop
  | 0, _, _ => False
  | n + 1, d, xs =>
    (d = .tup [.str "none"] ∧ xs = []) ∨
    (∃ x a t, NameOk x ∧ 1 ≤ a ∧ 1 ≤ t ∧ d = .tup [.str "call", .str x, .int a, .int t] ∧ xs = [x]) ∨
    (∃ k d', 1 ≤ k ∧ Fm n d' xs ∧ d = .tup [.str "within", .int k, d']) ∨
    (∃ k d', 1 ≤ k ∧ Fm n d' xs ∧ d = .tup [.str "calls", .int k, d']) ∨
    (∃ ds xss, All2 (Fm n) ds xss ∧ d = .tup [.str "all", .tup ds] ∧ xs = xss.flatten) ∨
    (∃ ds xss, All2 (Fm n) ds xss ∧ d = .tup [.str "one", .tup ds] ∧ xs = xss.flatten)
/-- the names told by now -/
def mkS (xs : List Str) : List (Key × D) := xs.map fun x => ((Sum.inr x : Key), D.bl true)
/-- names not told yet, no two alike -/
def Cond (xs : List Str) (seen : List (Key × D)) : Prop := xs.Nodup ∧ (∀ x ∈ xs, lookD seen (.inr x) = none) ∧ seen.length + xs.length < 1000
theorem look_mk {xs : List Str} {x : Str} (h : x ∉ xs) : lookD (mkS xs) (.inr x) = none := by
  unfold lookD
  rw [List.find?_eq_none.mpr]
  · rfl
  · intro p hp
    obtain ⟨y, hy, rfl⟩ := List.mem_map.mp hp
    simp only [decide_eq_true_eq]
    intro e
    exact h ((Sum.inr.inj e) ▸ hy)
theorem look_app {a b : List (Key × D)} {k : Key} (h : lookD a k = none) (h' : lookD b k = none) : lookD (a ++ b) k = none := by
  unfold lookD at *
  rw [Option.map_eq_none_iff] at *
  rw [List.find?_append, h, h']
  rfl
theorem store_at {seen : List (Key × D)} {k : Key} (x : D) (h : lookD seen k = none) : storeD seen k x = seen ++ [(k, x)] := by
  unfold lookD at h
  rw [Option.map_eq_none_iff, List.find?_eq_none] at h
  unfold storeD
  rw [if_neg]
  simp only [List.any_eq_true, not_exists, not_and]
  exact h
theorem Cond.one {a b : List Str} {seen : List (Key × D)} (h : Cond (a ++ b) seen) : Cond a seen :=
  ⟨(List.nodup_append.mp h.1).1, fun x hx => h.2.1 x (List.mem_append_left _ hx), by have := h.2.2; simp only [List.length_append] at this; omega⟩
theorem Cond.two {a b : List Str} {seen : List (Key × D)} (h : Cond (a ++ b) seen) : Cond b (seen ++ mkS a) :=
  ⟨(List.nodup_append.mp h.1).2.1, fun x hx => look_app (h.2.1 x (List.mem_append_right _ hx)) (look_mk fun z => (List.nodup_append.mp h.1).2.2 x z x hx rfl), by have := h.2.2; simp only [List.length_append, mkS, List.length_map] at this ⊢; omega⟩
theorem mkS_app (a b : List Str) : mkS (a ++ b) = mkS a ++ mkS b := List.map_append
end P54
set_option maxRecDepth 100000
set_option maxHeartbeats 4000000
namespace K33
open PySem PySem.Spec PyProof.Rows L2 Pv P25 P66 P50 P54
section
variable {K : PySem.W.Frag} {κ : Cls} {mg : Str → Option Value}
theorem cm {i j : Int} (h : 0 ≤ i) (h' : i < 10 ^ 12) : CMul i j := .inl ⟨by omega, by omega⟩
theorem v_number (T : Tx K κ mg) {i n : Int} (h : n ≤ i) : f_is_number T [.d (.int i), .d (.int n)] = .ok (.d (.bl true)) [.d (.int i), .d (.int n)] := by
  have a : gTy "int" (.int i) = some true := by kernel_rfl
  have b : gTy "bool" (.int i) = some false := by kernel_rfl
  refine fn_rt (ρ := [some (.d (.int i)), some (.d (.int n))]) ?_ rfl
  unfold b_is_number
  simp? [a, b, decide_eq_true h]
theorem v_name (T : Tx K κ mg) {s : Str} (h : NameOk s) : f_is_name T [.d (.str s)] = .ok (.d (.bl true)) [.d (.str s)] := by
  have a : gTy "str" (.str s) = some true := by kernel_rfl
  have l : gLenS [.str s] = some (.int (s.length : Nat)) := if_pos (by have := h.2.1; omega)
  have h1 : (1 : Int) ≤ (s.length : Nat) := by have := h.1; omega
  have h2 : ((s.length : Nat) : Int) ≤ 8 := by have := h.2.1; omega
  refine fn_rt (ρ := [some (.d (.str s))]) ?_ rfl
  unfold b_is_name eLenS
  simp? [a, l, eChain_ev, gI, decide_eq_true h1, decide_eq_true h2, eAllS_ev, h.2.2]
/-- the form of a right, by its first word and its length -/
theorem v_form (T : Tx K κ mg) (xs : List D) (w : Str) (h0 : gIxT (.tup xs) (.int 0) = some (.str w)) (hl : lkOf l_FORM_LENGTHS w = some (some (xs.length : Int))) : f__has_form T [.d (.tup xs)] = .ok (.d (.bl true)) [.d (.tup xs)] := by
  have a : gTy "tuple" (.tup xs) = some true := by kernel_rfl
  have b : gTy "str" (.str w) = some true := by kernel_rfl
  have t : D.truL (D.tup xs) = some true := by
    cases xs with
    | nil => cases h0
    | cons x xs => rfl
  have l : gLen [.tup xs] = some (.int (xs.length : Nat)) := rfl
  have q := gEq_int (xs.length : Nat) (xs.length : Nat)
  rw [beq_self_eq_true] at q
  refine fn_rt (ρ := [some (.d (.tup xs))]) ?_ rfl
  unfold b__has_form
  simp? [a, b, tTr_ev, t, h0, eGetK_ev, hl, l, q]
end
end K33
set_option maxRecDepth 100000
set_option maxHeartbeats 4000000
namespace K33
open PySem PySem.Spec PyProof.Rows L2 Pv P25 P66 P50 P54
section
variable {K : PySem.W.Frag} {κ : Cls} {mg : Str → Option Value}
theorem v_new_call (T : Tx K κ mg) {x : Str} {a t : Int} {seen : List (Key × D)} (hx : NameOk x) (ha : 1 ≤ a) (ht : 1 ≤ t) (hs : lookD seen (.inr x) = none) (hl : seen.length < 1000) :
    f__is_new_call T [.d (.tup [.str "call", .str x, .int a, .int t]), .md seen] = .ok (.d (.bl true)) [.d (.tup [.str "call", .str x, .int a, .int t]), .md (seen ++ mkS [x])] := by
  have n1 := v_name T hx
  have n2 := v_number T ha
  have n3 := v_number T ht
  have st := store_at (.bl true) hs
  have ky : D.key (.str x) = some (.inr x) := rfl
  have lk : seen.length < 1000000 := by omega
  refine fn_rt (ρ := [some (.d (.tup [.str "call", .str x, .int a, .int t])), some (.md (seen ++ mkS [x])), some (.d (.str "call")), some (.d (.str x)), some (.d (.int a)), some (.d (.int t))]) ?_ rfl
  unfold b__is_new_call
  refine seq_nx (ρ' := [some (.d (.tup [.str "call", .str x, .int a, .int t])), some (.md seen), some (.d (.str "call")), some (.d (.str x)), some (.d (.int a)), some (.d (.int t))]) rfl ?_
  refine seq_nx (if_no (ρ1 := [some (.d (.tup [.str "call", .str x, .int a, .int t])), some (.md seen), some (.d (.str "call")), some (.d (.str x)), some (.d (.int a)), some (.d (.int t))]) (by simp? [n1, eInD_ev, ky, hs, Option.isSome])) ?_
  refine seq_nx (ρ' := [some (.d (.tup [.str "call", .str x, .int a, .int t])), some (.md (seen ++ mkS [x])), some (.d (.str "call")), some (.d (.str x)), some (.d (.int a)), some (.d (.int t))]) (by simp? [ky, st, if_pos lk]; rfl) ?_
  exact seq_ret (by simp? [n2, n3])
def tAll : ST K κ := tAnd' (tV' (eInS (eIxT (eV 0) (eInt 0)) (eTup (aCons (eStr "all") (aCons (eStr "one") (aNil)))))) (tNot' (tV (eIsTy "tuple" (eIxT (eV 0) (eInt 1)))))
def tWith (T : Tx K κ mg) : ST K κ := tAnd' (tV' (eInS (eIxT (eV 0) (eInt 0)) (eTup (aCons (eStr "within") (aCons (eStr "calls") (aNil)))))) (tNot' (tV (eCall 2 (f_is_number T) (aCons (eIxT (eV 0) (eInt 1)) (aCons (eInt 1) (aNil))))))
def bdR (slf : Fn) : SS K κ := (sSeq (sIf (tNot' (tV (eCall 3 slf (aCons (eV 3) (aCons (eSub (eV 1) (eInt 1)) (aM 2 (aNil))))))) (sSeq (sRet (eBl false)) (sNil)) (sNil)) (sNil))
theorem new_loop (slf : Fn) (X : D) (dp : Int) : ∀ (ps : List (D × List Str)) (seen : List (Key × D)) (u : Option W), (∀ p ∈ ps, ∀ seen, Cond p.2 seen → slf [.d p.1, .d (.int (dp - 1)), .md seen] = .ok (.d (.bl true)) [.d p.1, .d (.int (dp - 1)), .md (seen ++ mkS p.2)]) → Cond (ps.map Prod.snd).flatten seen →
    ∃ u', loopS (gN (K := K) (κ := κ) 3).put (bdR (K := K) (κ := κ) slf).sv (ps.map Prod.fst) [some (.d X), some (.d (.int dp)), some (.md seen), u] = .ok .nx [some (.d X), some (.d (.int dp)), some (.md (seen ++ mkS (ps.map Prod.snd).flatten)), u']
  | [], seen, u, _, _ => ⟨u, by simp [mkS]; rfl⟩
  | p :: ps, seen, u, h, c => by
    simp only [List.map_cons, List.flatten_cons] at c
    have e := h p (by simp) seen c.one
    obtain ⟨u', f⟩ := new_loop slf X dp ps (seen ++ mkS p.2) (some (.d p.1)) (fun q hq => h q (by simp [hq])) c.two
    refine ⟨u', (loop_nx (ρ1 := [some (.d X), some (.d (.int dp)), some (.md seen), some (.d p.1)]) (ρ2 := [some (.d X), some (.d (.int dp)), some (.md (seen ++ mkS p.2)), some (.d p.1)]) rfl (seq_nx (if_no (by simp? [e])) rfl)).trans ?_⟩
    simp only [List.map_cons, List.flatten_cons]
    rw [mkS_app, ← List.append_assoc]
    exact f
theorem new_parts (T : Tx K κ mg) (slf : Fn) (X : D) (w : Str) (dp : Int) (seen : List (Key × D)) (h0 : 1 ≤ dp) (hf : f__has_form T [.d X] = .ok (.d (.bl true)) [.d X]) (i0 : gIxT X (.int 0) = some (.str w)) (g1 : gEq (.str w) (.str "call") = some (.bl false))
    (hA : ∀ u, (tAll (K := K) (κ := κ)).ev [some (.d X), some (.d (.int dp)), u, none] = .ok false [some (.d X), some (.d (.int dp)), u, none]) (hB : ∀ u, (tWith T).ev [some (.d X), some (.d (.int dp)), u, none] = .ok false [some (.d X), some (.d (.int dp)), u, none])
    (ps : List (D × List Str)) (hs : f_straight_within T [.d X] = .ok (.d (.tup (ps.map Prod.fst))) [.d X]) (h : ∀ p ∈ ps, ∀ seen, Cond p.2 seen → slf [.d p.1, .d (.int (dp - 1)), .md seen] = .ok (.d (.bl true)) [.d p.1, .d (.int (dp - 1)), .md (seen ++ mkS p.2)]) (c : Cond (ps.map Prod.snd).flatten seen) :
    Pv.fnOf 4 (b__is_new_right T slf).asg (b__is_new_right T slf).sv [.d X, .d (.int dp), .md seen] = .ok (.d (.bl true)) [.d X, .d (.int dp), .md (seen ++ mkS (ps.map Prod.snd).flatten)] := by
  obtain ⟨u', e⟩ := new_loop (K := K) (κ := κ) slf X dp ps seen none h c
  have z := gEq_int dp 0
  have dz : (dp == 0) = false := by simpa using (by omega : ¬ dp = 0)
  rw [dz] at z
  obtain ⟨Y, hY⟩ : ∃ Y, ps.map Prod.fst = Y := ⟨_, rfl⟩
  rw [hY] at hs e
  have f : (sFor (iT (eCall 1 (f_straight_within T) (aCons (eV 0) (aNil)))) (gN 3) (bdR slf)).sv [some (.d X), some (.d (.int dp)), some (.md seen), none] = _ := for_of (ρ1 := [some (.d X), some (.d (.int dp)), some (.md seen), none]) (xs := Y) (by simp? [hs]) e
  have b : b__is_new_right T slf = sSeq (sIf (tOr' (tV' (eEq (eV 1) (eInt 0))) (tNot' (tV (eCall 1 (f__has_form T) (aCons (eV 0) (aNil)))))) (sSeq (sRet (eBl false)) (sNil)) (sNil))
    (sSeq (sIf (tV' (eEq (eIxT (eV 0) (eInt 0)) (eStr "call"))) (sSeq (sRet (eCall 2 (f__is_new_call T) (aCons (eV 0) (aM 2 (aNil))))) (sNil)) (sNil))
    (sSeq (sIf tAll (sSeq (sRet (eBl false)) (sNil)) (sNil)) (sSeq (sIf (tWith T) (sSeq (sRet (eBl false)) (sNil)) (sNil))
    (sSeq (sFor (iT (eCall 1 (f_straight_within T) (aCons (eV 0) (aNil)))) (gN 3) (bdR slf)) (sSeq (sRet (eBl true)) (sNil)))))) := rfl
  refine fn_rt (ρ := [some (.d X), some (.d (.int dp)), some (.md (seen ++ mkS (ps.map Prod.snd).flatten)), u']) ?_ rfl
  rw [b]
  refine seq_nx (if_no (ρ1 := [some (.d X), some (.d (.int dp)), some (.md seen), none]) (by simp? [z, hf])) ?_
  refine seq_nx (if_no (ρ1 := [some (.d X), some (.d (.int dp)), some (.md seen), none]) (by simp? [i0, g1])) ?_
  refine seq_nx (if_no (hA _)) ?_
  refine seq_nx (if_no (hB _)) ?_
  refine seq_nx f ?_
  exact seq_ret (by simp? [])
theorem new_succ (T : Tx K κ mg) (n : Nat) : f__is_new_right T (n + 1) = Pv.fnOf 4 (b__is_new_right T (f__is_new_right T n)).asg (b__is_new_right T (f__is_new_right T n)).sv := rfl
theorem parts_of {n : Nat} {f : D → List Str → Prop} (h : ∀ d xs, Fm n d xs → f d xs) : ∀ {ds : List D} {xss : List (List Str)}, All2 (Fm n) ds xss → ∃ ps : List (D × List Str), ps.map Prod.fst = ds ∧ ps.map Prod.snd = xss ∧ ∀ p ∈ ps, f p.1 p.2
  | [], [], _ => ⟨[], rfl, rfl, fun _ hp => (nomatch hp)⟩
  | d :: ds, xs :: xss, ⟨r, rr⟩ => by
    obtain ⟨ps, h1, h2, h3⟩ := parts_of h rr
    refine ⟨(d, xs) :: ps, by simp [h1], by simp [h2], fun p hp => ?_⟩
    rcases List.mem_cons.mp hp with rfl | hp
    · exact h _ _ r
    · exact h3 p hp
  | [], _ :: _, h => h.elim
  | _ :: _, [], h => h.elim
theorem v_straight2 (T : Tx K κ mg) (k : Int) (d : D) (w : Str) (i : gInS false (.str w) (.tup [.str "all", .str "one"]) = some (.bl false)) (j : gInS false (.str w) (.tup [.str "within", .str "calls"]) = some (.bl true)) : f_straight_within T [.d (.tup [.str w, .int k, d])] = .ok (.d (.tup [d])) [.d (.tup [.str w, .int k, d])] := by
  have i0 : gIxT (.tup [.str w, .int k, d]) (.int 0) = some (.str w) := rfl
  have i2 : gIxT (.tup [.str w, .int k, d]) (.int 2) = some d := rfl
  refine fn_rt (ρ := [some (.d (.tup [.str w, .int k, d]))]) ?_ rfl
  unfold b_straight_within eInS
  refine seq_nx (if_no (ρ1 := [some (.d (.tup [.str w, .int k, d]))]) (by simp? [i0, i])) ?_
  simp? [i0, i2, j]
theorem v_straight1 (T : Tx K κ mg) (ds : List D) (w : Str) (i : gInS false (.str w) (.tup [.str "all", .str "one"]) = some (.bl true)) : f_straight_within T [.d (.tup [.str w, .tup ds])] = .ok (.d (.tup ds)) [.d (.tup [.str w, .tup ds])] := by
  have i0 : gIxT (.tup [.str w, .tup ds]) (.int 0) = some (.str w) := rfl
  have i1 : gIxT (.tup [.str w, .tup ds]) (.int 1) = some (.tup ds) := rfl
  refine fn_rt (ρ := [some (.d (.tup [.str w, .tup ds]))]) ?_ rfl
  unfold b_straight_within eInS
  simp? [i0, i1, i]
theorem v_new (T : Tx K κ mg) : ∀ (n : Nat) (d : D) (xs : List Str), Fm n d xs → ∀ (N : Nat) (dp : Int) (seen : List (Key × D)), n ≤ N → (n : Int) ≤ dp → Cond xs seen →
    f__is_new_right T N [.d d, .d (.int dp), .md seen] = .ok (.d (.bl true)) [.d d, .d (.int dp), .md (seen ++ mkS xs)]
  | 0, _, _, h, _, _, _, _, _, _ => h.elim
  | n + 1, d, xs, h, 0, _, _, hN, _, _ => by omega
  | n + 1, d, xs, h, N + 1, dp, seen, hN, hd, c => by
    have ih := fun d xs (h : Fm n d xs) => fun seen (c : Cond xs seen) => v_new T n d xs h N (dp - 1) seen (by omega) (by omega) c
    rw [new_succ]
    generalize f__is_new_right T N = slf at ih ⊢
    have g0 : ∀ w, (w = ("none" : Str) ∨ w = "within" ∨ w = "calls") → gInS false (.str w) (.tup [.str "all", .str "one"]) = some (.bl false) := by
      rintro w (rfl | rfl | rfl) <;> kernel_rfl
    have tA2 : ∀ (w : Str) (zs : List D), gIxT (.tup zs) (.int 0) = some (.str w) → gInS false (.str w) (.tup [.str "all", .str "one"]) = some (.bl false) → ∀ u, (tAll (K := K) (κ := κ)).ev [some (.d (.tup zs)), some (.d (.int dp)), u, none] = .ok false [some (.d (.tup zs)), some (.d (.int dp)), u, none] := by
      intro w zs h0 h1 u
      unfold tAll eInS
      simp? [h0, h1]
    have tA1 : ∀ (w : Str) (ds : List D), gInS false (.str w) (.tup [.str "all", .str "one"]) = some (.bl true) → ∀ u, (tAll (K := K) (κ := κ)).ev [some (.d (.tup [.str w, .tup ds])), some (.d (.int dp)), u, none] = .ok false [some (.d (.tup [.str w, .tup ds])), some (.d (.int dp)), u, none] := by
      intro w ds h1 u
      have i0 : gIxT (.tup [.str w, .tup ds]) (.int 0) = some (.str w) := rfl
      have i1 : gIxT (.tup [.str w, .tup ds]) (.int 1) = some (.tup ds) := rfl
      have y : gTy "tuple" (.tup ds) = some true := by kernel_rfl
      unfold tAll eInS
      simp? [i0, i1, h1, y]
    have tW2 : ∀ (w : Str) (zs : List D), gIxT (.tup zs) (.int 0) = some (.str w) → gInS false (.str w) (.tup [.str "within", .str "calls"]) = some (.bl false) → ∀ u, (tWith T).ev [some (.d (.tup zs)), some (.d (.int dp)), u, none] = .ok false [some (.d (.tup zs)), some (.d (.int dp)), u, none] := by
      intro w zs h0 h1 u
      unfold tWith eInS
      simp? [h0, h1]
    have tW1 : ∀ (w : Str) (k : Int) (d' : D), 1 ≤ k → gInS false (.str w) (.tup [.str "within", .str "calls"]) = some (.bl true) → ∀ u, (tWith T).ev [some (.d (.tup [.str w, .int k, d'])), some (.d (.int dp)), u, none] = .ok false [some (.d (.tup [.str w, .int k, d'])), some (.d (.int dp)), u, none] := by
      intro w k d' hk h1 u
      have i0 : gIxT (.tup [.str w, .int k, d']) (.int 0) = some (.str w) := rfl
      have i1 : gIxT (.tup [.str w, .int k, d']) (.int 1) = some (.int k) := rfl
      have y := v_number T hk
      unfold tWith eInS
      simp? [i0, i1, h1, y]
    have hw : ∀ (w : Str), (w = "all" ∨ w = "one") → gInS false (.str w) (.tup [.str "within", .str "calls"]) = some (.bl false) := by
      rintro w (rfl | rfl) <;> kernel_rfl
    rcases h with ⟨rfl, rfl⟩ | ⟨y, a, t, hy, ha, ht, rfl, rfl⟩ | ⟨k, d', hk, hr, rfl⟩ | ⟨k, d', hk, hr, rfl⟩ | ⟨ds, xss, hr, rfl, rfl⟩ | ⟨ds, xss, hr, rfl, rfl⟩
    · have hf := v_form T [.str "none"] "none" rfl (by kernel_rfl)
      exact new_parts T slf (.tup [.str "none"]) "none" dp seen (by omega) hf rfl (by kernel_rfl) (tA2 "none" _ rfl (g0 _ (.inl rfl))) (tW2 "none" _ rfl (by kernel_rfl)) [] (by kernel_rfl) (fun _ hp => nomatch hp) c
    · have hf := v_form T [.str "call", .str y, .int a, .int t] "call" rfl (by kernel_rfl)
      have nc := v_new_call T hy ha ht (c.2.1 y (by simp)) (by have := c.2.2; omega)
      have z := gEq_int dp 0
      have dz : (dp == 0) = false := by simpa using (by omega : ¬ dp = 0)
      rw [dz] at z
      have i0 : gIxT (.tup [.str "call", .str y, .int a, .int t]) (.int 0) = some (.str "call") := rfl
      have g1 : gEq (.str "call") (.str "call") = some (.bl true) := by kernel_rfl
      obtain ⟨X, hX⟩ : ∃ X, D.tup [.str "call", .str y, .int a, .int t] = X := ⟨_, rfl⟩
      rw [hX] at hf nc i0 ⊢
      refine fn_rt (ρ := [some (.d X), some (.d (.int dp)), some (.md (seen ++ mkS [y])), none]) ?_ rfl
      unfold b__is_new_right
      refine seq_nx (if_no (ρ1 := [some (.d X), some (.d (.int dp)), some (.md seen), none]) (by simp? [z, hf])) ?_
      exact seq_rt (if_tr (ρ1 := [some (.d X), some (.d (.int dp)), some (.md seen), none]) (by simp? [i0, g1]) (seq_ret (by simp? [nc])))
    · have hf := v_form T [.str "within", .int k, d'] "within" rfl (by kernel_rfl)
      have := new_parts T slf (.tup [.str "within", .int k, d']) "within" dp seen (by omega) hf rfl (by kernel_rfl) (tA2 "within" _ rfl (g0 _ (.inr (.inl rfl)))) (tW1 "within" k d' hk (by kernel_rfl)) [(d', xs)] (v_straight2 T k d' "within" (by kernel_rfl) (by kernel_rfl)) (fun p hp => by rw [List.mem_singleton] at hp; subst hp; exact ih _ _ hr) (by simpa using c)
      simpa using this
    · have hf := v_form T [.str "calls", .int k, d'] "calls" rfl (by kernel_rfl)
      have := new_parts T slf (.tup [.str "calls", .int k, d']) "calls" dp seen (by omega) hf rfl (by kernel_rfl) (tA2 "calls" _ rfl (g0 _ (.inr (.inr rfl)))) (tW1 "calls" k d' hk (by kernel_rfl)) [(d', xs)] (v_straight2 T k d' "calls" (by kernel_rfl) (by kernel_rfl)) (fun p hp => by rw [List.mem_singleton] at hp; subst hp; exact ih _ _ hr) (by simpa using c)
      simpa using this
    · have hf := v_form T [.str "all", .tup ds] "all" rfl (by kernel_rfl)
      obtain ⟨ps, p1, p2, p3⟩ := parts_of ih hr
      subst p1 p2
      exact new_parts T slf (.tup [.str "all", .tup (ps.map Prod.fst)]) "all" dp seen (by omega) hf rfl (by kernel_rfl) (tA1 "all" _ (by kernel_rfl)) (tW2 "all" _ rfl (hw _ (.inl rfl))) ps (v_straight1 T _ "all" (by kernel_rfl)) p3 c
    · have hf := v_form T [.str "one", .tup ds] "one" rfl (by kernel_rfl)
      obtain ⟨ps, p1, p2, p3⟩ := parts_of ih hr
      subst p1 p2
      exact new_parts T slf (.tup [.str "one", .tup (ps.map Prod.fst)]) "one" dp seen (by omega) hf rfl (by kernel_rfl) (tA1 "one" _ (by kernel_rfl)) (tW2 "one" _ rfl (hw _ (.inr rfl))) ps (v_straight1 T _ "one" (by kernel_rfl)) p3 c
/-- a right of at most six forms within one another, its names all unlike -/
theorem v_is_right (T : Tx K κ mg) {n : Nat} {d : D} {xs : List Str} (h : Fm n d xs) (hn : n ≤ 6) (nd : xs.Nodup) (hl : xs.length < 1000) : f_is_right T [.d d] = .ok (.d (.bl true)) [.d d] := by
  have e := v_new T n d xs h 7 6 [] (by omega) (by omega) ⟨nd, fun _ _ => rfl, by simpa using hl⟩
  refine fn_rt (ρ := [some (.d d)]) ?_ rfl
  unfold b_is_right
  exact seq_ret (by simp? [eCallD_ev, e])
theorem v_check_right (T : Tx K κ mg) {n : Nat} {d : D} {xs : List Str} (h : Fm n d xs) (hn : n ≤ 6) (nd : xs.Nodup) (hl : xs.length < 1000) : f_check_right T [.d d] = .ok (.d .non) [.d d] := by
  have e := v_is_right T h hn nd hl
  unfold f_check_right Pv.fnOf b_check_right
  simp? [e]
end
end K33
set_option maxRecDepth 100000
set_option maxHeartbeats 4000000
namespace K33
open PySem PySem.Spec PyProof.Rows L2 Pv P25 P66 P50 P54
section
variable {K : PySem.W.Frag} {κ : Cls} {mg : Str → Option Value}
def bD (b : Option Int) : D := match b with
  | none => .non
  | some w => .int w
def inD (xs : List Int) : D := .lst (xs.map .int)
theorem topD_mx {ns : List Int} (h : ∀ x ∈ ns, 0 ≤ x) : topD ns (.int 0) = .int (mxL 0 ns) := by
  cases ns with
  | nil => rfl
  | cons n ns =>
    obtain ⟨s1, s2, s3⟩ := topI_spec ns n
    obtain ⟨g1, g2⟩ := mxL_ge (n :: ns) 0
    have n0 := h n (by simp)
    have a1 : mxL 0 (n :: ns) ≤ topI n ns := mxL_le (n :: ns) 0 _ (by omega) fun x hx => by
      rcases List.mem_cons.mp hx with rfl | z
      · exact s2
      · exact s3 x z
    have a2 : topI n ns ≤ mxL 0 (n :: ns) := by
      rcases s1 with z | z
      · rw [z]; exact g2 n (by simp)
      · exact g2 _ (List.mem_cons_of_mem _ z)
    show D.int (topI n ns) = _
    rw [Int.le_antisymm a2 a1]
def lcM (slf : Fn) : SE K κ := eLc (iT (eIxT (eV 0) (eInt 1))) (gN 2) (tYes') (eCall 1 slf (aCons (eV 2) (aNil))) [2] (fun _ h => h)
theorem lcM_ev (slf : Fn) (x w : D) (ps : List (D × Int)) (hl : ps.length ≤ 1000) (hx : gIxT x (.int 1) = some (.tup (ps.map Prod.fst))) (hv : ∀ p ∈ ps, slf [.d p.1] = .ok (.d (.int p.2)) [.d p.1]) :
    (lcM (K := K) (κ := κ) slf).ev [some (.d x), some (.d w), none] = .ok (.d (inD (ps.map Prod.snd))) [some (.d x), some (.d w), none] := by
  have l := loopC_map (vs := [2]) (put := (gN (K := K) (κ := κ) 2).put) (t := (tYes' (K := K) (κ := κ)).ev) (e := (eCall (K := K) (κ := κ) 1 slf (aCons (eV 2) (aNil))).ev) (ρ0 := [some (.d x), some (.d w), none])
    Prod.fst (fun p => some (.int p.2)) ps [] (fun p hp => ⟨[some (.d x), some (.d w), some (.d p.1)], [some (.d x), some (.d w), some (.d p.1)], rfl, [some (.d x), some (.d w), some (.d p.1)], rfl, call1_of rfl (hv p hp), rfl⟩) (by simpa using hl)
  rw [List.nil_append, fm_some fun p : D × Int => D.int p.2] at l
  have e : ps.map (fun p => D.int p.2) = (ps.map Prod.snd).map .int := by rw [List.map_map]; rfl
  rw [e] at l
  exact lc_of (vs := [2]) (it := iT (eIxT (eV 0) (eInt 1))) (g := gN 2) (t := tYes') (e := eCall 1 slf (aCons (eV 2) (aNil))) (hv := fun _ h => h) (xs := ps.map Prod.fst) (ρi := [some (.d x), some (.d w), none]) (by simp? [hx]) rfl l rfl
theorem most_parts (T : Tx K κ mg) (slf : Fn) (w : Str) (o : Bool) (g1 : gEq (.str w) (.str "none") = some (.bl false)) (g2 : gEq (.str w) (.str "call") = some (.bl false)) (g3 : gEq (.str w) (.str "all") = some (.bl o)) (g4 : gEq (.str w) (.str "one") = some (.bl true) ∨ o = true)
    (ps : List (D × Int)) (hl : ps.length ≤ 1000) (h0 : ∀ p ∈ ps, 0 ≤ p.2) (hv : ∀ p ∈ ps, slf [.d p.1] = .ok (.d (.int p.2)) [.d p.1]) :
    Pv.fnOf 3 (b__most_calls T slf).asg (b__most_calls T slf).sv [.d (.tup [.str w, .tup (ps.map Prod.fst)])] =
      .ok (.d (.int (if o then (ps.map Prod.snd).sum else mxL 0 (ps.map Prod.snd)))) [.d (.tup [.str w, .tup (ps.map Prod.fst)])] := by
  obtain ⟨X, hX⟩ : ∃ X, D.tup [.str w, .tup (ps.map Prod.fst)] = X := ⟨_, rfl⟩
  have i0 : gIxT X (.int 0) = some (.str w) := by rw [← hX]; kernel_rfl
  have i1 : gIxT X (.int 1) = some (.tup (ps.map Prod.fst)) := by rw [← hX]; kernel_rfl
  have lc := lcM_ev (K := K) (κ := κ) slf X (.str w) ps hl i1 hv
  have gs : gSum [inD (ps.map Prod.snd)] = some (.int (ps.map Prod.snd).sum) := gSum_map _
  have tp : (eTopDf (lcM (K := K) (κ := κ) slf) (eInt 0)).ev [some (.d X), some (.d (.str w)), none] = .ok (.d (.int (mxL 0 (ps.map Prod.snd)))) [some (.d X), some (.d (.str w)), none] := by
    rw [eTopDf_ev]
    have nm := numsOf_map (ps.map Prod.snd)
    have td := topD_mx (ns := ps.map Prod.snd) fun x hx => by obtain ⟨p, hp, rfl⟩ := List.mem_map.mp hx; exact h0 p hp
    simp? [lc, inD, nm, td]
  rw [hX]
  refine fn_rt (ρ := [some (.d X), some (.d (.str w)), none]) ?_ rfl
  have b : b__most_calls T slf = sSeq (sAsg 1 (eIxT (eV 0) (eInt 0))) (sSeq (sIf (tV' (eEq (eV 1) (eStr "none"))) (sSeq (sRet (eInt 0)) (sNil)) (sNil))
    (sSeq (sIf (tV' (eEq (eV 1) (eStr "call"))) (sSeq (sRet (eIxT (eV 0) (eInt 3))) (sNil)) (sNil))
    (sSeq (sIf (tV' (eEq (eV 1) (eStr "all"))) (sSeq (sRet (eSum (aCons (lcM slf) (aNil)))) (sNil)) (sNil))
    (sSeq (sIf (tV' (eEq (eV 1) (eStr "one"))) (sSeq (sRet (eTopDf (lcM slf) (eInt 0))) (sNil)) (sNil))
    (sSeq (sRet (eMin2 (aCons (eIxT (eV 0) (eInt 1)) (aCons (eCall 1 slf (aCons (eIxT (eV 0) (eInt 2)) (aNil))) (aNil))))) (sNil)))))) := rfl
  rw [b]
  generalize lcM (K := K) (κ := κ) slf = LC at lc tp ⊢
  refine seq_nx (ρ' := [some (.d X), some (.d (.str w)), none]) (by simp? [i0]) ?_
  refine seq_nx (if_no (ρ1 := [some (.d X), some (.d (.str w)), none]) (by simp? [g1])) ?_
  refine seq_nx (if_no (ρ1 := [some (.d X), some (.d (.str w)), none]) (by simp? [g2])) ?_
  cases o with
  | true => exact seq_rt (if_tr (ρ1 := [some (.d X), some (.d (.str w)), none]) (by simp? [g3]) (seq_ret (by simp? [lc, gs])))
  | false =>
    have g4 := g4.resolve_right (by decide)
    refine seq_nx (if_no (ρ1 := [some (.d X), some (.d (.str w)), none]) (by simp? [g3])) ?_
    exact seq_rt (if_tr (ρ1 := [some (.d X), some (.d (.str w)), none]) (by simp? [g4]) (seq_ret tp))
theorem most_none (T : Tx K κ mg) (slf : Fn) : Pv.fnOf 3 (b__most_calls T slf).asg (b__most_calls T slf).sv [.d (.tup [.str "none"])] = .ok (.d (.int 0)) [.d (.tup [.str "none"])] := by kernel_rfl
theorem most_call (T : Tx K κ mg) (slf : Fn) (x : Str) (a t : Int) : Pv.fnOf 3 (b__most_calls T slf).asg (b__most_calls T slf).sv [.d (.tup [.str "call", .str x, .int a, .int t])] = .ok (.d (.int t)) [.d (.tup [.str "call", .str x, .int a, .int t])] := by kernel_rfl
theorem most_in (T : Tx K κ mg) (slf : Fn) (w : Str) (hw : w = "within" ∨ w = "calls") (k m : Int) (d : D) (h : slf [.d d] = .ok (.d (.int m)) [.d d]) : Pv.fnOf 3 (b__most_calls T slf).asg (b__most_calls T slf).sv [.d (.tup [.str w, .int k, d])] = .ok (.d (.int (mn k m))) [.d (.tup [.str w, .int k, d])] := by
  obtain ⟨X, hX⟩ : ∃ X, D.tup [.str w, .int k, d] = X := ⟨_, rfl⟩
  have i0 : gIxT X (.int 0) = some (.str w) := by rw [← hX]; rfl
  have i1 : gIxT X (.int 1) = some (.int k) := by rw [← hX]; rfl
  have i2 : gIxT X (.int 2) = some d := by rw [← hX]; rfl
  have gs : ∀ v : Str, (v = "none" ∨ v = "call" ∨ v = "all" ∨ v = "one") → gEq (.str w) (.str v) = some (.bl false) := by
    rcases hw with rfl | rfl <;> (rintro v (rfl | rfl | rfl | rfl) <;> kernel_rfl)
  have g1 := gs "none" (by simp)
  have g2 := gs "call" (by simp)
  have g3 := gs "all" (by simp)
  have g4 := gs "one" (by simp)
  have mm : gMin2 [.int k, .int m] = some (.int (mn k m)) := by rfl
  rw [hX]
  refine fn_rt (ρ := [some (.d X), some (.d (.str w)), none]) ?_ rfl
  unfold b__most_calls
  refine seq_nx (ρ' := [some (.d X), some (.d (.str w)), none]) (by simp? [i0]) ?_
  refine seq_nx (if_no (ρ1 := [some (.d X), some (.d (.str w)), none]) (by simp? [g1])) ?_
  refine seq_nx (if_no (ρ1 := [some (.d X), some (.d (.str w)), none]) (by simp? [g2])) ?_
  refine seq_nx (if_no (ρ1 := [some (.d X), some (.d (.str w)), none]) (by simp? [g3])) ?_
  refine seq_nx (if_no (ρ1 := [some (.d X), some (.d (.str w)), none]) (by simp? [g4])) ?_
  exact seq_ret (by simp? [i1, i2, h, mm])
theorem v_below (T : Tx K κ mg) (a : Int) (b : Option Int) : f__amount_below T [.d (.int a), .d (bD b)] = .ok (.d (.int (cutA b a))) [.d (.int a), .d (bD b)] := by
  cases b with
  | none => kernel_rfl
  | some w =>
    have mm : gMin2 [.int a, .int (w - 1)] = some (.int (mn a (w - 1))) := by rfl
    have nn : D.isN (.int w) = false := rfl
    refine fn_rt (ρ := [some (.d (.int a)), some (.d (.int w))]) ?_ rfl
    unfold b__amount_below
    simp? [bD, mm, nn]
    rfl
def lcS (slf : Fn) : SE K κ := eLc (iT (eIxT (eV 0) (eInt 1))) (gN 3) (tYes') (eCall 2 slf (aCons (eV 3) (aCons (eV 1) (aNil)))) [3] (fun _ h => h)
theorem lcS_ev (slf : Fn) (x b w : D) (ps : List (D × Int)) (hl : ps.length ≤ 1000) (hx : gIxT x (.int 1) = some (.tup (ps.map Prod.fst))) (hv : ∀ p ∈ ps, slf [.d p.1, .d b] = .ok (.d (.int p.2)) [.d p.1, .d b]) :
    (lcS (K := K) (κ := κ) slf).ev [some (.d x), some (.d b), some (.d w), none] = .ok (.d (inD (ps.map Prod.snd))) [some (.d x), some (.d b), some (.d w), none] := by
  have l := loopC_map (vs := [3]) (put := (gN (K := K) (κ := κ) 3).put) (t := (tYes' (K := K) (κ := κ)).ev) (e := (eCall (K := K) (κ := κ) 2 slf (aCons (eV 3) (aCons (eV 1) (aNil)))).ev) (ρ0 := [some (.d x), some (.d b), some (.d w), none])
    Prod.fst (fun p => some (.int p.2)) ps [] (fun p hp => ⟨[some (.d x), some (.d b), some (.d w), some (.d p.1)], [some (.d x), some (.d b), some (.d w), some (.d p.1)], rfl, [some (.d x), some (.d b), some (.d w), some (.d p.1)], rfl, call2_of rfl rfl (hv p hp), rfl⟩) (by simpa using hl)
  rw [List.nil_append, fm_some fun p : D × Int => D.int p.2] at l
  have e : ps.map (fun p => D.int p.2) = (ps.map Prod.snd).map .int := by rw [List.map_map]; rfl
  rw [e] at l
  exact lc_of (vs := [3]) (it := iT (eIxT (eV 0) (eInt 1))) (g := gN 3) (t := tYes') (e := eCall 2 slf (aCons (eV 3) (aCons (eV 1) (aNil)))) (hv := fun _ h => h) (xs := ps.map Prod.fst) (ρi := [some (.d x), some (.d b), some (.d w), none]) (by simp? [hx]) rfl l rfl
def bSum (T : Tx K κ mg) (slf oth : Fn) (LC : SE K κ) : SS K κ := sSeq (sAsg 2 (eIxT (eV 0) (eInt 0)))
    (sSeq (sIf (tV' (eEq (eV 2) (eStr "none"))) (sSeq (sRet (eInt 0)) (sNil)) (sNil))
    (sSeq (sIf (tV' (eEq (eV 2) (eStr "call"))) (sSeq (sRet (eMul (eIxT (eV 0) (eInt 3)) (eCall 2 (f__amount_below T) (aCons (eIxT (eV 0) (eInt 2)) (aCons (eV 1) (aNil)))))) (sNil)) (sNil))
    (sSeq (sIf (tV' (eEq (eV 2) (eStr "all"))) (sSeq (sRet (eSum (aCons LC (aNil)))) (sNil)) (sNil))
    (sSeq (sIf (tV' (eEq (eV 2) (eStr "one"))) (sSeq (sRet (eTopDf LC (eInt 0))) (sNil)) (sNil))
    (sSeq (sIf (tV' (eEq (eV 2) (eStr "within"))) (sSeq (sRet (eMin2 (aCons (eIxT (eV 0) (eInt 1)) (aCons (eCall 2 slf (aCons (eIxT (eV 0) (eInt 2)) (aCons (eV 1) (aNil)))) (aNil))))) (sNil)) (sNil))
    (sSeq (sRet (eCall 3 oth (aCons (eIxT (eV 0) (eInt 2)) (aCons (eV 1) (aCons (eIxT (eV 0) (eInt 1)) (aNil)))))) (sNil)))))))
theorem sum_parts (T : Tx K κ mg) (slf oth : Fn) (w : Str) (o : Bool) (g1 : gEq (.str w) (.str "none") = some (.bl false)) (g2 : gEq (.str w) (.str "call") = some (.bl false)) (g3 : gEq (.str w) (.str "all") = some (.bl o)) (g4 : gEq (.str w) (.str "one") = some (.bl true) ∨ o = true)
    (b : D) (ps : List (D × Int)) (hl : ps.length ≤ 1000) (h0 : ∀ p ∈ ps, 0 ≤ p.2) (hv : ∀ p ∈ ps, slf [.d p.1, .d b] = .ok (.d (.int p.2)) [.d p.1, .d b]) :
    Pv.fnOf 4 (b__sum_of_all_calls T slf oth).asg (b__sum_of_all_calls T slf oth).sv [.d (.tup [.str w, .tup (ps.map Prod.fst)]), .d b] =
      .ok (.d (.int (if o then (ps.map Prod.snd).sum else mxL 0 (ps.map Prod.snd)))) [.d (.tup [.str w, .tup (ps.map Prod.fst)]), .d b] := by
  obtain ⟨X, hX⟩ : ∃ X, D.tup [.str w, .tup (ps.map Prod.fst)] = X := ⟨_, rfl⟩
  have i0 : gIxT X (.int 0) = some (.str w) := by rw [← hX]; kernel_rfl
  have i1 : gIxT X (.int 1) = some (.tup (ps.map Prod.fst)) := by rw [← hX]; kernel_rfl
  have lc := lcS_ev (K := K) (κ := κ) slf X b (.str w) ps hl i1 hv
  have gs : gSum [inD (ps.map Prod.snd)] = some (.int (ps.map Prod.snd).sum) := gSum_map _
  have tp : (eTopDf (lcS (K := K) (κ := κ) slf) (eInt 0)).ev [some (.d X), some (.d b), some (.d (.str w)), none] = .ok (.d (.int (mxL 0 (ps.map Prod.snd)))) [some (.d X), some (.d b), some (.d (.str w)), none] := by
    rw [eTopDf_ev]
    have nm := numsOf_map (ps.map Prod.snd)
    have td := topD_mx (ns := ps.map Prod.snd) fun x hx => by obtain ⟨p, hp, rfl⟩ := List.mem_map.mp hx; exact h0 p hp
    simp? [lc, inD, nm, td]
  rw [hX]
  refine fn_rt (ρ := [some (.d X), some (.d b), some (.d (.str w)), none]) ?_ rfl
  have bb : b__sum_of_all_calls T slf oth = bSum T slf oth (lcS slf) := rfl
  rw [bb]
  unfold bSum
  generalize lcS (K := K) (κ := κ) slf = LC at lc tp ⊢
  refine seq_nx (ρ' := [some (.d X), some (.d b), some (.d (.str w)), none]) (by simp? [i0]) ?_
  refine seq_nx (if_no (ρ1 := [some (.d X), some (.d b), some (.d (.str w)), none]) (by simp? [g1])) ?_
  refine seq_nx (if_no (ρ1 := [some (.d X), some (.d b), some (.d (.str w)), none]) (by simp? [g2])) ?_
  cases o with
  | true => exact seq_rt (if_tr (ρ1 := [some (.d X), some (.d b), some (.d (.str w)), none]) (by simp? [g3]) (seq_ret (by simp? [lc, gs])))
  | false =>
    have g4 := g4.resolve_right (by decide)
    refine seq_nx (if_no (ρ1 := [some (.d X), some (.d b), some (.d (.str w)), none]) (by simp? [g3])) ?_
    exact seq_rt (if_tr (ρ1 := [some (.d X), some (.d b), some (.d (.str w)), none]) (by simp? [g4]) (seq_ret tp))
theorem sum_none (T : Tx K κ mg) (slf oth : Fn) (b : D) : Pv.fnOf 4 (b__sum_of_all_calls T slf oth).asg (b__sum_of_all_calls T slf oth).sv [.d (.tup [.str "none"]), .d b] = .ok (.d (.int 0)) [.d (.tup [.str "none"]), .d b] := by kernel_rfl
theorem sum_call (T : Tx K κ mg) (slf oth : Fn) (x : Str) (a t : Int) (b : Option Int) (h : CMul t (cutA b a)) : Pv.fnOf 4 (b__sum_of_all_calls T slf oth).asg (b__sum_of_all_calls T slf oth).sv [.d (.tup [.str "call", .str x, .int a, .int t]), .d (bD b)] = .ok (.d (.int (t * cutA b a))) [.d (.tup [.str "call", .str x, .int a, .int t]), .d (bD b)] := by
  obtain ⟨X, hX⟩ : ∃ X, D.tup [.str "call", .str x, .int a, .int t] = X := ⟨_, rfl⟩
  have i0 : gIxT X (.int 0) = some (.str "call") := by rw [← hX]; rfl
  have i2 : gIxT X (.int 2) = some (.int a) := by rw [← hX]; rfl
  have i3 : gIxT X (.int 3) = some (.int t) := by rw [← hX]; rfl
  have g1 : gEq (.str "call") (.str "none") = some (.bl false) := by kernel_rfl
  have g2 : gEq (.str "call") (.str "call") = some (.bl true) := by kernel_rfl
  have be := v_below T a b
  rw [hX]
  generalize bD b = B at be ⊢
  refine fn_rt (ρ := [some (.d X), some (.d B), some (.d (.str "call")), none]) ?_ rfl
  have bb : b__sum_of_all_calls T slf oth = bSum T slf oth (lcS slf) := rfl
  rw [bb]
  unfold bSum
  refine seq_nx (ρ' := [some (.d X), some (.d B), some (.d (.str "call")), none]) (by simp? [i0]) ?_
  refine seq_nx (if_no (ρ1 := [some (.d X), some (.d B), some (.d (.str "call")), none]) (by simp? [g1])) ?_
  exact seq_rt (if_tr (ρ1 := [some (.d X), some (.d B), some (.d (.str "call")), none]) (by simp? [g2]) (seq_ret (by simp? [i2, i3, be, if_pos h])))
theorem sum_in (T : Tx K κ mg) (slf oth : Fn) (w : Str) (hw : w = "within" ∨ w = "calls") (k m : Int) (d b : D) (h : if w = "within" then slf [.d d, .d b] = .ok (.d (.int m)) [.d d, .d b] else oth [.d d, .d b, .d (.int k)] = .ok (.d (.int m)) [.d d, .d b, .d (.int k)]) :
    Pv.fnOf 4 (b__sum_of_all_calls T slf oth).asg (b__sum_of_all_calls T slf oth).sv [.d (.tup [.str w, .int k, d]), .d b] = .ok (.d (.int (if w = "within" then mn k m else m))) [.d (.tup [.str w, .int k, d]), .d b] := by
  obtain ⟨X, hX⟩ : ∃ X, D.tup [.str w, .int k, d] = X := ⟨_, rfl⟩
  have i0 : gIxT X (.int 0) = some (.str w) := by rw [← hX]; rfl
  have i1 : gIxT X (.int 1) = some (.int k) := by rw [← hX]; rfl
  have i2 : gIxT X (.int 2) = some d := by rw [← hX]; rfl
  have gs : ∀ v : Str, (v = "none" ∨ v = "call" ∨ v = "all" ∨ v = "one") → gEq (.str w) (.str v) = some (.bl false) := by
    rcases hw with rfl | rfl <;> (rintro v (rfl | rfl | rfl | rfl) <;> kernel_rfl)
  have g1 := gs "none" (by simp)
  have g2 := gs "call" (by simp)
  have g3 := gs "all" (by simp)
  have g4 := gs "one" (by simp)
  have mm : gMin2 [.int k, .int m] = some (.int (mn k m)) := by rfl
  rw [hX]
  refine fn_rt (ρ := [some (.d X), some (.d b), some (.d (.str w)), none]) ?_ rfl
  have bb : b__sum_of_all_calls T slf oth = bSum T slf oth (lcS slf) := rfl
  rw [bb]
  unfold bSum
  refine seq_nx (ρ' := [some (.d X), some (.d b), some (.d (.str w)), none]) (by simp? [i0]) ?_
  refine seq_nx (if_no (ρ1 := [some (.d X), some (.d b), some (.d (.str w)), none]) (by simp? [g1])) ?_
  refine seq_nx (if_no (ρ1 := [some (.d X), some (.d b), some (.d (.str w)), none]) (by simp? [g2])) ?_
  refine seq_nx (if_no (ρ1 := [some (.d X), some (.d b), some (.d (.str w)), none]) (by simp? [g3])) ?_
  refine seq_nx (if_no (ρ1 := [some (.d X), some (.d b), some (.d (.str w)), none]) (by simp? [g4])) ?_
  rcases hw with rfl | rfl
  · rw [if_pos rfl] at h ⊢
    have g5 : gEq (.str "within") (.str "within") = some (.bl true) := by kernel_rfl
    exact seq_rt (if_tr (ρ1 := [some (.d X), some (.d b), some (.d (.str "within")), none]) (by simp? [g5]) (seq_ret (by simp? [i1, i2, h, mm])))
  · have ne : ¬ ("calls" : Str) = "within" := by decide +kernel
    rw [if_neg ne] at h ⊢
    have g5 : gEq (.str "calls") (.str "within") = some (.bl false) := by kernel_rfl
    refine seq_nx (if_no (ρ1 := [some (.d X), some (.d b), some (.d (.str "calls")), none]) (by simp? [g5])) ?_
    exact seq_ret (by simp? [i1, i2, h])
end
end K33
namespace P55
open Pv P25 P50
/-- the first j of L together -/
def S (L : List Int) (j : Nat) : Int := (L.take j).sum
def Desc (L : List Int) : Prop := L.Pairwise fun x y => y ≤ x
def Nn (L : List Int) : Prop := ∀ x ∈ L, 0 ≤ x
theorem S_zero (L : List Int) : S L 0 = 0 := by simp [S]
theorem S_nil (j : Nat) : S [] j = 0 := by simp [S]
theorem S_cons (x : Int) (L : List Int) (j : Nat) : S (x :: L) (j + 1) = x + S L j := by simp [S]
theorem Nn.tail {x : Int} {L : List Int} (h : Nn (x :: L)) : Nn L := fun y hy => h y (List.mem_cons_of_mem _ hy)
theorem S_nonneg : ∀ {L : List Int}, Nn L → ∀ j, 0 ≤ S L j
  | [], _, j => by rw [S_nil]; exact Int.le_refl _
  | x :: L, h, 0 => by rw [S_zero]; exact Int.le_refl _
  | x :: L, h, j + 1 => by
    have := S_nonneg h.tail j
    have := h x (by simp)
    rw [S_cons]
    omega
theorem S_step : ∀ {L : List Int}, Nn L → ∀ j, S L j ≤ S L (j + 1)
  | [], _, j => by rw [S_nil, S_nil]; exact Int.le_refl _
  | x :: L, h, 0 => by rw [S_zero]; exact S_nonneg h 1
  | x :: L, h, j + 1 => by
    have := S_step h.tail j
    rw [S_cons, S_cons]
    omega
theorem S_mono {L : List Int} (h : Nn L) {i j : Nat} (hij : i ≤ j) : S L i ≤ S L j := by
  induction hij with
  | refl => exact Int.le_refl _
  | step _ ih => exact Int.le_trans ih (S_step h _)
theorem S_shift : ∀ {L : List Int} {b : Int}, Desc (b :: L) → Nn (b :: L) → ∀ j, S L j ≤ S (b :: L) j
  | [], b, _, h, j => by rw [S_nil]; exact S_nonneg h j
  | x :: L, b, d, h, 0 => by rw [S_zero, S_zero]; exact Int.le_refl _
  | x :: L, b, d, h, j + 1 => by
    have d' := (List.pairwise_cons.mp d)
    have := S_shift d'.2 h.tail j
    have := d'.1 x (by simp)
    rw [S_cons, S_cons]
    omega
/-- two together: the best of both, so many of each -/
def Conv (M A B : List Int) : Prop := (∀ j i, i ≤ j → S A i + S B (j - i) ≤ S M j) ∧ ∀ j, ∃ i, i ≤ j ∧ S A i + S B (j - i) = S M j
theorem Conv.swap {M A B : List Int} (h : Conv M A B) : Conv M B A := by
  refine ⟨fun j i hi => ?_, fun j => ?_⟩
  · have := h.1 j (j - i) (by omega)
    have e : j - (j - i) = i := by omega
    rw [e] at this
    omega
  · obtain ⟨i, hi, e⟩ := h.2 j
    refine ⟨j - i, by omega, ?_⟩
    have q : j - (j - i) = i := by omega
    rw [q]
    omega
theorem conv_step {m : Int} {M A B : List Int} (h : Conv M A B) (hB : Desc B) (nB : Nn B) (m0 : 0 ≤ m) (hm : ∀ b ∈ B, b ≤ m) (nM : Nn M) : Conv (m :: M) (m :: A) B := by
  refine ⟨fun j i hi => ?_, fun j => ?_⟩
  · cases j with
    | zero =>
      have : i = 0 := by omega
      subst this
      rw [S_zero, S_zero, S_zero]
      decide
    | succ j =>
      cases i with
      | succ i =>
        have := h.1 j i (by omega)
        have e : j + 1 - (i + 1) = j - i := by omega
        rw [e, S_cons, S_cons]
        omega
      | zero =>
        rw [S_zero, S_cons, Nat.sub_zero]
        have q := h.1 j 0 (by omega)
        rw [S_zero, Nat.sub_zero] at q
        cases B with
        | nil =>
          have := S_nonneg nM j
          rw [S_nil]
          omega
        | cons b B =>
          have := S_shift hB nB j
          have := hm b (by simp)
          rw [S_cons]
          omega
  · cases j with
    | zero => exact ⟨0, Nat.le_refl _, by rw [S_zero, S_zero, S_zero]; rfl⟩
    | succ j =>
      obtain ⟨i, hi, e⟩ := h.2 j
      refine ⟨i + 1, by omega, ?_⟩
      have q : j + 1 - (i + 1) = j - i := by omega
      rw [q, S_cons, S_cons]
      omega
theorem conv_perm : ∀ {M A B : List Int}, Desc M → Desc A → Desc B → Nn A → Nn B → M.Perm (A ++ B) → Conv M A B
  | [], A, B, _, _, _, _, _, p => by
    have e := p.symm.eq_nil
    rw [List.append_eq_nil_iff] at e
    rw [e.1, e.2]
    refine ⟨fun j i _ => by rw [S_nil, S_nil, S_nil]; decide, fun j => ⟨0, Nat.zero_le _, by rw [S_nil, S_nil, S_nil]; rfl⟩⟩
  | m :: M, A, B, dM, dA, dB, nA, nB, p => by
    have d' := List.pairwise_cons.mp dM
    have top : ∀ x ∈ A ++ B, x ≤ m := fun x hx => by
      rcases List.mem_cons.mp (p.mem_iff.mpr hx) with rfl | z
      · exact Int.le_refl _
      · exact d'.1 x z
    have nM : ∀ x ∈ m :: M, 0 ≤ x := fun x hx => by
      rcases List.mem_append.mp (p.mem_iff.mp hx) with z | z
      · exact nA x z
      · exact nB x z
    have m0 := nM m (by simp)
    have hm := p.mem_iff.mp (List.mem_cons_self (a := m) (l := M))
    rcases List.mem_append.mp hm with z | z
    · cases A with
      | nil => cases z
      | cons a A =>
        have e : a = m := by
          have h1 := top a (by simp)
          have h2 : m ≤ a := by
            rcases List.mem_cons.mp z with rfl | y
            · exact Int.le_refl _
            · exact (List.pairwise_cons.mp dA).1 m y
          omega
        subst e
        have p' : M.Perm (A ++ B) := List.perm_cons a |>.mp p
        exact conv_step (conv_perm d'.2 (List.pairwise_cons.mp dA).2 dB nA.tail nB p') dB nB m0 (fun b hb => top b (List.mem_append_right _ hb)) fun x hx => nM x (List.mem_cons_of_mem _ hx)
    · cases B with
      | nil => cases z
      | cons b B =>
        have e : b = m := by
          have h1 := top b (by simp)
          have h2 : m ≤ b := by
            rcases List.mem_cons.mp z with rfl | y
            · exact Int.le_refl _
            · exact (List.pairwise_cons.mp dB).1 m y
          omega
        subst e
        have p' : M.Perm (A ++ B) := by
          have := p.trans (List.perm_middle (a := b) (l₁ := A) (l₂ := B))
          exact (List.perm_cons b).mp this
        have c := (conv_perm d'.2 dA (List.pairwise_cons.mp dB).2 nA nB.tail p').swap
        exact (conv_step c dA nA m0 (fun a ha => top a (List.mem_append_left _ ha)) fun x hx => nM x (List.mem_cons_of_mem _ hx)).swap
def cutE (k : Int) : List Int → List Int
  | [] => []
  | x :: L => if x ≤ k then x :: cutE (k - x) L else if 0 < k then [k] else []
theorem S_cut : ∀ {L : List Int} {k : Int}, 0 ≤ k → Nn L → ∀ j, S (cutE k L) j = mn k (S L j)
  | [], k, h, _, j => by
    rw [show cutE k [] = [] from rfl, S_nil]
    unfold mn
    split <;> omega
  | x :: L, k, h, n, 0 => by
    rw [S_zero, S_zero]
    unfold mn
    split <;> omega
  | x :: L, k, h, n, j + 1 => by
    have x0 := n x (by simp)
    have s0 := S_nonneg n.tail j
    unfold cutE
    by_cases c : x ≤ k
    · rw [if_pos c, S_cons, S_cons, S_cut (by omega) n.tail j]
      unfold mn
      split <;> split <;> omega
    · rw [if_neg c]
      by_cases c2 : 0 < k
      · rw [if_pos c2, S_cons, S_nil, S_cons]
        unfold mn
        split <;> omega
      · rw [if_neg c2, S_nil, S_cons]
        unfold mn
        split <;> omega
theorem cut_le : ∀ {L : List Int} {k m : Int}, (∀ x ∈ L, x ≤ m) → ∀ y ∈ cutE k L, y ≤ m
  | [], k, m, _, y, hy => nomatch hy
  | x :: L, k, m, h, y, hy => by
    unfold cutE at hy
    have := h x (by simp)
    split at hy
    · rcases List.mem_cons.mp hy with rfl | hy
      · exact this
      · exact cut_le (fun z hz => h z (List.mem_cons_of_mem _ hz)) y hy
    · split at hy
      · rw [List.mem_singleton] at hy
        omega
      · cases hy
theorem S_take (L : List Int) (k j : Nat) : S (L.take k) j = S L (min j k) := by
  unfold S
  rw [List.take_take]
end P55
namespace P55
open Pv P25 P50 PySem.Spec PyProof.Rows L2
open PySem (Str)
abbrev Lot := Int × Int × Str
def E (r : List Lot) : List Int := r.flatMap fun l => List.replicate l.2.1.toNat l.1
theorem E_nil : E [] = [] := rfl
theorem E_cons (l : Lot) (r : List Lot) : E (l :: r) = List.replicate l.2.1.toNat l.1 ++ E r := rfl
theorem E_app (r s : List Lot) : E (r ++ s) = E r ++ E s := by unfold E; rw [List.flatMap_append]
/-- lots of one or more, amounts of one or more, from the greatest down -/
structure Row (r : List Lot) : Prop where
  pos : ∀ l ∈ r, 1 ≤ l.1 ∧ 1 ≤ l.2.1
  desc : r.Pairwise fun x y => y.1 ≤ x.1
theorem Row.tail {l : Lot} {r : List Lot} (h : Row (l :: r)) : Row r := ⟨fun x hx => h.pos x (List.mem_cons_of_mem _ hx), (List.pairwise_cons.mp h.desc).2⟩
theorem E_mem {r : List Lot} {x : Int} (h : x ∈ E r) : ∃ l ∈ r, l.1 = x := by
  obtain ⟨l, hl, hx⟩ := List.mem_flatMap.mp h
  exact ⟨l, hl, (List.eq_of_mem_replicate hx).symm⟩
theorem E_pos {r : List Lot} (h : Row r) : ∀ x ∈ E r, 1 ≤ x := fun x hx => by
  obtain ⟨l, hl, rfl⟩ := E_mem hx
  exact (h.pos l hl).1
theorem E_nn {r : List Lot} (h : Row r) : Nn (E r) := fun x hx => by have := E_pos h x hx; omega
theorem E_desc : ∀ {r : List Lot}, Row r → Desc (E r)
  | [], _ => List.Pairwise.nil
  | l :: r, h => by
    have d := List.pairwise_cons.mp h.desc
    rw [E_cons]
    refine List.pairwise_append.mpr ⟨?_, E_desc h.tail, fun x hx y hy => ?_⟩
    · exact List.pairwise_replicate.mpr (.inr (Int.le_refl _))
    · obtain ⟨q, hq, rfl⟩ := E_mem hy
      rw [List.eq_of_mem_replicate hx]
      exact d.1 q hq
theorem S_rep_app (n : Nat) (a : Int) (L : List Int) (j : Nat) : S (List.replicate n a ++ L) j = if j ≤ n then a * j else a * n + S L (j - n) := by
  unfold S
  rw [List.take_append, List.length_replicate, List.take_replicate, List.sum_append]
  have sr : ∀ k : Nat, (List.replicate k a).sum = a * k := fun k => by
    induction k with
    | zero => simp
    | succ k ih => rw [List.replicate_succ, List.sum_cons, ih, Int.natCast_add, Int.mul_add]; show a + a * k = a * k + a * 1; omega
  rw [sr]
  by_cases c : j ≤ n
  · rw [if_pos c, Nat.min_eq_left c]
    have e : j - n = 0 := by omega
    rw [e]
    simp
  · rw [if_neg c, Nat.min_eq_right (by omega)]
def sfC : List Lot → Int → Int → Int
  | [], t, _ => t
  | l :: r, t, k => if k ≤ l.2.1 then t + l.1 * k else sfC r (t + l.1 * l.2.1) (k - l.2.1)
theorem sf_eq : ∀ {r : List Lot} {t k : Int}, Row r → 0 ≤ k → sfC r t k = t + S (E r) k.toNat
  | [], t, k, _, _ => by rw [E_nil, S_nil]; exact (Int.add_zero t).symm
  | l :: r, t, k, h, hk => by
    have p := h.pos l (by simp)
    rw [E_cons, S_rep_app]
    unfold sfC
    by_cases c : k ≤ l.2.1
    · rw [if_pos c, if_pos (by omega)]
      have e : ((k.toNat : Nat) : Int) = k := by omega
      rw [e]
    · rw [if_neg c, if_neg (by omega), sf_eq h.tail (by omega)]
      have e : ((l.2.1.toNat : Nat) : Int) = l.2.1 := by omega
      have e2 : (k - l.2.1).toNat = k.toNat - l.2.1.toNat := by omega
      rw [e, e2]
      omega
def outC (row : List Lot) : List Lot → Int → Int → Bool
  | [], _, _ => true
  | l :: o, c, t => if sfC row 0 (c + l.2.1) < t + l.1 * l.2.1 then false else outC row o (c + l.2.1) (t + l.1 * l.2.1)
/-- from one place to a later one, at numbers that don't rise -/
theorem S_inc : ∀ {L : List Int} {a : Int} (c m : Nat), Desc L → Nn L → 0 ≤ a → (m = 0 ∨ a ≤ L.getD (c + m - 1) 0) → S L c + a * m ≤ S L (c + m)
  | L, a, c, 0, _, _, _, _ => by simp
  | L, a, c, m + 1, d, n, a0, h => by
    have h := h.resolve_left (by omega)
    have e : c + (m + 1) - 1 = c + m := by omega
    rw [e] at h
    have st : S L (c + m + 1) = S L (c + m) + L.getD (c + m) 0 := by
      unfold S
      rw [List.take_add_one, List.sum_append, List.getD_eq_getElem?_getD]
      cases L[c + m]? with
      | none => simp
      | some x => simp
    have up : L.getD (c + m) 0 ≤ L.getD (c + m - 1) 0 ∨ m = 0 := by
      by_cases z : m = 0
      · exact .inr z
      · refine .inl ?_
        rw [List.getD_eq_getElem?_getD, List.getD_eq_getElem?_getD]
        by_cases q : c + m < L.length
        · have q1 : c + m - 1 < L.length := by omega
          rw [List.getElem?_eq_getElem q, List.getElem?_eq_getElem q1]
          exact (List.pairwise_iff_getElem.mp d) (c + m - 1) (c + m) q1 q (by omega)
        · rw [List.getElem?_eq_none (by omega)]
          by_cases q1 : c + m - 1 < L.length
          · rw [List.getElem?_eq_getElem q1]
            exact n _ (List.getElem_mem q1)
          · rw [List.getElem?_eq_none (by omega)]
            exact Int.le_refl _
    have ih := S_inc (L := L) (a := a) c m d n a0 (by rcases up with u | u; exact .inr (Int.le_trans h u); exact .inl u)
    rw [← Nat.add_assoc, st]
    have : a * ((m + 1 : Nat) : Int) = a * m + a := by rw [Int.natCast_add, Int.mul_add]; show a * m + a * 1 = _; omega
    omega
theorem S_dec : ∀ {L : List Int} {a : Int} (c m : Nat), Desc L → Nn L → 0 ≤ a → L.getD c 0 ≤ a → S L (c + m) ≤ S L c + a * m
  | L, a, c, 0, _, _, _, _ => by simp
  | L, a, c, m + 1, d, n, a0, h => by
    have ih := S_dec (L := L) (a := a) c m d n a0 h
    have st : S L (c + m + 1) = S L (c + m) + L.getD (c + m) 0 := by
      unfold S
      rw [List.take_add_one, List.sum_append, List.getD_eq_getElem?_getD]
      cases L[c + m]? with
      | none => simp
      | some x => simp
    have lo : L.getD (c + m) 0 ≤ a := by
      by_cases z : m = 0
      · subst z; exact h
      · rw [List.getD_eq_getElem?_getD] at h ⊢
        by_cases q : c + m < L.length
        · have q1 : c < L.length := by omega
          rw [List.getElem?_eq_getElem q1] at h
          rw [List.getElem?_eq_getElem q]
          have := (List.pairwise_iff_getElem.mp d) c (c + m) q1 q (by omega)
          exact Int.le_trans this h
        · rw [List.getElem?_eq_none (by omega)]
          exact a0
    rw [← Nat.add_assoc, st]
    have : a * ((m + 1 : Nat) : Int) = a * m + a := by rw [Int.natCast_add, Int.mul_add]; show a * m + a * 1 = _; omega
    omega
/-- what lies between two places where L is no less is no less -/
theorem between {L : List Int} {a T : Int} {c n m : Nat} (d : Desc L) (nn : Nn L) (a0 : 0 ≤ a) (h1 : T ≤ S L c) (h2 : T + a * n ≤ S L (c + n)) (hm : m ≤ n) : T + a * m ≤ S L (c + m) := by
  by_cases q : m = 0 ∨ a ≤ L.getD (c + m - 1) 0
  · have := S_inc (L := L) (a := a) c m d nn a0 q
    omega
  · obtain ⟨q1, q2⟩ := not_or.mp q
    have lo : L.getD (c + m) 0 ≤ a := by
      rw [List.getD_eq_getElem?_getD] at q2 ⊢
      by_cases z : c + m < L.length
      · have z1 : c + m - 1 < L.length := by omega
        rw [List.getElem?_eq_getElem z1] at q2
        rw [List.getElem?_eq_getElem z]
        have := (List.pairwise_iff_getElem.mp d) (c + m - 1) (c + m) z1 z (by omega)
        have q2 : ¬ a ≤ L[c + m - 1] := q2
        show L[c + m] ≤ a
        omega
      · rw [List.getElem?_eq_none (by omega)]
        exact a0
    have := S_dec (L := L) (a := a) (c + m) (n - m) d nn a0 lo
    have e : c + m + (n - m) = c + n := by omega
    rw [e] at this
    have e2 : a * ((n - m : Nat) : Int) = a * n - a * m := by rw [Int.ofNat_sub hm, Int.mul_sub]
    omega
theorem out_dom {row : List Lot} (hr : Row row) : ∀ {o : List Lot} {c t : Int}, (∀ l ∈ o, 1 ≤ l.1 ∧ 1 ≤ l.2.1) → 0 ≤ c → t ≤ S (E row) c.toNat → outC row o c t = true → ∀ j, t + S (E o) j ≤ S (E row) (c.toNat + j)
  | [], c, t, _, _, h, _, j => by
    rw [E_nil, S_nil, Int.add_zero]
    exact Int.le_trans h (S_mono (E_nn hr) (by omega))
  | l :: o, c, t, ho, hc, h, ht, j => by
    have p := ho l (by simp)
    unfold outC at ht
    split at ht
    · cases ht
    · rename_i q
      rw [sf_eq hr (by omega)] at q
      have e : (c + l.2.1).toNat = c.toNat + l.2.1.toNat := by omega
      have e3 : ((l.2.1.toNat : Nat) : Int) = l.2.1 := by omega
      have q2 : t + l.1 * l.2.1 ≤ S (E row) (c.toNat + l.2.1.toNat) := by rw [← e]; omega
      rw [E_cons, S_rep_app]
      by_cases k : j ≤ l.2.1.toNat
      · rw [if_pos k]
        exact between (E_desc hr) (E_nn hr) (by omega) h (by rw [e3]; exact q2) k
      · rw [if_neg k, e3]
        have ih := out_dom hr (o := o) (c := c + l.2.1) (t := t + l.1 * l.2.1) (fun x hx => ho x (List.mem_cons_of_mem _ hx)) (by omega) (by rw [e]; exact q2) ht (j - l.2.1.toNat)
        have e2 : (c + l.2.1).toNat + (j - l.2.1.toNat) = c.toNat + j := by omega
        rw [e2] at ih
        omega
theorem out_row {row o : List Lot} (hr : Row row) (ho : Row o) (h : outC row o 0 0 = true) (j : Nat) : S (E o) j ≤ S (E row) j := by
  have := out_dom hr (o := o) (c := 0) (t := 0) ho.pos (Int.le_refl _) (by rw [show (0 : Int).toNat = 0 from rfl, S_zero]; exact Int.le_refl _) h j
  simpa using this
def csC : List Lot → Int → List Lot
  | [], _ => []
  | l :: r, k => (if 0 < mn l.2.1 (k / l.1) then [(l.1, mn l.2.1 (k / l.1), l.2.2)] else []) ++
      if mn l.2.1 (k / l.1) < l.2.1 then (if 0 < k - l.1 * mn l.2.1 (k / l.1) then [(k - l.1 * mn l.2.1 (k / l.1), 1, l.2.2)] else []) else csC r (k - l.1 * mn l.2.1 (k / l.1))
theorem cut_rep : ∀ (n : Nat) {a k : Int} (L : List Int), 1 ≤ a → 0 ≤ k → cutE k (List.replicate n a ++ L) = List.replicate (mn n (k / a)).toNat a ++ (if mn n (k / a) < n then (if 0 < k - a * mn n (k / a) then [k - a * mn n (k / a)] else []) else cutE (k - a * mn n (k / a)) L)
  | 0, a, k, L, ha, hk => by
    have q0 : 0 ≤ k / a := Int.ediv_nonneg hk (by omega)
    have e : mn ((0 : Nat) : Int) (k / a) = 0 := by unfold mn; split <;> omega
    rw [e]
    simp
  | n + 1, a, k, L, ha, hk => by
    have q0 : 0 ≤ k / a := Int.ediv_nonneg hk (by omega)
    rw [List.replicate_succ, List.cons_append]
    show (if a ≤ k then a :: cutE (k - a) (List.replicate n a ++ L) else if 0 < k then [k] else []) = _
    by_cases c : a ≤ k
    · have q1 : (k - a) / a = k / a - 1 := by
        have := Int.sub_mul_ediv_right k 1 (show a ≠ 0 by omega)
        rw [Int.one_mul] at this
        exact this
      have e : mn ((n + 1 : Nat) : Int) (k / a) = mn (n : Int) ((k - a) / a) + 1 := by rw [q1]; unfold mn; split <;> split <;> omega
      have m0 : 0 ≤ mn (n : Int) ((k - a) / a) := mn_pos (by omega) (Int.ediv_nonneg (by omega) (by omega))
      have e2 : k - a * (mn (n : Int) ((k - a) / a) + 1) = k - a - a * mn (n : Int) ((k - a) / a) := by rw [Int.mul_add]; omega
      have e4 : (mn (n : Int) ((k - a) / a) + 1).toNat = (mn (n : Int) ((k - a) / a)).toNat + 1 := by omega
      rw [if_pos c, cut_rep n L ha (by omega), e, e2, e4, List.replicate_succ, List.cons_append]
      by_cases d : mn (n : Int) ((k - a) / a) < n
      · rw [if_pos d, if_pos (show mn (n : Int) ((k - a) / a) + 1 < ((n + 1 : Nat) : Int) by omega)]
      · rw [if_neg d, if_neg (show ¬ mn (n : Int) ((k - a) / a) + 1 < ((n + 1 : Nat) : Int) by omega)]
    · have z : k / a = 0 := Int.ediv_eq_zero_of_lt hk (by omega)
      have e : mn ((n + 1 : Nat) : Int) (k / a) = 0 := by rw [z]; unfold mn; split <;> omega
      rw [if_neg c, e, if_pos (show (0 : Int) < ((n + 1 : Nat) : Int) by omega), Int.mul_zero, Int.sub_zero]
      simp
theorem E_cut : ∀ {r : List Lot} {k : Int}, (∀ l ∈ r, 1 ≤ l.1 ∧ 1 ≤ l.2.1) → 0 ≤ k → E (csC r k) = cutE k (E r)
  | [], k, _, _ => rfl
  | l :: r, k, h, hk => by
    have p := h l (by simp)
    have q0 : 0 ≤ k / l.1 := Int.ediv_nonneg hk (by omega)
    have e3 : ((l.2.1.toNat : Nat) : Int) = l.2.1 := by omega
    have cr := cut_rep l.2.1.toNat (a := l.1) (k := k) (E r) p.1 hk
    rw [e3] at cr
    have f0 : 0 ≤ mn l.2.1 (k / l.1) := mn_pos (by omega) q0
    have le : l.1 * mn l.2.1 (k / l.1) ≤ k := by
      have h1 : mn l.2.1 (k / l.1) ≤ k / l.1 := mn_le_r _ _
      have h2 : l.1 * mn l.2.1 (k / l.1) ≤ l.1 * (k / l.1) := Int.mul_le_mul_of_nonneg_left h1 (by omega)
      have h3 := Int.mul_ediv_self_le (x := k) (k := l.1) (by omega)
      omega
    rw [E_cons, cr]
    unfold csC
    rw [E_app]
    congr 1
    · by_cases c : 0 < mn l.2.1 (k / l.1)
      · rw [if_pos c]
        simp [E]
      · have : mn l.2.1 (k / l.1) = 0 := by omega
        rw [if_neg c, this]
        rfl
    · by_cases c : mn l.2.1 (k / l.1) < l.2.1
      · rw [if_pos c, if_pos c]
        by_cases d : 0 < k - l.1 * mn l.2.1 (k / l.1)
        · rw [if_pos d, if_pos d]
          simp [E]
        · rw [if_neg d, if_neg d]
          rfl
      · rw [if_neg c, if_neg c]
        exact E_cut (fun x hx => h x (List.mem_cons_of_mem _ hx)) (by omega)
def ccC : List Lot → Int → List Lot
  | [], _ => []
  | l :: r, k => (if 0 < mn l.2.1 k then [(l.1, mn l.2.1 k, l.2.2)] else []) ++ ccC r (k - mn l.2.1 k)
theorem E_count : ∀ {r : List Lot} {k : Int}, (∀ l ∈ r, 1 ≤ l.1 ∧ 1 ≤ l.2.1) → 0 ≤ k → E (ccC r k) = (E r).take k.toNat
  | [], k, _, _ => by rw [E_nil, List.take_nil]; rfl
  | l :: r, k, h, hk => by
    have p := h l (by simp)
    have f0 : 0 ≤ mn l.2.1 k := mn_pos (by omega) hk
    have f1 : mn l.2.1 k ≤ k := mn_le_r _ _
    unfold ccC
    rw [E_app, E_cons, List.take_append, List.length_replicate, List.take_replicate, E_count (fun x hx => h x (List.mem_cons_of_mem _ hx)) (by omega)]
    congr 1
    · have e : min k.toNat l.2.1.toNat = (mn l.2.1 k).toNat := by unfold mn; split <;> omega
      rw [e]
      by_cases c : 0 < mn l.2.1 k
      · rw [if_pos c]
        simp [E]
      · have : mn l.2.1 k = 0 := by omega
        rw [if_neg c, this]
        rfl
    · congr 1
      unfold mn
      split <;> omega
end P55
namespace P55
open Pv P25 P50 PySem.Spec PyProof.Rows L2
open PySem (Str)
abbrev RowL := List Lot
/-- the greatest that some row's first j come to -/
def IsMax (rs : List RowL) (j : Nat) (v : Int) : Prop := (∀ r ∈ rs, S (E r) j ≤ v) ∧ ∃ r ∈ rs, S (E r) j = v
/-- one row after another one: kept where none that is kept outdoes it -/
def noC : List RowL → List RowL → List RowL
  | [], kept => kept
  | row :: rs, kept => noC rs (if kept.any (fun o => outC o row 0 0) = true then kept else kept.filter (fun o => !outC row o 0 0) ++ [row])
theorem out_nil (o : RowL) : outC o [] 0 0 = true := rfl
theorem no_mem : ∀ {rs kept : List RowL}, ∀ r ∈ noC rs kept, r ∈ kept ∨ r ∈ rs
  | [], kept, r, h => .inl h
  | row :: rs, kept, r, h => by
    rcases no_mem (rs := rs) r h with z | z
    · split at z
      · exact .inl z
      · rcases List.mem_append.mp z with z | z
        · exact .inl (List.mem_filter.mp z).1
        · rw [List.mem_singleton] at z
          exact .inr (by rw [z]; simp)
    · exact .inr (List.mem_cons_of_mem _ z)
theorem no_dom : ∀ {rs kept : List RowL}, (∀ r ∈ kept, Row r) → (∀ r ∈ rs, Row r) → ∀ r, (r ∈ kept ∨ r ∈ rs) → ∃ o ∈ noC rs kept, ∀ j, S (E r) j ≤ S (E o) j
  | [], kept, _, _, r, h => ⟨r, h.resolve_right (fun z => nomatch z), fun j => Int.le_refl _⟩
  | row :: rs, kept, hk, hr, r, h => by
    have hrow := hr row (by simp)
    have hrs : ∀ r ∈ rs, Row r := fun x hx => hr x (List.mem_cons_of_mem _ hx)
    show ∃ o ∈ noC rs (if kept.any (fun o => outC o row 0 0) = true then kept else kept.filter (fun o => !outC row o 0 0) ++ [row]), ∀ j, S (E r) j ≤ S (E o) j
    by_cases c : kept.any (fun o => outC o row 0 0) = true
    · rw [if_pos c]
      rcases h with h | h
      · exact no_dom hk hrs r (.inl h)
      · rcases List.mem_cons.mp h with rfl | h
        · obtain ⟨o, ho, q⟩ := List.any_eq_true.mp c
          obtain ⟨z, hz, w⟩ := no_dom hk hrs o (.inl ho)
          exact ⟨z, hz, fun j => Int.le_trans (out_row (hk o ho) hrow q j) (w j)⟩
        · exact no_dom hk hrs r (.inr h)
    · rw [if_neg c]
      have hk' : ∀ x ∈ kept.filter (fun o => !outC row o 0 0) ++ [row], Row x := fun x hx => by
        rcases List.mem_append.mp hx with z | z
        · exact hk x (List.mem_filter.mp z).1
        · rw [List.mem_singleton] at z; rw [z]; exact hrow
      rcases h with h | h
      · by_cases q : outC row r 0 0 = true
        · obtain ⟨z, hz, w⟩ := no_dom hk' hrs row (.inl (by simp))
          exact ⟨z, hz, fun j => Int.le_trans (out_row hrow (hk r h) q j) (w j)⟩
        · exact no_dom hk' hrs r (.inl (List.mem_append_left _ (List.mem_filter.mpr ⟨h, by simpa using q⟩)))
      · rcases List.mem_cons.mp h with rfl | h
        · exact no_dom hk' hrs r (.inl (by simp))
        · exact no_dom hk' hrs r (.inr h)
def ne (rs : List RowL) : Nat := (rs.filter fun r => !r.isEmpty).length
theorem ne_nil : ne [] = 0 := rfl
theorem ne_cons (r : RowL) (rs : List RowL) : ne (r :: rs) = (if r.isEmpty then 0 else 1) + ne rs := by
  unfold ne
  rw [List.filter_cons]
  cases r.isEmpty <;> simp [Nat.add_comm]
theorem ne_app (a b : List RowL) : ne (a ++ b) = ne a + ne b := by
  unfold ne
  rw [List.filter_append, List.length_append]
theorem ne_le (rs : List RowL) : ne rs ≤ rs.length := List.length_filter_le _ _
theorem ne_filter (p : RowL → Bool) (rs : List RowL) : ne (rs.filter p) ≤ ne rs := by
  unfold ne
  exact (List.filter_sublist.filter _).length_le
/-- how many rows there are at most -/
def Cnt (N : Nat) (rs : List RowL) : Prop := ne rs + 1 ≤ N ∧ rs.length ≤ ne rs + 1
theorem no_cnt : ∀ {rs kept : List RowL}, kept ≠ [] → kept.length ≤ ne kept + 1 → (noC rs kept).length ≤ ne (noC rs kept) + 1 ∧ ne (noC rs kept) ≤ ne kept + ne rs
  | [], kept, _, h => ⟨h, by rw [ne_nil]; exact Nat.le_refl _⟩
  | row :: rs, kept, h0, h => by
    obtain ⟨F, hF⟩ : ∃ F : List RowL, kept.filter (fun o => !outC row o 0 0) = F := ⟨_, rfl⟩
    have e0 : noC (row :: rs) kept = noC rs (if kept.any (fun o => outC o row 0 0) = true then kept else kept.filter (fun o => !outC row o 0 0) ++ [row]) := rfl
    rw [e0, ne_cons, hF]
    by_cases c : kept.any (fun o => outC o row 0 0) = true
    · rw [if_pos c]
      have := no_cnt (rs := rs) h0 h
      exact ⟨this.1, by omega⟩
    · rw [if_neg c]
      have nr : row.isEmpty = false := by
        cases row with
        | nil =>
          exfalso
          apply c
          obtain ⟨k, ks, rfl⟩ := List.exists_cons_of_ne_nil h0
          rw [List.any_cons, out_nil]
          rfl
        | cons _ _ => rfl
      have n1 : ne [row] = 1 := by rw [ne_cons, nr, ne_nil]; rfl
      have fe : F.length ≤ ne F + 1 := by
        -- as many that are empty as before, at most
        have key : ∀ ks : List RowL, ks.length - ne ks ≤ 1 → ∀ p : RowL → Bool, (ks.filter p).length ≤ ne (ks.filter p) + 1 := by
          intro ks
          induction ks with
          | nil => intro _ p; simp
          | cons k ks ih =>
            intro hk p
            have l1 := ne_le ks
            rw [ne_cons, List.length_cons] at hk
            rw [List.filter_cons]
            cases he : k.isEmpty with
            | true =>
              rw [he, if_pos rfl] at hk
              -- the others are none of them empty
              have all : ks.length = ne ks := by omega
              have f2 : ∀ q : List RowL, q.Sublist ks → q.length = ne q := by
                intro q hq
                unfold ne at all ⊢
                have h1 : ∀ r ∈ ks, (!r.isEmpty) = true := List.length_filter_eq_length_iff.mp all.symm
                exact (List.length_filter_eq_length_iff.mpr fun r hr => h1 r (hq.subset hr)).symm
              have := f2 (ks.filter p) List.filter_sublist
              split
              · rw [List.length_cons, ne_cons, he, if_pos rfl]
                omega
              · omega
            | false =>
              rw [he, if_neg (by decide)] at hk
              have := ih (by omega) p
              split
              · rw [List.length_cons, ne_cons, he, if_neg (by decide)]
                omega
              · exact this
        rw [← hF]
        exact key kept (by omega) _
      have fl := ne_filter (fun o => !outC row o 0 0) kept
      rw [hF] at fl
      have := no_cnt (rs := rs) (kept := F ++ [row]) (by simp) (by rw [List.length_append, ne_app, n1]; show F.length + 1 ≤ _; omega)
      rw [ne_app, n1] at this
      rw [nr, if_neg (by decide)]
      exact ⟨this.1, by omega⟩
theorem cnt_no {rs : List RowL} {N : Nat} (h : ne rs + 1 ≤ N) : Cnt N (noC rs [[]]) := by
  have := no_cnt (rs := rs) (kept := [[]]) (by simp) (by decide)
  have n0 : ne [([] : RowL)] = 0 := rfl
  rw [n0] at this
  exact ⟨by omega, this.1⟩
def comb (f : RowL → RowL) (a b : List RowL) : List RowL := a.flatMap fun r => b.map fun o => f (r ++ o)
theorem cnt_comb {f : RowL → RowL} (hf : ∀ r, (f r).length = r.length) : ∀ {a b : List RowL}, (comb f a b).length = a.length * b.length ∧ ne (comb f a b) + (a.length - ne a) * (b.length - ne b) = a.length * b.length
  | [], b => by simp [comb, ne_nil]
  | r :: a, b => by
    have ih := cnt_comb hf (a := a) (b := b)
    have e : comb f (r :: a) b = (b.map fun o => f (r ++ o)) ++ comb f a b := rfl
    have la := ne_le a
    have lb := ne_le b
    have n1 : ne (b.map fun o => f (r ++ o)) = if r.isEmpty then ne b else b.length := by
      have em : ∀ o, (f (r ++ o)).isEmpty = (r.isEmpty && o.isEmpty) := fun o => by
        have h1 := hf (r ++ o)
        cases hfo : f (r ++ o) with
        | nil =>
          rw [hfo] at h1
          have : r ++ o = [] := List.eq_nil_of_length_eq_zero h1.symm
          rw [List.append_eq_nil_iff] at this
          rw [this.1, this.2]
          rfl
        | cons x xs =>
          rw [hfo] at h1
          cases r with
          | cons _ _ => rfl
          | nil => cases o with
            | cons _ _ => rfl
            | nil => cases h1
      unfold ne
      rw [List.filter_map, List.length_map]
      cases he : r.isEmpty with
      | true =>
        rw [if_pos rfl]
        congr 1
        refine List.filter_congr fun o _ => ?_
        show (!(f (r ++ o)).isEmpty) = !o.isEmpty
        rw [em, he, Bool.true_and]
      | false =>
        rw [if_neg (by decide)]
        refine List.length_filter_eq_length_iff.mpr fun o _ => ?_
        show (!(f (r ++ o)).isEmpty) = true
        rw [em, he]
        rfl
    rw [e, List.length_append, ne_app, List.length_map, n1, ih.1, ne_cons, List.length_cons]
    refine ⟨by rw [Nat.add_mul]; omega, ?_⟩
    cases he : r.isEmpty with
    | true =>
      rw [if_pos rfl, if_pos rfl]
      have e2 : a.length + 1 - (0 + ne a) = (a.length - ne a) + 1 := by omega
      rw [e2, Nat.add_mul, Nat.add_mul]
      omega
    | false =>
      rw [if_neg (by decide), if_neg (by decide)]
      have e2 : a.length + 1 - (1 + ne a) = a.length - ne a := by omega
      rw [e2, Nat.add_mul]
      omega
theorem Cnt.comb {f : RowL → RowL} (hf : ∀ r, (f r).length = r.length) {a b : List RowL} {N M : Nat} (ha : Cnt N a) (hb : Cnt M b) : Cnt (N * M) (P55.comb f a b) := by
  obtain ⟨h1, h2⟩ := cnt_comb hf (a := a) (b := b)
  obtain ⟨a1, a2⟩ := ha
  obtain ⟨b1, b2⟩ := hb
  have la := ne_le a
  have lb := ne_le b
  have lN : a.length ≤ N := by omega
  have lM : b.length ≤ M := by omega
  have pm : a.length * b.length ≤ N * M := Nat.mul_le_mul lN lM
  have c1 : a.length - ne a = 0 ∨ a.length - ne a = 1 := by omega
  have c2 : b.length - ne b = 0 ∨ b.length - ne b = 1 := by omega
  have strictA : a.length - ne a = 0 → a.length * b.length + 1 ≤ N * M := fun z => by
    have l : a.length + 1 ≤ N := by omega
    have m1 : 1 ≤ M := by omega
    have : (a.length + 1) * M ≤ N * M := Nat.mul_le_mul l (Nat.le_refl _)
    have q : a.length * b.length ≤ a.length * M := Nat.mul_le_mul (Nat.le_refl _) lM
    rw [Nat.add_mul] at this
    omega
  have strictB : b.length - ne b = 0 → a.length * b.length + 1 ≤ N * M := fun z => by
    have l : b.length + 1 ≤ M := by omega
    have m1 : 1 ≤ N := by omega
    have : N * (b.length + 1) ≤ N * M := Nat.mul_le_mul (Nat.le_refl _) l
    have q : a.length * b.length ≤ N * b.length := Nat.mul_le_mul lN (Nat.le_refl _)
    rw [Nat.mul_add] at this
    omega
  refine ⟨?_, ?_⟩
  · rcases c1 with z | z
    · have := strictA z
      rw [z] at h2
      omega
    · rcases c2 with y | y
      · have := strictB y
        rw [y] at h2
        omega
      · rw [z, y] at h2
        omega
  · rcases c1 with z | z <;> rcases c2 with y | y <;> rw [z, y] at h2 <;> omega
theorem cnt_pow : ∀ (ns : List Nat), 1 + (ns.map fun n => 2 ^ n - 1).sum ≤ 2 ^ ns.sum
  | [] => by decide
  | n :: ns => by
    have ih := cnt_pow ns
    have p1 : 1 ≤ 2 ^ n := Nat.one_le_two_pow
    have p2 : 1 ≤ 2 ^ ns.sum := Nat.one_le_two_pow
    have e : 2 ^ (n :: ns).sum = 2 ^ n * 2 ^ ns.sum := by rw [List.sum_cons, Nat.pow_add]
    rw [e, List.map_cons, List.sum_cons]
    generalize (ns.map fun n => 2 ^ n - 1).sum = s at ih
    have : (2 ^ n - 1) * 1 ≤ (2 ^ n - 1) * 2 ^ ns.sum := Nat.mul_le_mul (Nat.le_refl _) p2
    have q : 2 ^ n * 2 ^ ns.sum = (2 ^ n - 1) * 2 ^ ns.sum + 2 ^ ns.sum := by
      rw [Nat.sub_mul, Nat.one_mul]
      have : 2 ^ ns.sum ≤ 2 ^ n * 2 ^ ns.sum := Nat.le_mul_of_pos_left _ (by omega)
      omega
    omega
end P55
namespace P50
open Pv P25
end P50
namespace P50
open Pv P25
structure Bnd (B : Beh) (c : Int) : Prop where
  top : ∀ b, Pos b → B.top b ≤ c
  row : ∀ b m j, Pos b → at_ (B.row b m) j ≤ c
theorem Bnd.more {B : Beh} {c c' : Int} (h : Bnd B c) (hc : c ≤ c') : Bnd B c' := ⟨fun b hb => Int.le_trans (h.top b hb) hc, fun b m j hb => Int.le_trans (h.row b m j hb) hc⟩
theorem bnd_none {c : Int} (hc : 0 ≤ c) : Bnd ⟨0, fun _ m => zeroR m, fun _ => 0⟩ c := ⟨fun _ _ => hc, fun _ m j _ => by show at_ (zeroR m) j ≤ c; rw [at_zero]; exact hc⟩
theorem cut_le {b : Option Int} {a : Int} : cutA b a ≤ a := by
  unfold cutA
  cases b with
  | none => exact Int.le_refl _
  | some w => exact mn_le_l _ _
theorem bnd_call {a t c : Int} (ha : 0 ≤ a) (ht : 0 ≤ t) (hc : t * a ≤ c) : Bnd ⟨t, fun b m => (List.range (m + 1)).map fun j : Nat => mn t (j : Int) * cutA b a, fun b => t * cutA b a⟩ c := by
  have c0 : 0 ≤ c := Int.le_trans (Int.mul_nonneg ht ha) hc
  refine ⟨fun b hb => Int.le_trans (Int.mul_le_mul_of_nonneg_left cut_le ht) hc, fun b m j hb => ?_⟩
  show at_ ((List.range (m + 1)).map fun j : Nat => mn t (j : Int) * cutA b a) j ≤ c
  rw [at_map]
  split
  · have h1 : mn t (j : Int) ≤ t := mn_le_l _ _
    have h2 := Int.mul_le_mul_of_nonneg_right h1 (cut0 hb ha)
    have h3 := Int.mul_le_mul_of_nonneg_left (cut_le (b := b) (a := a)) ht
    omega
  · exact c0
theorem bnd_within {k c : Int} {B : Beh} (hk : 0 ≤ k) (g : Good B) (h : Bnd B c) : Bnd ⟨mn k B.len, fun b m => (B.row b m).map (mn k), fun b => mn k (B.top b)⟩ c := by
  refine ⟨fun b hb => Int.le_trans (mn_le_r _ _) (h.top b hb), fun b m j hb => ?_⟩
  show at_ ((B.row b m).map (mn k)) j ≤ c
  rw [at_mn hk]
  split
  · exact Int.le_trans (mn_le_r _ _) (h.row b m j hb)
  · exact Int.le_trans (g.row0 b m hb j) (h.row b m j hb)
theorem bnd_calls {k c : Int} {B : Beh} (g : Good B) (h : Bnd B c) : Bnd ⟨mn k B.len, fun b m => (List.range (m + 1)).map fun j : Nat => at_ (B.row b m) (mn (j : Int) k).toNat, fun b => at_ (B.row b (mn k B.len).toNat) (mn k B.len).toNat⟩ c := by
  refine ⟨fun b hb => h.row b _ _ hb, fun b m j hb => ?_⟩
  show at_ ((List.range (m + 1)).map fun j : Nat => at_ (B.row b m) (mn (j : Int) k).toNat) j ≤ c
  rw [at_map]
  split
  · exact h.row b m _ hb
  · exact Int.le_trans (g.row0 b m hb 0) (h.row b m 0 hb)
theorem conv_bnd {m : Nat} {r s : List Int} {c c' : Int} (hc : 0 ≤ c + c') (h : ∀ j, at_ r j ≤ c) (h' : ∀ j, at_ s j ≤ c') (j : Nat) : at_ (convR m r s) j ≤ c + c' := by
  rw [conv_at]
  split
  · refine mxL_le _ _ _ (by have := h 0; have := h' j; omega) fun x hx => ?_
    obtain ⟨i, _, rfl⟩ := List.mem_map.mp hx
    have := h (i + 1); have := h' (j - (i + 1)); omega
  · exact hc
theorem max_bnd {r s : List Int} (hl : r.length = s.length) {c c' : Int} (hc : 0 ≤ c) (hc' : 0 ≤ c') (h : ∀ j, at_ r j ≤ c) (h' : ∀ j, at_ s j ≤ c') (j : Nat) : at_ (maxR r s) j ≤ c + c' := by
  rw [max_at hl]
  have := h j
  have := h' j
  split <;> omega
/-- parts, each with what bounds it -/
def BndAll : List Beh → Int → Prop
  | [], c => 0 ≤ c
  | B :: Bs, c => ∃ c1 c2, 0 ≤ c1 ∧ Bnd B c1 ∧ BndAll Bs c2 ∧ c1 + c2 ≤ c
theorem sum_bnd (b : Option Int) (hb : Pos b) : ∀ {Bs : List Beh} {c : Int}, BndAll Bs c → (Bs.map fun B => B.top b).sum ≤ c
  | [], _, h => h
  | B :: Bs, c, ⟨c1, c2, _, h1, h2, h3⟩ => by
    have := sum_bnd b hb h2
    have := h1.top b hb
    rw [List.map_cons, List.sum_cons]
    omega
theorem mxL_bnd (b : Option Int) (hb : Pos b) : ∀ {Bs : List Beh} {c m : Int}, BndAll Bs c → 0 ≤ m → mxL m (Bs.map fun B => B.top b) ≤ m + c
  | [], c, m, h, _ => by show m ≤ m + c; have : 0 ≤ c := h; omega
  | B :: Bs, c, m, ⟨c1, c2, h0, h1, h2, h3⟩, hm => by
    have ht := h1.top b hb
    have a := mxL_bnd b hb (m := if m < B.top b then B.top b else m) h2 (by split <;> omega)
    show mxL (if m < B.top b then B.top b else m) (Bs.map fun B => B.top b) ≤ m + c
    split at a
    · rename_i q; rw [if_pos q]; omega
    · rename_i q; rw [if_neg q]; omega
theorem foldc_bnd (b : Option Int) (hb : Pos b) (m : Nat) : ∀ (Bs : List Beh) (r : List Int) (c c0 : Int), BndAll Bs c → 0 ≤ c0 → (∀ j, at_ r j ≤ c0) → ∀ j, at_ (Bs.foldl (fun r B => convR m r (B.row b m)) r) j ≤ c0 + c
  | [], r, c, c0, h, _, hr => fun j => by have := hr j; have : 0 ≤ c := h; show at_ r j ≤ c0 + c; omega
  | B :: Bs, r, c, c0, ⟨c1, c2, h0, h1, h2, h3⟩, hc, hr => fun j => by
    have := foldc_bnd b hb m Bs (convR m r (B.row b m)) c2 (c0 + c1) h2 (by omega) (conv_bnd (by omega) hr fun j => h1.row b m j hb) j
    show at_ (Bs.foldl (fun r B => convR m r (B.row b m)) (convR m r (B.row b m))) j ≤ c0 + c
    omega
theorem foldm_bnd (b : Option Int) (hb : Pos b) (m : Nat) : ∀ (Bs : List Beh) (r : List Int) (c c0 : Int), (∀ B ∈ Bs, Good B) → r.length = m + 1 → BndAll Bs c → 0 ≤ c0 → (∀ j, at_ r j ≤ c0) → ∀ j, at_ (Bs.foldl (fun r B => maxR r (B.row b m)) r) j ≤ c0 + c
  | [], r, c, c0, _, _, h, _, hr => fun j => by have := hr j; have : 0 ≤ c := h; show at_ r j ≤ c0 + c; omega
  | B :: Bs, r, c, c0, g, hl, ⟨c1, c2, h0, h1, h2, h3⟩, hc, hr => fun j => by
    have lB := (g B (by simp)).rlen b m
    have := foldm_bnd b hb m Bs (maxR r (B.row b m)) c2 (c0 + c1) (fun C hC => g C (by simp [hC])) (by rw [max_len (by omega)]; exact hl) h2 (by omega) (max_bnd (by omega) hc h0 hr fun j => h1.row b m j hb) j
    show at_ (Bs.foldl (fun r B => maxR r (B.row b m)) (maxR r (B.row b m))) j ≤ c0 + c
    omega
theorem bnd_all {Bs : List Beh} {c : Int} (h : BndAll Bs c) : Bnd ⟨(Bs.map Beh.len).sum, fun b m => Bs.foldl (fun r B' => convR m r (B'.row b m)) (zeroR m), fun b => (Bs.map fun B' => B'.top b).sum⟩ c :=
  ⟨fun b hb => sum_bnd b hb h, fun b m j hb => by
    have := foldc_bnd b hb m Bs (zeroR m) c 0 h (Int.le_refl _) (fun j => by rw [at_zero]; exact Int.le_refl _) j
    show at_ (Bs.foldl (fun r B' => convR m r (B'.row b m)) (zeroR m)) j ≤ c
    omega⟩
theorem bnd_one {Bs : List Beh} {c : Int} (g : ∀ B ∈ Bs, Good B) (h : BndAll Bs c) : Bnd ⟨mxL 0 (Bs.map Beh.len), fun b m => Bs.foldl (fun r B' => maxR r (B'.row b m)) (zeroR m), fun b => mxL 0 (Bs.map fun B' => B'.top b)⟩ c :=
  ⟨fun b hb => by have := mxL_bnd b hb (m := 0) h (Int.le_refl _); show mxL 0 (Bs.map fun B' => B'.top b) ≤ c; omega, fun b m j hb => by
    have := foldm_bnd b hb m Bs (zeroR m) c 0 g (by simp [zeroR]) h (Int.le_refl _) (fun j => by rw [at_zero]; exact Int.le_refl _) j
    show at_ (Bs.foldl (fun r B' => maxR r (B'.row b m)) (zeroR m)) j ≤ c
    omega⟩
end P50
namespace P46
open Pv P25 P50
/-- a row's entries speak of that many calls alone, and never fall -/
structure Gd2 (B : Beh) : Prop where
  ind : ∀ b m m' j, j ≤ m → j ≤ m' → at_ (B.row b m) j = at_ (B.row b m') j
  mono : ∀ b m j, Pos b → j + 1 ≤ m → at_ (B.row b m) j ≤ at_ (B.row b m) (j + 1)
theorem conv_le {m : Nat} {r s : List Int} {j : Nat} {C : Int} (hj : j ≤ m) (h : ∀ i, i ≤ j → at_ r i + at_ s (j - i) ≤ C) : at_ (convR m r s) j ≤ C := by
  rw [conv_at, if_pos (by omega)]
  refine mxL_le _ _ _ (by have := h 0 (by omega); simpa using this) fun x hx => ?_
  obtain ⟨i, hi, rfl⟩ := List.mem_map.mp hx
  have hi := List.mem_range.mp hi
  exact h (i + 1) (by omega)
theorem conv_ge {m : Nat} {r s : List Int} {j i : Nat} (hj : j ≤ m) (hi : i ≤ j) : at_ r i + at_ s (j - i) ≤ at_ (convR m r s) j := by
  rw [conv_at, if_pos (by omega)]
  have g := mxL_ge ((List.range j).map fun i => at_ r (i + 1) + at_ s (j - (i + 1))) (at_ r 0 + at_ s j)
  cases i with
  | zero => exact g.1
  | succ i => exact g.2 _ (List.mem_map.mpr ⟨i, List.mem_range.mpr (by omega), rfl⟩)
theorem conv_ind {m m' : Nat} {r r' s s' : List Int} {j : Nat} (hj : j ≤ m) (hj' : j ≤ m') (hr : ∀ i, i ≤ j → at_ r i = at_ r' i) (hs : ∀ i, i ≤ j → at_ s i = at_ s' i) : at_ (convR m r s) j = at_ (convR m' r' s') j := by
  refine Int.le_antisymm (conv_le hj fun i hi => ?_) (conv_le hj' fun i hi => ?_)
  · rw [hr i hi, hs (j - i) (by omega)]
    exact conv_ge hj' hi
  · rw [← hr i hi, ← hs (j - i) (by omega)]
    exact conv_ge hj hi
theorem conv_shiftR {m : Nat} {r s s' : List Int} {c : Int} (h : ∀ j, j + 1 ≤ m → at_ s' j + c ≤ at_ s (j + 1)) (j : Nat) (hj : j + 1 ≤ m) : at_ (convR m r s') j + c ≤ at_ (convR m r s) (j + 1) := by
  have : at_ (convR m r s') j ≤ at_ (convR m r s) (j + 1) - c := conv_le (by omega) fun i hi => by
    have a := h (j - i) (by omega)
    have b := conv_ge (m := m) (r := r) (s := s) (j := j + 1) (i := i) hj (by omega)
    rw [show j + 1 - i = j - i + 1 by omega] at b
    omega
  omega
theorem conv_up {m : Nat} {r s : List Int} (h : ∀ j, j + 1 ≤ m → at_ s j ≤ at_ s (j + 1)) (j : Nat) (hj : j + 1 ≤ m) : at_ (convR m r s) j ≤ at_ (convR m r s) (j + 1) := by
  have := conv_shiftR (m := m) (r := r) (s := s) (s' := s) (c := 0) (fun j hj => by have := h j hj; omega) j hj
  omega
def foldC (b : Option Int) (m : Nat) (Bs : List Beh) (r : List Int) : List Int := Bs.foldl (fun r B' => convR m r (B'.row b m)) r
def foldM (b : Option Int) (m : Nat) (Bs : List Beh) (r : List Int) : List Int := Bs.foldl (fun r B' => maxR r (B'.row b m)) r
theorem foldC_ind (b : Option Int) (m m' : Nat) : ∀ (Bs : List Beh) (r r' : List Int), (∀ B ∈ Bs, Gd2 B) → (∀ j, j ≤ m → j ≤ m' → at_ r j = at_ r' j) → ∀ j, j ≤ m → j ≤ m' → at_ (foldC b m Bs r) j = at_ (foldC b m' Bs r') j
  | [], _, _, _, h, j, h1, h2 => h j h1 h2
  | B :: Bs, r, r', g, h, j, h1, h2 => foldC_ind b m m' Bs _ _ (fun B' hB => g B' (by simp [hB])) (fun j h1 h2 => conv_ind h1 h2 (fun i hi => h i (by omega) (by omega)) fun i hi => (g B (by simp)).ind b m m' i (by omega) (by omega)) j h1 h2
theorem foldC_up (b : Option Int) (hb : Pos b) (m : Nat) : ∀ (Bs : List Beh) (r : List Int), (∀ B ∈ Bs, Gd2 B) → (∀ j, j + 1 ≤ m → at_ r j ≤ at_ r (j + 1)) → ∀ j, j + 1 ≤ m → at_ (foldC b m Bs r) j ≤ at_ (foldC b m Bs r) (j + 1)
  | [], _, _, h, j, hj => h j hj
  | B :: Bs, r, g, h, j, hj => foldC_up b hb m Bs _ (fun B' hB => g B' (by simp [hB])) (fun j hj => conv_up (fun i hi => (g B (by simp)).mono b m i hb hi) j hj) j hj
theorem max_ge {r s : List Int} (hl : r.length = s.length) (j : Nat) : at_ r j ≤ at_ (maxR r s) j ∧ at_ s j ≤ at_ (maxR r s) j := by
  rw [max_at hl]
  split <;> omega
theorem foldM_ge (b : Option Int) (m : Nat) : ∀ (Bs : List Beh) (r : List Int), (∀ B ∈ Bs, Good B) → r.length = m + 1 → ∀ j, at_ r j ≤ at_ (foldM b m Bs r) j ∧ ∀ B ∈ Bs, at_ (B.row b m) j ≤ at_ (foldM b m Bs r) j
  | [], r, _, _, j => ⟨Int.le_refl _, fun _ h => nomatch h⟩
  | B :: Bs, r, g, hr, j => by
    have rl := (g B (by simp)).rlen b m
    have ml : (maxR r (B.row b m)).length = m + 1 := by rw [max_len (by omega)]; exact hr
    obtain ⟨h1, h2⟩ := foldM_ge b m Bs (maxR r (B.row b m)) (fun B' hB => g B' (by simp [hB])) ml j
    obtain ⟨g1, g2⟩ := max_ge (r := r) (s := B.row b m) (by omega) j
    refine ⟨Int.le_trans g1 h1, fun B' hB => ?_⟩
    rcases List.mem_cons.mp hB with rfl | hB
    · exact Int.le_trans g2 h1
    · exact h2 B' hB
theorem foldM_ind (b : Option Int) (m m' : Nat) : ∀ (Bs : List Beh) (r r' : List Int), (∀ B ∈ Bs, Good B) → (∀ B ∈ Bs, Gd2 B) → r.length = m + 1 → r'.length = m' + 1 → (∀ j, j ≤ m → j ≤ m' → at_ r j = at_ r' j) → ∀ j, j ≤ m → j ≤ m' → at_ (foldM b m Bs r) j = at_ (foldM b m' Bs r') j
  | [], _, _, _, _, _, _, h, j, h1, h2 => h j h1 h2
  | B :: Bs, r, r', g, g2, hr, hr', h, j, h1, h2 => by
    have rl := (g B (by simp)).rlen b m
    have rl' := (g B (by simp)).rlen b m'
    refine foldM_ind b m m' Bs _ _ (fun B' hB => g B' (by simp [hB])) (fun B' hB => g2 B' (by simp [hB])) (by rw [max_len (by omega)]; exact hr) (by rw [max_len (by omega)]; exact hr') (fun j h1 h2 => ?_) j h1 h2
    rw [max_at (by omega), max_at (by omega), h j h1 h2, (g2 B (by simp)).ind b m m' j h1 h2]
theorem foldM_up (b : Option Int) (hb : Pos b) (m : Nat) : ∀ (Bs : List Beh) (r : List Int), (∀ B ∈ Bs, Good B) → (∀ B ∈ Bs, Gd2 B) → r.length = m + 1 → (∀ j, j + 1 ≤ m → at_ r j ≤ at_ r (j + 1)) → ∀ j, j + 1 ≤ m → at_ (foldM b m Bs r) j ≤ at_ (foldM b m Bs r) (j + 1)
  | [], _, _, _, _, h, j, hj => h j hj
  | B :: Bs, r, g, g2, hr, h, j, hj => by
    have rl := (g B (by simp)).rlen b m
    refine foldM_up b hb m Bs _ (fun B' hB => g B' (by simp [hB])) (fun B' hB => g2 B' (by simp [hB])) (by rw [max_len (by omega)]; exact hr) (fun j hj => ?_) j hj
    have a := h j hj
    have c := (g2 B (by simp)).mono b m j hb hj
    rw [max_at (by omega), max_at (by omega)]
    split <;> split <;> omega
theorem gd2 : ∀ (n : Nat) (d : D) (B : Beh), Rgt n d B → Gd2 B
  | 0, _, _, h => h.elim
  | n + 1, d, B, h => by
    have ih := gd2 n
    have gd := good n
    rcases h with ⟨_, rfl⟩ | ⟨x, a, t, ha, _, ht, _, _, rfl⟩ | ⟨k, d', B', hk, _, hr, _, rfl⟩ | ⟨k, d', B', hk, _, hr, _, rfl⟩ | ⟨ds, Bs, hl, hr, _, rfl⟩ | ⟨ds, Bs, hl, hr, _, rfl⟩
    · refine ⟨fun b m m' j _ _ => ?_, fun b m j _ _ => ?_⟩
      · show at_ (zeroR m) j = at_ (zeroR m') j
        rw [at_zero, at_zero]
      · show at_ (zeroR m) j ≤ at_ (zeroR m) (j + 1)
        rw [at_zero, at_zero]
        exact Int.le_refl _
    · refine ⟨fun b m m' j h1 h2 => ?_, fun b m j hb hj => ?_⟩
      · show at_ ((List.range (m + 1)).map fun j : Nat => mn t (j : Int) * cutA b a) j = at_ ((List.range (m' + 1)).map fun j : Nat => mn t (j : Int) * cutA b a) j
        rw [at_map, at_map, if_pos (by omega), if_pos (by omega)]
      · show at_ ((List.range (m + 1)).map fun j : Nat => mn t (j : Int) * cutA b a) j ≤ at_ ((List.range (m + 1)).map fun j : Nat => mn t (j : Int) * cutA b a) (j + 1)
        rw [at_map, at_map, if_pos (by omega), if_pos (by omega)]
        refine Int.mul_le_mul_of_nonneg_right ?_ (cut0 hb (by omega))
        unfold mn
        split <;> split <;> omega
    · have g := ih d' B' hr
      have gg := gd d' B' hr
      refine ⟨fun b m m' j h1 h2 => ?_, fun b m j hb hj => ?_⟩
      · show at_ ((B'.row b m).map (mn k)) j = at_ ((B'.row b m').map (mn k)) j
        rw [at_mn (by omega), at_mn (by omega), gg.rlen, gg.rlen, if_pos (by omega), if_pos (by omega), g.ind b m m' j h1 h2]
      · show at_ ((B'.row b m).map (mn k)) j ≤ at_ ((B'.row b m).map (mn k)) (j + 1)
        rw [at_mn (by omega), at_mn (by omega), gg.rlen, if_pos (by omega), if_pos (by omega)]
        exact mn_mono (g.mono b m j hb hj)
    · have g := ih d' B' hr
      refine ⟨fun b m m' j h1 h2 => ?_, fun b m j hb hj => ?_⟩
      · show at_ ((List.range (m + 1)).map fun j : Nat => at_ (B'.row b m) (mn (j : Int) k).toNat) j = at_ ((List.range (m' + 1)).map fun j : Nat => at_ (B'.row b m') (mn (j : Int) k).toNat) j
        have := mn_le_l (j : Int) k
        rw [at_map, at_map, if_pos (by omega), if_pos (by omega)]
        exact g.ind b m m' _ (by omega) (by omega)
      · show at_ ((List.range (m + 1)).map fun j : Nat => at_ (B'.row b m) (mn (j : Int) k).toNat) j ≤ at_ ((List.range (m + 1)).map fun j : Nat => at_ (B'.row b m) (mn (j : Int) k).toNat) (j + 1)
        rw [at_map, at_map, if_pos (by omega), if_pos (by omega)]
        by_cases c : (j : Int) + 1 ≤ k
        · have e1 : mn (j : Int) k = j := by unfold mn; split <;> omega
          have e2 : mn ((j + 1 : Nat) : Int) k = ((j + 1 : Nat) : Int) := by unfold mn; split <;> omega
          rw [e1, e2]
          exact g.mono b m j hb hj
        · have e1 : mn (j : Int) k = k := by unfold mn; split <;> omega
          have e2 : mn ((j + 1 : Nat) : Int) k = k := by unfold mn; split <;> omega
          rw [e1, e2]
          exact Int.le_refl _
    · have g : ∀ B ∈ Bs, Gd2 B := fun B hB => by
        obtain ⟨z1, z2, z3⟩ := all2_zip hr
        rw [← z2] at hB
        obtain ⟨p, hp, rfl⟩ := List.mem_map.mp hB
        exact ih p.1 p.2 (z3 p hp)
      exact ⟨fun b m m' j h1 h2 => foldC_ind b m m' Bs _ _ g (fun j _ _ => by rw [at_zero, at_zero]) j h1 h2, fun b m j hb hj => foldC_up b hb m Bs _ g (fun j _ => by rw [at_zero, at_zero]; exact Int.le_refl _) j hj⟩
    · have gG := all2_good gd hr
      have g : ∀ B ∈ Bs, Gd2 B := fun B hB => by
        obtain ⟨z1, z2, z3⟩ := all2_zip hr
        rw [← z2] at hB
        obtain ⟨p, hp, rfl⟩ := List.mem_map.mp hB
        exact ih p.1 p.2 (z3 p hp)
      have zl : ∀ m, (zeroR m).length = m + 1 := fun m => by simp [zeroR]
      exact ⟨fun b m m' j h1 h2 => foldM_ind b m m' Bs _ _ gG g (zl m) (zl m') (fun j _ _ => by rw [at_zero, at_zero]) j h1 h2, fun b m j hb hj => foldM_up b hb m Bs _ gG g (zl m) (fun j _ => by rw [at_zero, at_zero]; exact Int.le_refl _) j hj⟩
end P46
namespace P46
open Pv P25 P50
def noneB : Beh := ⟨0, fun _ m => zeroR m, fun _ => 0⟩
def callB (a t : Int) : Beh := ⟨t, fun b m => (List.range (m + 1)).map fun j : Nat => mn t (j : Int) * cutA b a, fun b => t * cutA b a⟩
def withinB (k : Int) (B' : Beh) : Beh := ⟨mn k B'.len, fun b m => (B'.row b m).map (mn k), fun b => mn k (B'.top b)⟩
def callsB (k : Int) (B' : Beh) : Beh := ⟨mn k B'.len, fun b m => (List.range (m + 1)).map fun j : Nat => at_ (B'.row b m) (mn (j : Int) k).toNat, fun b => at_ (B'.row b (mn k B'.len).toNat) (mn k B'.len).toNat⟩
def allB (Bs : List Beh) : Beh := ⟨(Bs.map Beh.len).sum, fun b m => Bs.foldl (fun r B' => convR m r (B'.row b m)) (zeroR m), fun b => (Bs.map fun B' => B'.top b).sum⟩
def oneB (Bs : List Beh) : Beh := ⟨mxL 0 (Bs.map Beh.len), fun b m => Bs.foldl (fun r B' => maxR r (B'.row b m)) (zeroR m), fun b => mxL 0 (Bs.map fun B' => B'.top b)⟩
theorem up_to {B : Beh} (g2 : Gd2 B) (b : Option Int) (hb : Pos b) (m : Nat) : ∀ (k j : Nat), j + k ≤ m → at_ (B.row b m) j ≤ at_ (B.row b m) (j + k)
  | 0, j, _ => Int.le_refl _
  | k + 1, j, h => by
    have a := up_to g2 b hb m k j (by omega)
    have c := g2.mono b m (j + k) hb (by omega)
    rw [show j + (k + 1) = j + k + 1 by omega]
    omega
end P46
namespace P27
open Pv P25 P50 P46
theorem mxL_in : ∀ (xs : List Int) (m : Int), mxL m xs = m ∨ mxL m xs ∈ xs
  | [], m => .inl rfl
  | x :: xs, m => by
    show mxL (if m < x then x else m) xs = m ∨ mxL (if m < x then x else m) xs ∈ x :: xs
    rcases mxL_in xs (if m < x then x else m) with e | e
    · rw [e]
      split
      · exact .inr (by simp)
      · exact .inl rfl
    · exact .inr (List.mem_cons_of_mem _ e)
theorem conv_ex {m : Nat} {r s : List Int} {j : Nat} (hj : j ≤ m) : ∃ i, i ≤ j ∧ at_ (convR m r s) j = at_ r i + at_ s (j - i) := by
  rw [conv_at, if_pos (by omega)]
  rcases mxL_in ((List.range j).map fun i => at_ r (i + 1) + at_ s (j - (i + 1))) (at_ r 0 + at_ s j) with e | e
  · exact ⟨0, by omega, by rw [e]; rfl⟩
  · obtain ⟨i, hi, e'⟩ := List.mem_map.mp e
    exact ⟨i + 1, by have := List.mem_range.mp hi; omega, e'.symm⟩
end P27
namespace P55
open Pv P25 P50 P46 P27
/-- no row's entry is above the top; as long as the top isn't reached each call adds one or more; behind the length it is the top -/
structure Gd3 (B : Beh) : Prop where
  le : ∀ (b : Option Int) (m j : Nat), Pos b → j ≤ m → at_ (B.row b m) j ≤ B.top b
  full : ∀ (b : Option Int) (m j : Nat), Pos b → j ≤ m → mn (j : Int) (B.top b) ≤ at_ (B.row b m) j
  fin : ∀ (b : Option Int) (m j : Nat), Pos b → j ≤ m → B.len ≤ j → at_ (B.row b m) j = B.top b
theorem conv_full {m : Nat} {r s : List Int} {c c' : Int} (h0 : 0 ≤ c) (h0' : 0 ≤ c') (h : ∀ j, j ≤ m → mn (j : Int) c ≤ at_ r j) (h' : ∀ j, j ≤ m → mn (j : Int) c' ≤ at_ s j) {j : Nat} (hj : j ≤ m) : mn (j : Int) (c + c') ≤ at_ (convR m r s) j := by
  by_cases q : (j : Int) ≤ c
  · have g := conv_ge (r := r) (s := s) hj (Nat.le_refl j)
    have a := h j hj
    have b := h' 0 (by omega)
    rw [Nat.sub_self] at g
    have e1 : mn (j : Int) c = j := by unfold mn; split <;> omega
    have e2 : mn ((0 : Nat) : Int) c' = 0 := by unfold mn; split <;> omega
    have e3 : mn (j : Int) (c + c') = j := by unfold mn; split <;> omega
    omega
  · have g := conv_ge (r := r) (s := s) hj (show c.toNat ≤ j by omega)
    have a := h c.toNat (by omega)
    have b := h' (j - c.toNat) (by omega)
    have e1 : mn ((c.toNat : Nat) : Int) c = c := by unfold mn; split <;> omega
    have e2 : mn (((j - c.toNat : Nat) : Nat) : Int) c' = mn ((j : Int) - c) c' := by
      have : ((j - c.toNat : Nat) : Int) = (j : Int) - c := by omega
      rw [this]
    have e3 : mn (j : Int) (c + c') = c + mn ((j : Int) - c) c' := by unfold mn; split <;> split <;> omega
    omega
theorem foldC_le (b : Option Int) (hb : Pos b) (m : Nat) : ∀ (Bs : List Beh) (r : List Int) (c : Int), (∀ B ∈ Bs, Gd3 B) → (∀ j, j ≤ m → at_ r j ≤ c) → ∀ j, j ≤ m → at_ (foldC b m Bs r) j ≤ c + (Bs.map fun B' => B'.top b).sum
  | [], r, c, _, h, j, hj => by
    show at_ r j ≤ c + 0
    rw [Int.add_zero]
    exact h j hj
  | B :: Bs, r, c, g, h, j, hj => by
    rw [List.map_cons, List.sum_cons, ← Int.add_assoc]
    exact foldC_le b hb m Bs _ _ (fun B' hB => g B' (by simp [hB])) (fun j hj => conv_le hj fun i hi => by
      have h1 := h i (by omega)
      have h2 := (g B (by simp)).le b m (j - i) hb (by omega)
      omega) j hj
theorem foldC_full (b : Option Int) (hb : Pos b) (m : Nat) : ∀ (Bs : List Beh) (r : List Int) (c : Int), (∀ B ∈ Bs, Good B) → (∀ B ∈ Bs, Gd3 B) → 0 ≤ c → (∀ j, j ≤ m → mn (j : Int) c ≤ at_ r j) → ∀ j, j ≤ m → mn (j : Int) (c + (Bs.map fun B' => B'.top b).sum) ≤ at_ (foldC b m Bs r) j
  | [], r, c, _, _, _, h, j, hj => by
    show mn (j : Int) (c + 0) ≤ at_ r j
    rw [Int.add_zero]
    exact h j hj
  | B :: Bs, r, c, gd, g, h0, h, j, hj => by
    have t0 := (gd B (by simp)).top0 b hb
    rw [List.map_cons, List.sum_cons, ← Int.add_assoc]
    exact foldC_full b hb m Bs _ _ (fun B' hB => gd B' (by simp [hB])) (fun B' hB => g B' (by simp [hB])) (by omega) (fun j hj => conv_full h0 t0 h (fun j hj => (g B (by simp)).full b m j hb hj) hj) j hj
theorem foldC_end (b : Option Int) (hb : Pos b) (m : Nat) : ∀ (Bs : List Beh) (r : List Int) (c : Int) (l : Nat), (∀ B ∈ Bs, Good B) → (∀ B ∈ Bs, Gd3 B) → (∀ j, j ≤ m → at_ r j ≤ c) → (∀ j, j ≤ m → l ≤ j → at_ r j = c) → ∀ j, j ≤ m → (l : Int) + (Bs.map Beh.len).sum ≤ j → at_ (foldC b m Bs r) j = c + (Bs.map fun B' => B'.top b).sum
  | [], r, c, l, _, _, _, h, j, hj, hl => by
    show at_ r j = c + 0
    rw [Int.add_zero]
    exact h j hj (by simpa using hl)
  | B :: Bs, r, c, l, gd, g, hle, h, j, hj, hl => by
    have l0 := (gd B (by simp)).len0
    rw [List.map_cons, List.sum_cons] at hl
    rw [List.map_cons, List.sum_cons, ← Int.add_assoc]
    have hle' : ∀ j, j ≤ m → at_ (convR m r (B.row b m)) j ≤ c + B.top b := fun j hj => conv_le hj fun i hi => by
      have h1 := hle i (by omega)
      have h2 := (g B (by simp)).le b m (j - i) hb (by omega)
      omega
    refine foldC_end b hb m Bs _ _ (l + B.len.toNat) (fun B' hB => gd B' (by simp [hB])) (fun B' hB => g B' (by simp [hB])) hle' (fun j hj hl => ?_) j hj (by omega)
    have up := hle' j hj
    have lo := conv_ge (r := r) (s := B.row b m) hj (show l ≤ j by omega)
    rw [h l (by omega) (Nat.le_refl _), (g B (by simp)).fin b m (j - l) hb (by omega) (by omega)] at lo
    omega
theorem foldM_le (b : Option Int) (m : Nat) (C : Int) : ∀ (Bs : List Beh) (r : List Int), (∀ B ∈ Bs, Good B) → r.length = m + 1 → ∀ j, at_ r j ≤ C → (∀ B ∈ Bs, at_ (B.row b m) j ≤ C) → at_ (foldM b m Bs r) j ≤ C
  | [], r, _, _, j, h, _ => h
  | B :: Bs, r, gd, hr, j, h, h' => by
    have e := (gd B (by simp)).rlen b m
    refine foldM_le b m C Bs _ (fun B' hB => gd B' (by simp [hB])) (by rw [max_len (by rw [hr, e])]; exact hr) j ?_ fun B' hB => h' B' (by simp [hB])
    rw [max_at (by rw [hr, e])]
    have := h' B (by simp)
    split <;> omega
theorem gd3 : ∀ (n : Nat) (d : D) (B : Beh), Rgt n d B → Gd3 B
  | 0, _, _, h => h.elim
  | n + 1, d, B, h => by
    have ih := gd3 n
    have gd := good n
    have g2 := gd2 n
    have gs : ∀ {ds : List D} {Bs : List Beh}, All2 (Rgt n) ds Bs → ∀ B ∈ Bs, Gd3 B ∧ Good B := fun hr B hB => by
      obtain ⟨z1, z2, z3⟩ := all2_zip hr
      rw [← z2] at hB
      obtain ⟨p, hp, rfl⟩ := List.mem_map.mp hB
      exact ⟨ih p.1 p.2 (z3 p hp), gd p.1 p.2 (z3 p hp)⟩
    rcases h with ⟨_, rfl⟩ | ⟨x, a, t, ha, _, ht, _, _, rfl⟩ | ⟨k, d', B', hk, _, hr, _, rfl⟩ | ⟨k, d', B', hk, _, hr, _, rfl⟩ | ⟨ds, Bs, hl, hr, _, rfl⟩ | ⟨ds, Bs, hl, hr, _, rfl⟩
    · refine ⟨fun b m j _ _ => ?_, fun b m j _ _ => ?_, fun b m j _ _ _ => ?_⟩
      · show at_ (zeroR m) j ≤ 0
        rw [at_zero]; exact Int.le_refl _
      · show mn (j : Int) 0 ≤ at_ (zeroR m) j
        rw [at_zero]; exact mn_le_r _ _
      · exact at_zero m j
    · have row : ∀ (b : Option Int) (m j : Nat), j ≤ m → at_ ((List.range (m + 1)).map fun j : Nat => mn t (j : Int) * cutA b a) j = mn t (j : Int) * cutA b a := fun b m j hj => by rw [at_map, if_pos (by omega)]
      refine ⟨fun b m j hb hj => ?_, fun b m j hb hj => ?_, fun b m j hb hj hl => ?_⟩
      · show at_ ((List.range (m + 1)).map fun j : Nat => mn t (j : Int) * cutA b a) j ≤ t * cutA b a
        rw [row b m j hj]
        exact Int.mul_le_mul_of_nonneg_right (mn_le_l _ _) (cut0 hb (by omega))
      · show mn (j : Int) (t * cutA b a) ≤ at_ ((List.range (m + 1)).map fun j : Nat => mn t (j : Int) * cutA b a) j
        rw [row b m j hj]
        have c0 := cut0 hb (show 0 ≤ a by omega)
        generalize cutA b a = c at c0
        by_cases z : c = 0
        · subst z
          rw [Int.mul_zero, Int.mul_zero]
          exact mn_le_r _ _
        · by_cases q : t ≤ j
          · have e : mn t (j : Int) = t := by unfold mn; split <;> omega
            rw [e]
            exact mn_le_r _ _
          · have e : mn t (j : Int) = j := by unfold mn; split <;> omega
            rw [e]
            have : (j : Int) * 1 ≤ j * c := Int.mul_le_mul_of_nonneg_left (by omega) (by omega)
            have := mn_le_l (j : Int) (t * c)
            omega
      · show at_ ((List.range (m + 1)).map fun j : Nat => mn t (j : Int) * cutA b a) j = t * cutA b a
        rw [row b m j hj]
        have hl : t ≤ (j : Int) := hl
        have e : mn t (j : Int) = t := by unfold mn; split <;> omega
        rw [e]
    · have g := ih d' B' hr
      have gg := gd d' B' hr
      have row : ∀ (b : Option Int) (m j : Nat), j ≤ m → at_ ((B'.row b m).map (mn k)) j = mn k (at_ (B'.row b m) j) := fun b m j hj => by rw [at_mn (by omega), gg.rlen, if_pos (by omega)]
      refine ⟨fun b m j hb hj => ?_, fun b m j hb hj => ?_, fun b m j hb hj hl => ?_⟩
      · show at_ ((B'.row b m).map (mn k)) j ≤ mn k (B'.top b)
        rw [row b m j hj]
        exact mn_mono (g.le b m j hb hj)
      · show mn (j : Int) (mn k (B'.top b)) ≤ at_ ((B'.row b m).map (mn k)) j
        rw [row b m j hj]
        have := g.full b m j hb hj
        unfold mn at *
        split <;> split <;> split at this <;> split <;> omega
      · show at_ ((B'.row b m).map (mn k)) j = mn k (B'.top b)
        rw [row b m j hj]
        have hl : mn k B'.len ≤ (j : Int) := hl
        have u := g.le b m j hb hj
        have f := g.full b m j hb hj
        by_cases q : B'.len ≤ j
        · rw [g.fin b m j hb hj q]
        · have kj : k ≤ (j : Int) := by unfold mn at hl; split at hl <;> omega
          unfold mn at *
          split <;> split <;> split at f <;> omega
    · have g := ih d' B' hr
      have gg := gd d' B' hr
      have g' := g2 d' B' hr
      have row : ∀ (b : Option Int) (m j : Nat), j ≤ m → at_ ((List.range (m + 1)).map fun j : Nat => at_ (B'.row b m) (mn (j : Int) k).toNat) j = at_ (B'.row b m) (mn (j : Int) k).toNat := fun b m j hj => by rw [at_map, if_pos (by omega)]
      have l0 := gg.len0
      -- the top, by a row of any length
      have top : ∀ (b : Option Int) (m i : Nat), Pos b → i ≤ m → mn k B'.len ≤ i → (i : Int) ≤ k → at_ (B'.row b m) i = at_ (B'.row b (mn k B'.len).toNat) (mn k B'.len).toNat := fun b m i hb hi h1 h2 => by
        have z0 : 0 ≤ mn k B'.len := mn_pos (by omega) l0
        by_cases q : B'.len ≤ k
        · have e : mn k B'.len = B'.len := by unfold mn; split <;> omega
          rw [e] at h1 ⊢
          rw [g.fin b m i hb hi h1, g.fin b _ _ hb (Nat.le_refl _) (by omega)]
        · have e : mn k B'.len = k := by unfold mn; split <;> omega
          rw [e] at h1 ⊢
          have : i = k.toNat := by omega
          rw [this]
          exact g'.ind b m k.toNat k.toNat (by omega) (Nat.le_refl _)
      refine ⟨fun b m j hb hj => ?_, fun b m j hb hj => ?_, fun b m j hb hj hl => ?_⟩
      · show at_ ((List.range (m + 1)).map fun j : Nat => at_ (B'.row b m) (mn (j : Int) k).toNat) j ≤ at_ (B'.row b (mn k B'.len).toNat) (mn k B'.len).toNat
        rw [row b m j hj]
        have m1 := mn_le_l (j : Int) k
        have m2 := mn_le_r (j : Int) k
        have m0 : 0 ≤ mn (j : Int) k := mn_pos (by omega) (by omega)
        have z0 : 0 ≤ mn k B'.len := mn_pos (by omega) l0
        by_cases q : mn k B'.len ≤ mn (j : Int) k
        · rw [top b m (mn (j : Int) k).toNat hb (by omega) (by omega) (by omega)]
          exact Int.le_refl _
        · have e : at_ (B'.row b (mn k B'.len).toNat) (mn (j : Int) k).toNat = at_ (B'.row b m) (mn (j : Int) k).toNat := g'.ind b _ _ _ (by omega) (by omega)
          rw [← e]
          have := up_to g' b hb (mn k B'.len).toNat ((mn k B'.len).toNat - (mn (j : Int) k).toNat) (mn (j : Int) k).toNat (by omega)
          have e2 : (mn (j : Int) k).toNat + ((mn k B'.len).toNat - (mn (j : Int) k).toNat) = (mn k B'.len).toNat := by omega
          rw [e2] at this
          exact this
      · show mn (j : Int) (at_ (B'.row b (mn k B'.len).toNat) (mn k B'.len).toNat) ≤ at_ ((List.range (m + 1)).map fun j : Nat => at_ (B'.row b m) (mn (j : Int) k).toNat) j
        rw [row b m j hj]
        have z0 : 0 ≤ mn k B'.len := mn_pos (by omega) l0
        have u := g.le b (mn k B'.len).toNat (mn k B'.len).toNat hb (Nat.le_refl _)
        by_cases q : (j : Int) ≤ k
        · have e : mn (j : Int) k = j := by unfold mn; split <;> omega
          rw [e]
          have f := g.full b m j hb hj
          have e2 : ((j : Int)).toNat = j := by omega
          rw [e2]
          exact Int.le_trans (mn_mono u) f
        · have e : mn (j : Int) k = k := by unfold mn; split <;> omega
          rw [e]
          have := top b m k.toNat hb (by omega) (by have := mn_le_l k B'.len; omega) (by omega)
          rw [this]
          exact mn_le_r _ _
      · show at_ ((List.range (m + 1)).map fun j : Nat => at_ (B'.row b m) (mn (j : Int) k).toNat) j = at_ (B'.row b (mn k B'.len).toNat) (mn k B'.len).toNat
        rw [row b m j hj]
        have hl : mn k B'.len ≤ (j : Int) := hl
        have m1 := mn_le_l (j : Int) k
        have m2 := mn_le_r (j : Int) k
        have m0 : 0 ≤ mn (j : Int) k := mn_pos (by omega) (by omega)
        have q : mn k B'.len ≤ mn (j : Int) k := by
          have := mn_le_l k B'.len
          unfold mn at *
          split <;> omega
        exact top b m _ hb (by omega) (by omega) (by omega)
    · have G3 : ∀ B ∈ Bs, Gd3 B := fun B hB => (gs hr B hB).1
      have G1 : ∀ B ∈ Bs, Good B := fun B hB => (gs hr B hB).2
      refine ⟨fun b m j hb hj => ?_, fun b m j hb hj => ?_, fun b m j hb hj hl => ?_⟩
      · have := foldC_le b hb m Bs (zeroR m) 0 G3 (fun j _ => by rw [at_zero]; exact Int.le_refl _) j hj
        rw [Int.zero_add] at this
        exact this
      · have := foldC_full b hb m Bs (zeroR m) 0 G1 G3 (Int.le_refl _) (fun j _ => by rw [at_zero]; exact mn_le_r _ _) j hj
        rw [Int.zero_add] at this
        exact this
      · have := foldC_end b hb m Bs (zeroR m) 0 0 G1 G3 (fun j _ => by rw [at_zero]; exact Int.le_refl _) (fun j _ _ => at_zero m j) j hj (by have hl : (Bs.map Beh.len).sum ≤ (j : Int) := hl; omega)
        rw [Int.zero_add] at this
        exact this
    · have G3 : ∀ B ∈ Bs, Gd3 B := fun B hB => (gs hr B hB).1
      have G1 : ∀ B ∈ Bs, Good B := fun B hB => (gs hr B hB).2
      have zl : ∀ m, (zeroR m).length = m + 1 := fun m => by simp [zeroR]
      have LE : ∀ (b : Option Int) (m j : Nat), Pos b → j ≤ m → at_ (foldM b m Bs (zeroR m)) j ≤ mxL 0 (Bs.map fun B' => B'.top b) := fun b m j hb hj => by
        have ge := mxL_ge (Bs.map fun B' => B'.top b) 0
        exact foldM_le b m _ Bs (zeroR m) G1 (zl m) j (by rw [at_zero]; exact ge.1) fun B hB => Int.le_trans ((G3 B hB).le b m j hb hj) (ge.2 _ (List.mem_map_of_mem hB))
      refine ⟨fun b m j hb hj => LE b m j hb hj, fun b m j hb hj => ?_, fun b m j hb hj hl => ?_⟩
      · show mn (j : Int) (mxL 0 (Bs.map fun B' => B'.top b)) ≤ at_ (foldM b m Bs (zeroR m)) j
        have fg := foldM_ge b m Bs (zeroR m) G1 (zl m) j
        rcases mxL_in (Bs.map fun B' => B'.top b) 0 with e | e
        · rw [e]
          have h1 := fg.1
          rw [at_zero] at h1
          have := mn_le_r (j : Int) 0
          omega
        · obtain ⟨B, hB, e⟩ := List.mem_map.mp e
          rw [← e]
          exact Int.le_trans ((G3 B hB).full b m j hb hj) (fg.2 B hB)
      · show at_ (foldM b m Bs (zeroR m)) j = mxL 0 (Bs.map fun B' => B'.top b)
        have up := LE b m j hb hj
        have fg := foldM_ge b m Bs (zeroR m) G1 (zl m) j
        have hl : mxL 0 (Bs.map Beh.len) ≤ (j : Int) := hl
        have ll := mxL_ge (Bs.map Beh.len) 0
        refine Int.le_antisymm up ?_
        rcases mxL_in (Bs.map fun B' => B'.top b) 0 with e | e
        · rw [e]
          have h1 := fg.1
          rw [at_zero] at h1
          exact h1
        · obtain ⟨B, hB, e⟩ := List.mem_map.mp e
          rw [← e, ← (G3 B hB).fin b m j hb hj (Int.le_trans (ll.2 _ (List.mem_map_of_mem hB)) hl)]
          exact fg.2 B hB
end P55
namespace P55
open Pv P25 P50 P46 P27 PySem.Spec PyProof.Rows L2
open PySem (Str PyData)
open PySem.W (dataLe)
def lotD (l : Lot) : D := .tup [.int l.1, .int l.2.1, .str l.2.2]
def rowD (r : List Lot) : D := .tup (r.map lotD)
def geL (x y : Lot) : Bool := geD (lotD x) (lotD y)
/-- from the greatest down -/
def sortR (r : RowL) : RowL := r.mergeSort geL
theorem sort_data (r : RowL) : (r.map lotD).mergeSort geD = (sortR r).map lotD := by
  unfold sortR
  symm
  exact List.map_mergeSort (fun _ _ _ _ => rfl)
theorem ge_total : PySem.W.TotalLe geL := by
  have h := PySem.W.sortLe_total (PyProof.Rows.listOrd PyProof.Rows.itemOrd) true fun l : Lot => PySem.W.keyToks (D.py (lotD l))
  exact h
theorem ge_amount {x y : Lot} (h : geL x y = true) : y.1 ≤ x.1 := by
  apply Int.not_lt.mp
  intro lt
  have e : PySem.W.dataLt (D.py (lotD x)) (D.py (lotD y)) = true := by
    have ex : D.py (lotD x) = .tuple [.int x.1, .int x.2.1, .str x.2.2] := by unfold lotD; rw [D.py, D.pys, D.pys, D.pys, D.pys, D.py, D.py, D.py]
    have ey : D.py (lotD y) = .tuple [.int y.1, .int y.2.1, .str y.2.2] := by unfold lotD; rw [D.py, D.pys, D.pys, D.pys, D.pys, D.py, D.py, D.py]
    rw [ex, ey, PySem.W.dataLt_tuple, PySem.W.dataLt_cons (by rfl)]
    have nv : PyData.eqv (.int x.1) (.int y.1) = false := by
      cases hq : PyData.eqv (.int x.1) (.int y.1) with
      | false => rfl
      | true =>
        have : x.1 = y.1 := by simpa [PyData.eqv] using hq
        omega
    rw [nv, if_neg (by decide), PySem.W.dataLt_int]
    exact decide_eq_true lt
  have h2 : geL x y = !PySem.W.dataLt (D.py (lotD x)) (D.py (lotD y)) := rfl
  rw [h2, e] at h
  cases h
theorem sort_perm (r : RowL) : (sortR r).Perm r := List.mergeSort_perm _ _
theorem sort_len (r : RowL) : (sortR r).length = r.length := (sort_perm r).length_eq
theorem sort_row {r : RowL} (h : ∀ l ∈ r, 1 ≤ l.1 ∧ 1 ≤ l.2.1) : Row (sortR r) :=
  ⟨fun l hl => h l ((sort_perm r).mem_iff.mp hl), (List.pairwise_mergeSort ge_total.trans (fun a b => by have := ge_total.total a b; simpa using this) r).imp fun {a b} q => ge_amount q⟩
theorem E_perm {r s : RowL} (h : r.Perm s) : (E r).Perm (E s) := h.flatMap_right _
theorem conv_rows {r o : RowL} (hr : Row r) (ho : Row o) : Conv (E (sortR (r ++ o))) (E r) (E o) := by
  have p : ∀ l ∈ r ++ o, 1 ≤ l.1 ∧ 1 ≤ l.2.1 := fun l hl => by
    rcases List.mem_append.mp hl with z | z
    · exact hr.pos l z
    · exact ho.pos l z
  refine conv_perm (E_desc (sort_row p)) (E_desc hr) (E_desc ho) (E_nn hr) (E_nn ho) ?_
  rw [← E_app]
  exact E_perm (sort_perm _)
/-- rs are rows of n forms and N names, and the first j of the best of them come to row m's entry j -/
structure Rs (n N : Nat) (rs : List RowL) (f : Nat → List Int) : Prop where
  row : ∀ r ∈ rs, Row r
  low : ∀ r ∈ rs, ∀ l ∈ r, l.1 < 10 ^ 12 ∧ PySem.PyData.strOk l.2.2 = true
  len : ∀ r ∈ rs, r.length ≤ N * (n + 1)
  cnt : Cnt (2 ^ N) rs
  max : ∀ m j, j ≤ m → IsMax rs j (at_ (f m) j)
theorem Rs.up {n n' N : Nat} {rs : List RowL} {row : Nat → List Int} (h : Rs n N rs row) (hn : n ≤ n') : Rs n' N rs row :=
  { h with len := fun r hr => Nat.le_trans (h.len r hr) (Nat.mul_le_mul (Nat.le_refl _) (by omega)) }
theorem row_nil : Row [] := ⟨fun _ h => (nomatch h), List.Pairwise.nil⟩
theorem rs_none (n : Nat) : Rs n 0 [[]] zeroR :=
  ⟨fun r hr => by rw [List.mem_singleton] at hr; rw [hr]; exact row_nil, fun r hr l hl => (by rw [List.mem_singleton] at hr; rw [hr] at hl; cases hl), fun r hr => by rw [List.mem_singleton] at hr; rw [hr]; exact Nat.zero_le _, ⟨by decide, by decide⟩,
    fun m j _ => by
      rw [at_zero]
      exact ⟨fun r hr => by rw [List.mem_singleton] at hr; rw [hr, E_nil, S_nil]; exact Int.le_refl _, [], by simp, by rw [E_nil, S_nil]⟩⟩
theorem rs_call {x : Str} {t c : Int} (hx : PySem.PyData.strOk x = true) (ht : 1 ≤ t) (hc : 0 ≤ c) (hc' : c < 10 ^ 12) : Rs 1 1 (if 0 < c then [[(c, t, x)]] else [[]]) fun m => (List.range (m + 1)).map fun j : Nat => mn t (j : Int) * c := by
  have at' : ∀ (m j : Nat), j ≤ m → at_ ((List.range (m + 1)).map fun j : Nat => mn t (j : Int) * c) j = mn t (j : Int) * c := fun m j h => by rw [at_map, if_pos (by omega)]
  by_cases q : 0 < c
  · rw [if_pos q]
    have sv : ∀ j : Nat, S (E [(c, t, x)]) j = mn t (j : Int) * c := fun j => by
      rw [E_cons, E_nil, S_rep_app, S_nil]
      have e3 : ((t.toNat : Nat) : Int) = t := by omega
      show (if j ≤ t.toNat then c * (j : Int) else c * ((t.toNat : Nat) : Int) + 0) = _
      rw [e3]
      by_cases z : j ≤ t.toNat
      · have e : mn t (j : Int) = j := by unfold mn; split <;> omega
        rw [if_pos z, e, Int.mul_comm]
      · have e : mn t (j : Int) = t := by unfold mn; split <;> omega
        rw [if_neg z, e, Int.mul_comm, Int.add_zero]
    refine ⟨fun r hr => ?_, fun r hr l hl => ?_, fun r hr => ?_, ⟨by simp [ne], by simp [ne]⟩, fun m j h => ?_⟩
    · rw [List.mem_singleton] at hr; rw [hr]
      exact ⟨fun l hl => by rw [List.mem_singleton] at hl; rw [hl]; exact ⟨by show 1 ≤ c; omega, ht⟩, List.pairwise_singleton _ _⟩
    · rw [List.mem_singleton] at hr; rw [hr, List.mem_singleton] at hl; rw [hl]; exact ⟨hc', hx⟩
    · rw [List.mem_singleton] at hr; rw [hr]; simp
    · rw [at' m j h]
      exact ⟨fun r hr => by rw [List.mem_singleton] at hr; rw [hr, sv]; exact Int.le_refl _, _, List.mem_singleton_self _, sv j⟩
  · have c0 : c = 0 := by omega
    rw [if_neg q]
    refine ⟨fun r hr => ?_, fun r hr l hl => ?_, fun r hr => ?_, ⟨by decide, by decide⟩, fun m j h => ?_⟩
    · rw [List.mem_singleton] at hr; rw [hr]; exact row_nil
    · rw [List.mem_singleton] at hr; rw [hr] at hl; cases hl
    · rw [List.mem_singleton] at hr; rw [hr]; decide
    · rw [at' m j h, c0, Int.mul_zero]
      exact ⟨fun r hr => by rw [List.mem_singleton] at hr; rw [hr, E_nil, S_nil]; exact Int.le_refl _, [], by simp, by rw [E_nil, S_nil]⟩
theorem cs_ok : ∀ {r : List Lot} {k : Int}, 1 ≤ k ∨ r = [] ∨ 0 ≤ k → Row r → 0 ≤ k → (∀ l ∈ csC r k, 1 ≤ l.1 ∧ 1 ≤ l.2.1 ∧ ∃ z ∈ r, l.1 ≤ z.1 ∧ l.2.2 = z.2.2) ∧ (csC r k).Pairwise (fun x y => y.1 ≤ x.1) ∧ (csC r k).length ≤ r.length + 1 ∧ (r = [] → csC r k = [])
  | [], k, _, _, _ => ⟨fun _ h => (nomatch h), List.Pairwise.nil, Nat.zero_le _, fun _ => rfl⟩
  | l :: r, k, hk, hr, h0 => by
    have p := hr.pos l (by simp)
    have d := List.pairwise_cons.mp hr.desc
    have q0 : 0 ≤ k / l.1 := Int.ediv_nonneg h0 (by omega)
    have f0 : 0 ≤ mn l.2.1 (k / l.1) := mn_pos (by omega) q0
    have le : l.1 * mn l.2.1 (k / l.1) ≤ k := by
      have h1 : mn l.2.1 (k / l.1) ≤ k / l.1 := mn_le_r _ _
      have h2 : l.1 * mn l.2.1 (k / l.1) ≤ l.1 * (k / l.1) := Int.mul_le_mul_of_nonneg_left h1 (by omega)
      have h3 := Int.mul_ediv_self_le (x := k) (k := l.1) (by omega)
      omega
    -- what is left where the lot doesn't fit whole is less than the amount
    have lt : mn l.2.1 (k / l.1) < l.2.1 → k - l.1 * mn l.2.1 (k / l.1) < l.1 := fun c => by
      have e : mn l.2.1 (k / l.1) = k / l.1 := by unfold mn at *; split at c <;> split <;> omega
      rw [e]
      have h1 := Int.lt_mul_ediv_self_add (x := k) (k := l.1) (by omega)
      omega
    have ih := cs_ok (r := r) (k := k - l.1 * mn l.2.1 (k / l.1)) (.inr (.inr (by omega))) hr.tail (by omega)
    obtain ⟨m, hm⟩ : ∃ m, mn l.2.1 (k / l.1) = m := ⟨_, rfl⟩
    have e0 : csC (l :: r) k = (if 0 < m then [(l.1, m, l.2.2)] else []) ++ (if m < l.2.1 then (if 0 < k - l.1 * m then [(k - l.1 * m, 1, l.2.2)] else []) else csC r (k - l.1 * m)) := by rw [← hm]; rfl
    rw [hm] at lt ih f0 le
    rw [e0]
    have A : ∀ z ∈ (if 0 < m then [(l.1, m, l.2.2)] else [] : List Lot), z = (l.1, m, l.2.2) ∧ 0 < m := fun z hz => by
      split at hz
      · rename_i c
        exact ⟨List.mem_singleton.mp hz, c⟩
      · cases hz
    have B : ∀ z ∈ (if m < l.2.1 then (if 0 < k - l.1 * m then [(k - l.1 * m, 1, l.2.2)] else []) else csC r (k - l.1 * m) : List Lot), 1 ≤ z.1 ∧ 1 ≤ z.2.1 ∧ z.1 ≤ l.1 ∧ ∃ y ∈ l :: r, z.1 ≤ y.1 ∧ z.2.2 = y.2.2 := fun z hz => by
      split at hz
      · rename_i c
        have lt := lt c
        split at hz
        · rename_i c2
          rw [List.mem_singleton.mp hz]
          exact ⟨by show 1 ≤ k - l.1 * m; omega, by show (1 : Int) ≤ 1; decide, by show k - l.1 * m ≤ l.1; omega, l, by simp, by show k - l.1 * m ≤ l.1; omega, rfl⟩
        · cases hz
      · obtain ⟨b1, b2, y, hy, b3, b4⟩ := ih.1 z hz
        have := d.1 y hy
        exact ⟨b1, b2, by omega, y, List.mem_cons_of_mem _ hy, b3, b4⟩
    refine ⟨fun z hz => ?_, ?_, ?_, fun z => nomatch z⟩
    · rcases List.mem_append.mp hz with y | y
      · obtain ⟨rfl, c⟩ := A z y
        exact ⟨p.1, by show 1 ≤ m; omega, l, by simp, Int.le_refl _, rfl⟩
      · obtain ⟨b1, b2, _, b3⟩ := B z y
        exact ⟨b1, b2, b3⟩
    · refine List.pairwise_append.mpr ⟨?_, ?_, fun x hx y hy => ?_⟩
      · split
        · exact List.pairwise_singleton _ _
        · exact List.Pairwise.nil
      · split
        · split
          · exact List.pairwise_singleton _ _
          · exact List.Pairwise.nil
        · exact ih.2.1
      · rw [(A x hx).1]
        exact (B y hy).2.2.1
    · rw [List.length_append, List.length_cons]
      have l1 : (if 0 < m then [(l.1, m, l.2.2)] else [] : List Lot).length ≤ 1 := by split <;> simp
      have l2 : (if m < l.2.1 then (if 0 < k - l.1 * m then [(k - l.1 * m, 1, l.2.2)] else []) else csC r (k - l.1 * m) : List Lot).length ≤ r.length + 1 := by
        split
        · split <;> simp
        · exact ih.2.2.1
      omega
theorem cs_ne {l : Lot} {r : List Lot} {k : Int} (hk : 1 ≤ k) (h1 : 1 ≤ l.1) (h2 : 1 ≤ l.2.1) : csC (l :: r) k ≠ [] := by
  have q0 : 0 ≤ k / l.1 := Int.ediv_nonneg (by omega) (by omega)
  intro e
  have e0 : csC (l :: r) k = (if 0 < mn l.2.1 (k / l.1) then [(l.1, mn l.2.1 (k / l.1), l.2.2)] else []) ++ (if mn l.2.1 (k / l.1) < l.2.1 then (if 0 < k - l.1 * mn l.2.1 (k / l.1) then [(k - l.1 * mn l.2.1 (k / l.1), 1, l.2.2)] else []) else csC r (k - l.1 * mn l.2.1 (k / l.1))) := rfl
  rw [e0, List.append_eq_nil_iff] at e
  obtain ⟨e1, e2⟩ := e
  by_cases c : 0 < mn l.2.1 (k / l.1)
  · rw [if_pos c] at e1; cases e1
  · have f0 : 0 ≤ mn l.2.1 (k / l.1) := mn_pos (by omega) q0
    have z : mn l.2.1 (k / l.1) = 0 := by omega
    rw [z, if_pos (by omega), Int.mul_zero, Int.sub_zero, if_pos (by omega)] at e2
    cases e2
theorem cc_ok : ∀ {r : List Lot} {k : Int}, Row r → 0 ≤ k → (∀ l ∈ ccC r k, 1 ≤ l.1 ∧ 1 ≤ l.2.1 ∧ ∃ z ∈ r, l.1 = z.1 ∧ l.2.2 = z.2.2) ∧ (ccC r k).Pairwise (fun x y => y.1 ≤ x.1) ∧ (ccC r k).length ≤ r.length
  | [], k, _, _ => ⟨fun _ h => (nomatch h), List.Pairwise.nil, Nat.le_refl _⟩
  | l :: r, k, hr, h0 => by
    have p := hr.pos l (by simp)
    have d := List.pairwise_cons.mp hr.desc
    have f0 : 0 ≤ mn l.2.1 k := mn_pos (by omega) h0
    have f1 : mn l.2.1 k ≤ k := mn_le_r _ _
    have ih := cc_ok (r := r) (k := k - mn l.2.1 k) hr.tail (by omega)
    have e0 : ccC (l :: r) k = (if 0 < mn l.2.1 k then [(l.1, mn l.2.1 k, l.2.2)] else []) ++ ccC r (k - mn l.2.1 k) := rfl
    rw [e0]
    have A : ∀ z ∈ (if 0 < mn l.2.1 k then [(l.1, mn l.2.1 k, l.2.2)] else [] : List Lot), z = (l.1, mn l.2.1 k, l.2.2) ∧ 0 < mn l.2.1 k := fun z hz => by
      split at hz
      · rename_i c
        exact ⟨List.mem_singleton.mp hz, c⟩
      · cases hz
    refine ⟨fun z hz => ?_, ?_, ?_⟩
    · rcases List.mem_append.mp hz with y | y
      · obtain ⟨rfl, c⟩ := A z y
        exact ⟨p.1, by show 1 ≤ mn l.2.1 k; omega, l, by simp, rfl, rfl⟩
      · obtain ⟨b1, b2, q, hq, b3, b4⟩ := ih.1 z y
        exact ⟨b1, b2, q, List.mem_cons_of_mem _ hq, b3, b4⟩
    · refine List.pairwise_append.mpr ⟨?_, ih.2.1, fun x hx y hy => ?_⟩
      · split
        · exact List.pairwise_singleton _ _
        · exact List.Pairwise.nil
      · rw [(A x hx).1]
        obtain ⟨_, _, q, hq, b3, _⟩ := ih.1 y hy
        rw [b3]
        exact d.1 q hq
    · rw [List.length_append, List.length_cons]
      have l1 : (if 0 < mn l.2.1 k then [(l.1, mn l.2.1 k, l.2.2)] else [] : List Lot).length ≤ 1 := by split <;> simp
      omega
theorem cc_ne {l : Lot} {r : List Lot} {k : Int} (hk : 1 ≤ k) (h2 : 1 ≤ l.2.1) : ccC (l :: r) k ≠ [] := by
  intro e
  have e0 : ccC (l :: r) k = (if 0 < mn l.2.1 k then [(l.1, mn l.2.1 k, l.2.2)] else []) ++ ccC r (k - mn l.2.1 k) := rfl
  have c : 0 < mn l.2.1 k := by unfold mn; split <;> omega
  rw [e0, if_pos c] at e
  cases e
theorem ne_map {f : RowL → RowL} : ∀ {rs : List RowL}, (∀ r ∈ rs, (f r).isEmpty = r.isEmpty) → ne (rs.map f) = ne rs
  | [], _ => rfl
  | r :: rs, h => by rw [List.map_cons, ne_cons, ne_cons, h r (by simp), ne_map fun x hx => h x (List.mem_cons_of_mem _ hx)]
theorem Cnt.map {f : RowL → RowL} {rs : List RowL} {N : Nat} (h : Cnt N rs) (hf : ∀ r ∈ rs, (f r).isEmpty = r.isEmpty) : Cnt N (rs.map f) := by
  obtain ⟨a, b⟩ := h
  exact ⟨by rw [ne_map hf]; exact a, by rw [ne_map hf, List.length_map]; exact b⟩
theorem rs_within {n N : Nat} {rs : List RowL} {row : Nat → List Int} (h : Rs n N rs row) (hl : ∀ m, (row m).length = m + 1) {k : Int} (hk : 1 ≤ k) : Rs (n + 1) N (rs.map fun r => csC r k) fun m => (row m).map (mn k) := by
  have ok := fun r hr => cs_ok (r := r) (k := k) (.inl hk) (h.row r hr) (by omega)
  refine ⟨fun r hr => ?_, fun r hr l hl => ?_, fun r hr => ?_, h.cnt.map fun r hr => ?_, fun m j hj => ?_⟩
  · obtain ⟨q, hq, rfl⟩ := List.mem_map.mp hr
    exact ⟨fun l hl => by have := (ok q hq).1 l hl; exact ⟨this.1, this.2.1⟩, (ok q hq).2.1⟩
  · obtain ⟨q, hq, rfl⟩ := List.mem_map.mp hr
    obtain ⟨_, _, z, hz, z1, z2⟩ := (ok q hq).1 l hl
    have := h.low q hq z hz
    rw [z2]
    exact ⟨by omega, this.2⟩
  · obtain ⟨q, hq, rfl⟩ := List.mem_map.mp hr
    have l1 := h.len q hq
    cases hz : q with
    | nil => rw [show csC [] k = [] from rfl]; exact Nat.zero_le _
    | cons a as =>
      have l2 := (ok q hq).2.2.1
      rw [hz] at l1 l2
      have N1 : 1 ≤ N := by
        rcases Nat.eq_zero_or_pos N with z | z
        · rw [z, Nat.zero_mul] at l1; simp at l1
        · exact z
      have : N * (n + 1 + 1) = N * (n + 1) + N := by rw [Nat.mul_add N (n + 1) 1, Nat.mul_one]
      omega
  · cases r with
    | nil => rfl
    | cons a as =>
      have p := (h.row _ hr).pos a (by simp)
      have := cs_ne (r := as) hk p.1 p.2
      cases hq : csC (a :: as) k with
      | nil => exact absurd hq this
      | cons _ _ => rfl
  · have e : at_ ((row m).map (mn k)) j = mn k (at_ (row m) j) := by rw [at_mn (by omega), hl, if_pos (by omega)]
    rw [e]
    obtain ⟨u, r, hr, q⟩ := h.max m j hj
    have sv : ∀ r ∈ rs, S (E (csC r k)) j = mn k (S (E r) j) := fun r hr => by rw [E_cut (h.row r hr).pos (by omega), S_cut (by omega) (E_nn (h.row r hr))]
    refine ⟨fun z hz => ?_, csC r k, List.mem_map_of_mem (f := fun r => csC r k) hr, by rw [sv r hr, q]⟩
    obtain ⟨y, hy, rfl⟩ := List.mem_map.mp hz
    rw [sv y hy]
    exact mn_mono (u y hy)
theorem rs_calls {n N : Nat} {rs : List RowL} {row : Nat → List Int} (h : Rs n N rs row) {k : Int} (hk : 1 ≤ k) : Rs (n + 1) N (rs.map fun r => ccC r k) fun m => (List.range (m + 1)).map fun j : Nat => at_ (row m) (mn (j : Int) k).toNat := by
  have ok := fun r hr => cc_ok (r := r) (k := k) (h.row r hr) (by omega)
  refine ⟨fun r hr => ?_, fun r hr l hl => ?_, fun r hr => ?_, h.cnt.map fun r hr => ?_, fun m j hj => ?_⟩
  · obtain ⟨q, hq, rfl⟩ := List.mem_map.mp hr
    exact ⟨fun l hl => by have := (ok q hq).1 l hl; exact ⟨this.1, this.2.1⟩, (ok q hq).2.1⟩
  · obtain ⟨q, hq, rfl⟩ := List.mem_map.mp hr
    obtain ⟨_, _, z, hz, z1, z2⟩ := (ok q hq).1 l hl
    rw [z1, z2]
    exact h.low q hq z hz
  · obtain ⟨q, hq, rfl⟩ := List.mem_map.mp hr
    have l1 := h.len q hq
    have l2 := (ok q hq).2.2
    have : N * (n + 1 + 1) = N * (n + 1) + N := by rw [Nat.mul_add N (n + 1) 1, Nat.mul_one]
    omega
  · cases r with
    | nil => rfl
    | cons a as =>
      have p := (h.row _ hr).pos a (by simp)
      have := cc_ne (r := as) hk p.2
      cases hq : ccC (a :: as) k with
      | nil => exact absurd hq this
      | cons _ _ => rfl
  · have m2 := mn_le_l (j : Int) k
    have m0 : 0 ≤ mn (j : Int) k := mn_pos (by omega) (by omega)
    have e : at_ ((List.range (m + 1)).map fun j : Nat => at_ (row m) (mn (j : Int) k).toNat) j = at_ (row m) (mn (j : Int) k).toNat := by rw [at_map, if_pos (by omega)]
    rw [e]
    obtain ⟨u, r, hr, q⟩ := h.max m (mn (j : Int) k).toNat (by omega)
    have em : min j k.toNat = (mn (j : Int) k).toNat := by unfold mn; split <;> omega
    have sv : ∀ r ∈ rs, S (E (ccC r k)) j = S (E r) (mn (j : Int) k).toNat := fun r hr => by rw [E_count (h.row r hr).pos (by omega), S_take, em]
    refine ⟨fun z hz => ?_, ccC r k, List.mem_map_of_mem (f := fun r => ccC r k) hr, by rw [sv r hr, q]⟩
    obtain ⟨y, hy, rfl⟩ := List.mem_map.mp hz
    rw [sv y hy]
    exact u y hy
theorem rs_comb {n N M : Nat} {a b : List RowL} {ra rb : Nat → List Int} (ha : Rs n N a ra) (hb : Rs n M b rb) : Rs n (N + M) (comb sortR a b) fun m => convR m (ra m) (rb m) := by
  have mem : ∀ z ∈ comb sortR a b, ∃ r ∈ a, ∃ o ∈ b, z = sortR (r ++ o) := fun z hz => by
    obtain ⟨r, hr, hz⟩ := List.mem_flatMap.mp hz
    obtain ⟨o, ho, rfl⟩ := List.mem_map.mp hz
    exact ⟨r, hr, o, ho, rfl⟩
  have pos : ∀ r ∈ a, ∀ o ∈ b, ∀ l ∈ r ++ o, 1 ≤ l.1 ∧ 1 ≤ l.2.1 := fun r hr o ho l hl => by
    rcases List.mem_append.mp hl with z | z
    · exact (ha.row r hr).pos l z
    · exact (hb.row o ho).pos l z
  refine ⟨fun z hz => ?_, fun z hz l hl => ?_, fun z hz => ?_, ?_, fun m j hj => ?_⟩
  · obtain ⟨r, hr, o, ho, rfl⟩ := mem z hz
    exact sort_row (pos r hr o ho)
  · obtain ⟨r, hr, o, ho, rfl⟩ := mem z hz
    rcases List.mem_append.mp ((sort_perm _).mem_iff.mp hl) with y | y
    · exact ha.low r hr l y
    · exact hb.low o ho l y
  · obtain ⟨r, hr, o, ho, rfl⟩ := mem z hz
    have := ha.len r hr
    have := hb.len o ho
    rw [sort_len, List.length_append, Nat.add_mul]
    omega
  · rw [Nat.pow_add]
    exact Cnt.comb sort_len ha.cnt hb.cnt
  · have up : ∀ r ∈ a, ∀ o ∈ b, S (E (sortR (r ++ o))) j ≤ at_ (convR m (ra m) (rb m)) j := fun r hr o ho => by
      obtain ⟨i, hi, e⟩ := (conv_rows (ha.row r hr) (hb.row o ho)).2 j
      rw [← e]
      have h1 := (ha.max m i (by omega)).1 r hr
      have h2 := (hb.max m (j - i) (by omega)).1 o ho
      have h3 := conv_ge (r := ra m) (s := rb m) hj hi
      omega
    refine ⟨fun z hz => ?_, ?_⟩
    · obtain ⟨r, hr, o, ho, rfl⟩ := mem z hz
      exact up r hr o ho
    · obtain ⟨i, hi, e⟩ := conv_ex (r := ra m) (s := rb m) hj
      obtain ⟨_, r, hr, q1⟩ := ha.max m i (by omega)
      obtain ⟨_, o, ho, q2⟩ := hb.max m (j - i) (by omega)
      refine ⟨sortR (r ++ o), List.mem_flatMap.mpr ⟨r, hr, List.mem_map_of_mem (f := fun o => sortR (r ++ o)) ho⟩, Int.le_antisymm (up r hr o ho) ?_⟩
      rw [e, ← q1, ← q2]
      exact (conv_rows (ha.row r hr) (hb.row o ho)).1 j i hi
theorem foldM_in (b : Option Int) (m : Nat) : ∀ (Bs : List Beh) (r : List Int), (∀ B ∈ Bs, Good B) → r.length = m + 1 → ∀ j, at_ (foldM b m Bs r) j = at_ r j ∨ ∃ B ∈ Bs, at_ (foldM b m Bs r) j = at_ (B.row b m) j
  | [], r, _, _, j => .inl rfl
  | B :: Bs, r, gd, hr, j => by
    have e := (gd B (by simp)).rlen b m
    have ml : (maxR r (B.row b m)).length = m + 1 := by rw [max_len (by rw [hr, e])]; exact hr
    rcases foldM_in b m Bs (maxR r (B.row b m)) (fun B' hB => gd B' (by simp [hB])) ml j with z | ⟨B', hB', z⟩
    · have mx := max_at (r := r) (s := B.row b m) (by rw [hr, e]) j
      show at_ (foldM b m Bs (maxR r (B.row b m))) j = _ ∨ _
      split at mx
      · exact .inr ⟨B, by simp, z.trans mx⟩
      · exact .inl (z.trans mx)
    · exact .inr ⟨B', List.mem_cons_of_mem _ hB', z⟩
/-- a part: its names, its rows, how it behaves -/
structure PartR where
  N : Nat
  rs : List RowL
  B : Beh
theorem rs_one {n : Nat} {b : Option Int} (ps : List PartR) (h : ∀ p ∈ ps, Rs n p.N p.rs (p.B.row b)) (gd : ∀ p ∈ ps, Good p.B) : Rs n (ps.map PartR.N).sum (noC (ps.flatMap PartR.rs) [[]]) fun m => foldM b m (ps.map PartR.B) (zeroR m) := by
  have zl : ∀ m, (zeroR m).length = m + 1 := fun m => by simp [zeroR]
  have mem : ∀ r ∈ noC (ps.flatMap PartR.rs) [[]], r = [] ∨ ∃ p ∈ ps, r ∈ p.rs := fun r hr => by
    rcases no_mem r hr with z | z
    · exact .inl (List.mem_singleton.mp z)
    · obtain ⟨p, hp, q⟩ := List.mem_flatMap.mp z
      exact .inr ⟨p, hp, q⟩
  have rowsOk : ∀ r ∈ ps.flatMap PartR.rs, Row r := fun r hr => by
    obtain ⟨p, hp, q⟩ := List.mem_flatMap.mp hr
    exact (h p hp).row r q
  have Nle : ∀ p ∈ ps, p.N ≤ (ps.map PartR.N).sum := fun p hp => by
    have : ∀ (qs : List PartR), p ∈ qs → p.N ≤ (qs.map PartR.N).sum := by
      intro qs
      induction qs with
      | nil => intro z; cases z
      | cons q qs ih =>
        intro z
        rw [List.map_cons, List.sum_cons]
        rcases List.mem_cons.mp z with rfl | z
        · omega
        · have := ih z; omega
    exact this ps hp
  have gB : ∀ B ∈ ps.map PartR.B, Good B := fun B hB => by
    obtain ⟨p, hp, rfl⟩ := List.mem_map.mp hB
    exact gd p hp
  refine ⟨fun r hr => ?_, fun r hr l hl => ?_, fun r hr => ?_, ?_, fun m j hj => ?_⟩
  · rcases mem r hr with rfl | ⟨p, hp, q⟩
    · exact row_nil
    · exact (h p hp).row r q
  · rcases mem r hr with rfl | ⟨p, hp, q⟩
    · cases hl
    · exact (h p hp).low r q l hl
  · rcases mem r hr with rfl | ⟨p, hp, q⟩
    · exact Nat.zero_le _
    · exact Nat.le_trans ((h p hp).len r q) (Nat.mul_le_mul (Nle p hp) (Nat.le_refl _))
  · refine cnt_no ?_
    have e : ∀ qs : List PartR, (∀ p ∈ qs, Rs n p.N p.rs (p.B.row b)) → ne (qs.flatMap PartR.rs) ≤ ((qs.map PartR.N).map fun n => 2 ^ n - 1).sum := by
      intro qs
      induction qs with
      | nil => intro _; exact Nat.le_refl _
      | cons q qs ih =>
        intro hq
        have c := (hq q (by simp)).cnt.1
        have := ih fun p hp => hq p (List.mem_cons_of_mem _ hp)
        rw [List.flatMap_cons, ne_app, List.map_cons, List.map_cons, List.sum_cons]
        omega
    have := e ps h
    have := cnt_pow (ps.map PartR.N)
    omega
  · have fg := foldM_ge b m (ps.map PartR.B) (zeroR m) gB (zl m) j
    have up : ∀ r ∈ noC (ps.flatMap PartR.rs) [[]], S (E r) j ≤ at_ (foldM b m (ps.map PartR.B) (zeroR m)) j := fun r hr => by
      rcases mem r hr with rfl | ⟨p, hp, q⟩
      · rw [E_nil, S_nil]
        have := fg.1
        rw [at_zero] at this
        exact this
      · exact Int.le_trans (((h p hp).max m j hj).1 r q) (fg.2 _ (List.mem_map_of_mem hp))
    refine ⟨up, ?_⟩
    have ex : ∃ r, (r ∈ [([] : RowL)] ∨ r ∈ ps.flatMap PartR.rs) ∧ S (E r) j = at_ (foldM b m (ps.map PartR.B) (zeroR m)) j := by
      rcases foldM_in b m (ps.map PartR.B) (zeroR m) gB (zl m) j with z | ⟨B, hB, z⟩
      · exact ⟨[], .inl (by simp), by rw [z, at_zero, E_nil, S_nil]⟩
      · obtain ⟨p, hp, rfl⟩ := List.mem_map.mp hB
        obtain ⟨_, r, hr, q⟩ := (h p hp).max m j hj
        exact ⟨r, .inr (List.mem_flatMap.mpr ⟨p, hp, hr⟩), q.trans z.symm⟩
    obtain ⟨r, hr, q⟩ := ex
    obtain ⟨o, ho, dom⟩ := no_dom (rs := ps.flatMap PartR.rs) (kept := [[]]) (fun x hx => by rw [List.mem_singleton] at hx; rw [hx]; exact row_nil) rowsOk r hr
    exact ⟨o, ho, Int.le_antisymm (up o ho) (by rw [← q]; exact dom j)⟩
end P55
namespace P55
open Pv P25 P50 P46 P27 P54 PySem.Spec PyProof.Rows L2
open PySem (Str PyData)
abbrev Pt := D × Beh × List Str
/-- d is a right of at most n forms within one another that behaves as B, xs its names -/
def Rt : Nat → D → Beh → List Str → Prop
  | 0, _, _, _ => False
  | n + 1, d, B, xs =>
    (d = .tup [.str "none"] ∧ B = noneB ∧ xs = []) ∨
    (∃ x a t, (NameOk x ∧ PyData.strOk x = true) ∧ (1 ≤ a ∧ a ≤ 200) ∧ (1 ≤ t ∧ t ≤ 1000) ∧ d = .tup [.str "call", .str x, .int a, .int t] ∧ B = callB a t ∧ xs = [x]) ∨
    (∃ k d' B', (1 ≤ k ∧ k ≤ 200) ∧ Rt n d' B' xs ∧ d = .tup [.str "within", .int k, d'] ∧ B = withinB k B') ∨
    (∃ k d' B', (1 ≤ k ∧ k ≤ 400) ∧ Rt n d' B' xs ∧ d = .tup [.str "calls", .int k, d'] ∧ B = callsB k B') ∨
    (∃ ps : List Pt, ps.length ≤ 10 ∧ (∀ p ∈ ps, Rt n p.1 p.2.1 p.2.2) ∧ d = .tup [.str "all", .tup (ps.map fun p => p.1)] ∧ B = allB (ps.map fun p => p.2.1) ∧ xs = (ps.map fun p => p.2.2).flatten) ∨
    (∃ ps : List Pt, ps.length ≤ 10 ∧ (∀ p ∈ ps, Rt n p.1 p.2.1 p.2.2) ∧ d = .tup [.str "one", .tup (ps.map fun p => p.1)] ∧ B = oneB (ps.map fun p => p.2.1) ∧ xs = (ps.map fun p => p.2.2).flatten)
theorem all2_pt {α β : Type} {P : α → β → Prop} (f : Pt → α) (g : Pt → β) : ∀ ps : List Pt, (∀ p ∈ ps, P (f p) (g p)) → All2 P (ps.map f) (ps.map g)
  | [], _ => trivial
  | p :: ps, h => ⟨h p (by simp), all2_pt f g ps fun q hq => h q (List.mem_cons_of_mem _ hq)⟩
theorem rt_rgt : ∀ {n : Nat} {d : D} {B : Beh} {xs : List Str}, Rt n d B xs → Rgt n d B
  | 0, _, _, _, h => h.elim
  | n + 1, d, B, xs, h => by
    rcases h with ⟨h1, h2, _⟩ | ⟨x, a, t, hx, ha, ht, h1, h2, _⟩ | ⟨k, d', B', hk, hr, h1, h2⟩ | ⟨k, d', B', hk, hr, h1, h2⟩ | ⟨ps, hl, hr, h1, h2, _⟩ | ⟨ps, hl, hr, h1, h2, _⟩
    · exact .inl ⟨h1, h2⟩
    · exact .inr (.inl ⟨x, a, t, ⟨ha.1, hx.2⟩, by omega, ht.1, ht.2, h1, h2⟩)
    · exact .inr (.inr (.inl ⟨k, d', B', hk.1, by omega, rt_rgt hr, h1, h2⟩))
    · exact .inr (.inr (.inr (.inl ⟨k, d', B', hk.1, hk.2, rt_rgt hr, h1, h2⟩)))
    · exact .inr (.inr (.inr (.inr (.inl ⟨_, _, by simpa using hl, all2_pt (fun p => p.1) (fun p => p.2.1) ps fun p hp => rt_rgt (hr p hp), h1, h2⟩))))
    · exact .inr (.inr (.inr (.inr (.inr ⟨_, _, by simpa using hl, all2_pt (fun p => p.1) (fun p => p.2.1) ps fun p hp => rt_rgt (hr p hp), h1, h2⟩))))
theorem rt_fm : ∀ {n : Nat} {d : D} {B : Beh} {xs : List Str}, Rt n d B xs → Fm n d xs
  | 0, _, _, _, h => h.elim
  | n + 1, d, B, xs, h => by
    rcases h with ⟨h1, _, h2⟩ | ⟨x, a, t, hx, ha, ht, h1, _, h2⟩ | ⟨k, d', B', hk, hr, h1, _⟩ | ⟨k, d', B', hk, hr, h1, _⟩ | ⟨ps, hl, hr, h1, _, h2⟩ | ⟨ps, hl, hr, h1, _, h2⟩
    · exact .inl ⟨h1, h2⟩
    · exact .inr (.inl ⟨x, a, t, hx.1, ha.1, ht.1, h1, h2⟩)
    · exact .inr (.inr (.inl ⟨k, d', hk.1, rt_fm hr, h1⟩))
    · exact .inr (.inr (.inr (.inl ⟨k, d', hk.1, rt_fm hr, h1⟩)))
    · exact .inr (.inr (.inr (.inr (.inl ⟨_, _, all2_pt (fun p => p.1) (fun p => p.2.2) ps fun p hp => rt_fm (hr p hp), h1, h2⟩))))
    · exact .inr (.inr (.inr (.inr (.inr ⟨_, _, all2_pt (fun p => p.1) (fun p => p.2.2) ps fun p hp => rt_fm (hr p hp), h1, h2⟩))))
theorem rt_up : ∀ {n : Nat} {d : D} {B : Beh} {xs : List Str} {m : Nat}, Rt n d B xs → n ≤ m → Rt m d B xs
  | 0, _, _, _, _, h, _ => h.elim
  | n + 1, d, B, xs, 0, _, h => by omega
  | n + 1, d, B, xs, m + 1, h, hm => by
    rcases h with h | h | ⟨k, d', B', hk, hr, h1, h2⟩ | ⟨k, d', B', hk, hr, h1, h2⟩ | ⟨ps, hl, hr, h1, h2, h3⟩ | ⟨ps, hl, hr, h1, h2, h3⟩
    · exact .inl h
    · exact .inr (.inl h)
    · exact .inr (.inr (.inl ⟨k, d', B', hk, rt_up hr (by omega), h1, h2⟩))
    · exact .inr (.inr (.inr (.inl ⟨k, d', B', hk, rt_up hr (by omega), h1, h2⟩)))
    · exact .inr (.inr (.inr (.inr (.inl ⟨ps, hl, fun p hp => rt_up (hr p hp) (by omega), h1, h2, h3⟩))))
    · exact .inr (.inr (.inr (.inr (.inr ⟨ps, hl, fun p hp => rt_up (hr p hp) (by omega), h1, h2, h3⟩))))
/-- no bound above g tells anything -/
structure Far (g : Int) (B : Beh) : Prop where
  top : ∀ b, g < b → B.top (some b) = B.top none
  row : ∀ b m, g < b → B.row (some b) m = B.row none m
theorem far_none (g : Int) : Far g noneB := ⟨fun _ _ => rfl, fun _ _ _ => rfl⟩
theorem cut_far {a b : Int} (h : a < b) : cutA (some b) a = cutA none a := by
  show mn a (b - 1) = a
  unfold mn
  split <;> omega
theorem far_call (a t : Int) : Far a (callB a t) := ⟨fun b h => by show t * cutA (some b) a = t * cutA none a; rw [cut_far h], fun b m h => by
  show ((List.range (m + 1)).map fun j : Nat => mn t (j : Int) * cutA (some b) a) = (List.range (m + 1)).map fun j : Nat => mn t (j : Int) * cutA none a
  rw [cut_far h]⟩
theorem far_within {g k : Int} {B : Beh} (h : Far g B) : Far g (withinB k B) := ⟨fun b hb => by show mn k (B.top (some b)) = mn k (B.top none); rw [h.top b hb], fun b m hb => by show (B.row (some b) m).map (mn k) = (B.row none m).map (mn k); rw [h.row b m hb]⟩
theorem far_calls {g k : Int} {B : Beh} (h : Far g B) : Far g (callsB k B) := ⟨fun b hb => by show at_ (B.row (some b) _) _ = at_ (B.row none _) _; rw [h.row b _ hb], fun b m hb => by
  show ((List.range (m + 1)).map fun j : Nat => at_ (B.row (some b) m) (mn (j : Int) k).toNat) = (List.range (m + 1)).map fun j : Nat => at_ (B.row none m) (mn (j : Int) k).toNat
  rw [h.row b m hb]⟩
theorem far_fold {g b : Int} (hb : g < b) (m : Nat) (op : List Int → List Int → List Int) : ∀ (Bs : List Beh) (r : List Int), (∀ B ∈ Bs, Far g B) → Bs.foldl (fun r B' => op r (B'.row (some b) m)) r = Bs.foldl (fun r B' => op r (B'.row none m)) r
  | [], _, _ => rfl
  | B :: Bs, r, h => by
    rw [List.foldl_cons, List.foldl_cons, (h B (by simp)).row b m hb]
    exact far_fold hb m op Bs _ fun B' hB => h B' (List.mem_cons_of_mem _ hB)
theorem far_tops {g b : Int} (hb : g < b) {Bs : List Beh} (h : ∀ B ∈ Bs, Far g B) : (Bs.map fun B' => B'.top (some b)) = Bs.map fun B' => B'.top none := List.map_congr_left fun B hB => (h B hB).top b hb
theorem far_all {g : Int} {Bs : List Beh} (h : ∀ B ∈ Bs, Far g B) : Far g (allB Bs) := ⟨fun b hb => by show (Bs.map fun B' => B'.top (some b)).sum = (Bs.map fun B' => B'.top none).sum; rw [far_tops hb h], fun b m hb => far_fold hb m (convR m) Bs _ h⟩
theorem far_one {g : Int} {Bs : List Beh} (h : ∀ B ∈ Bs, Far g B) : Far g (oneB Bs) := ⟨fun b hb => by show mxL 0 (Bs.map fun B' => B'.top (some b)) = mxL 0 (Bs.map fun B' => B'.top none); rw [far_tops hb h], fun b m hb => far_fold hb m maxR Bs _ h⟩
theorem Far.more {g g' : Int} {B : Beh} (h : Far g B) (hg : g ≤ g') : Far g' B := ⟨fun b hb => h.top b (by omega), fun b m hb => h.row b m (by omega)⟩
end P55
set_option maxRecDepth 100000
set_option maxHeartbeats 4000000
namespace K33
open PySem PySem.Spec PyProof.Rows L2 Pv P25 P66 P50 P54 P55
section
variable {K : PySem.W.Frag} {κ : Cls} {mg : Str → Option Value}
/-- no amount is too great -/
def Low (r : List Lot) : Prop := ∀ l ∈ r, 0 ≤ l.1 ∧ l.1 < 10 ^ 12
theorem Low.tail {l : Lot} {r : List Lot} (h : Low (l :: r)) : Low r := fun x hx => h x (List.mem_cons_of_mem _ hx)
def g456 : SG K κ := gT 3 (gs1 (gN 4) (gs1 (gN 5) (gs1 (gN 6) (gs0))))
def bdSf : SS K κ := (sSeq (sIf (tV' (eGe (eV 5) (eV 3))) (sSeq (sRet (eAdd (eV 2) (eMul (eV 4) (eV 3)))) (sNil)) (sNil)) (sSeq (sAugAdd 2 (eMul (eV 4) (eV 5))) (sSeq (sAugSub 3 (eV 5)) (sNil))))
theorem sf_loop (X Y : D) : ∀ (r : List Lot) (t k : Int) (s4 s5 s6 : Option W), Low r →
    (∃ ρ', loopS (g456 (K := K) (κ := κ)).put (bdSf (K := K) (κ := κ)).sv (r.map lotD) [some (.d X), some (.d Y), some (.d (.int t)), some (.d (.int k)), s4, s5, s6] = .ok (.rt (.d (.int (sfC r t k)))) ρ') ∨
    (∃ u3 u4 u5 u6, loopS (g456 (K := K) (κ := κ)).put (bdSf (K := K) (κ := κ)).sv (r.map lotD) [some (.d X), some (.d Y), some (.d (.int t)), some (.d (.int k)), s4, s5, s6] = .ok .nx [some (.d X), some (.d Y), some (.d (.int (sfC r t k))), u3, u4, u5, u6])
  | [], t, k, s4, s5, s6, _ => .inr ⟨_, s4, s5, s6, rfl⟩
  | l :: r, t, k, s4, s5, s6, h => by
    obtain ⟨a, n, x⟩ := l
    have ha := h (a, n, x) (by simp)
    have c1 : CMul a k := cm ha.1 ha.2
    have c2 : CMul a n := cm ha.1 ha.2
    by_cases c : k ≤ n
    · have e : sfC ((a, n, x) :: r) t k = t + a * k := if_pos c
      rw [e]
      refine .inl ⟨[some (.d X), some (.d Y), some (.d (.int t)), some (.d (.int k)), some (.d (.int a)), some (.d (.int n)), some (.d (.str x))], loop_rt (ρ1 := [some (.d X), some (.d Y), some (.d (.int t)), some (.d (.int k)), some (.d (.int a)), some (.d (.int n)), some (.d (.str x))]) rfl ?_⟩
      exact seq_rt (if_tr (ρ1 := [some (.d X), some (.d Y), some (.d (.int t)), some (.d (.int k)), some (.d (.int a)), some (.d (.int n)), some (.d (.str x))]) (by simp? [decide_eq_true c]) (seq_ret (by simp? [if_pos c1])))
    · have e : sfC ((a, n, x) :: r) t k = sfC r (t + a * n) (k - n) := if_neg c
      rw [e]
      have st : (bdSf (K := K) (κ := κ)).sv [some (.d X), some (.d Y), some (.d (.int t)), some (.d (.int k)), some (.d (.int a)), some (.d (.int n)), some (.d (.str x))] = .ok .nx [some (.d X), some (.d Y), some (.d (.int (t + a * n))), some (.d (.int (k - n))), some (.d (.int a)), some (.d (.int n)), some (.d (.str x))] := by
        refine seq_nx (if_no (ρ1 := [some (.d X), some (.d Y), some (.d (.int t)), some (.d (.int k)), some (.d (.int a)), some (.d (.int n)), some (.d (.str x))]) (by simp? [decide_eq_false c])) ?_
        simp? [sAugI_sv, if_pos c2]
      rcases sf_loop X Y r (t + a * n) (k - n) (some (.d (.int a))) (some (.d (.int n))) (some (.d (.str x))) h.tail with ⟨ρ', e⟩ | ⟨u3, u4, u5, u6, e⟩
      · exact .inl ⟨ρ', (loop_nx rfl st).trans e⟩
      · exact .inr ⟨u3, u4, u5, u6, (loop_nx rfl st).trans e⟩
theorem v_sum_first (T : Tx K κ mg) {r : List Lot} (h : Low r) (k : Int) : f_sum_of_first T [.d (rowD r), .d (.int k)] = .ok (.d (.int (sfC r 0 k))) [.d (rowD r), .d (.int k)] := by
  have b : b_sum_of_first T = sSeq (sAsg 2 (eInt 0)) (sSeq (sAsg 3 (eV 1)) (sSeq (sFor (iT (eV 0)) g456 bdSf) (sSeq (sRet (eV 2)) (sNil)))) := rfl
  have f : ∀ res, loopS (g456 (K := K) (κ := κ)).put (bdSf (K := K) (κ := κ)).sv (r.map lotD) [some (.d (rowD r)), some (.d (.int k)), some (.d (.int 0)), some (.d (.int k)), none, none, none] = res → (sFor (iT (eV 0)) (g456 (K := K) (κ := κ)) bdSf).sv [some (.d (rowD r)), some (.d (.int k)), some (.d (.int 0)), some (.d (.int k)), none, none, none] = res := fun res e => for_of (ρ1 := [some (.d (rowD r)), some (.d (.int k)), some (.d (.int 0)), some (.d (.int k)), none, none, none]) (xs := r.map lotD) rfl e
  rcases sf_loop (K := K) (κ := κ) (rowD r) (.int k) r 0 k none none none h with ⟨ρ', e⟩ | ⟨u3, u4, u5, u6, e⟩
  · refine fn_rt (ρ := ρ') ?_ rfl
    rw [b]
    refine seq_nx (ρ' := [some (.d (rowD r)), some (.d (.int k)), some (.d (.int 0)), none, none, none, none]) rfl ?_
    refine seq_nx (ρ' := [some (.d (rowD r)), some (.d (.int k)), some (.d (.int 0)), some (.d (.int k)), none, none, none]) rfl ?_
    exact seq_rt (f _ e)
  · refine fn_rt (ρ := [some (.d (rowD r)), some (.d (.int k)), some (.d (.int (sfC r 0 k))), u3, u4, u5, u6]) ?_ rfl
    rw [b]
    refine seq_nx (ρ' := [some (.d (rowD r)), some (.d (.int k)), some (.d (.int 0)), none, none, none, none]) rfl ?_
    refine seq_nx (ρ' := [some (.d (rowD r)), some (.d (.int k)), some (.d (.int 0)), some (.d (.int k)), none, none, none]) rfl ?_
    exact seq_nx (f _ e) (seq_ret rfl)
def bdOut (T : Tx K κ mg) : SS K κ := (sSeq (sAugAdd 2 (eV 5)) (sSeq (sAugAdd 3 (eMul (eV 4) (eV 5))) (sSeq (sIf (tV' (eLt (eCall 2 (f_sum_of_first T) (aCons (eV 0) (aCons (eV 2) (aNil)))) (eV 3))) (sSeq (sRet (eBl false)) (sNil)) (sNil)) (sNil))))
theorem out_loop (T : Tx K κ mg) {row : List Lot} (hr : Low row) (Y : D) : ∀ (o : List Lot) (c t : Int) (s4 s5 s6 : Option W), Low o →
    (outC row o c t = false ∧ ∃ ρ', loopS (g456 (K := K) (κ := κ)).put (bdOut T).sv (o.map lotD) [some (.d (rowD row)), some (.d Y), some (.d (.int c)), some (.d (.int t)), s4, s5, s6] = .ok (.rt (.d (.bl false))) ρ') ∨
    (outC row o c t = true ∧ ∃ u2 u3 u4 u5 u6, loopS (g456 (K := K) (κ := κ)).put (bdOut T).sv (o.map lotD) [some (.d (rowD row)), some (.d Y), some (.d (.int c)), some (.d (.int t)), s4, s5, s6] = .ok .nx [some (.d (rowD row)), some (.d Y), u2, u3, u4, u5, u6])
  | [], c, t, s4, s5, s6, _ => .inr ⟨rfl, _, _, s4, s5, s6, rfl⟩
  | l :: o, c, t, s4, s5, s6, h => by
    obtain ⟨a, n, x⟩ := l
    have ha := h (a, n, x) (by simp)
    have c2 : CMul a n := cm ha.1 ha.2
    have sf := v_sum_first T hr (c + n)
    have e0 : outC row ((a, n, x) :: o) c t = if sfC row 0 (c + n) < t + a * n then false else outC row o (c + n) (t + a * n) := rfl
    obtain ⟨R0, hR⟩ : ∃ z, rowD row = z := ⟨_, rfl⟩
    rw [hR] at sf
    by_cases q : sfC row 0 (c + n) < t + a * n
    · rw [e0, if_pos q, hR]
      refine .inl ⟨rfl, [some (.d R0), some (.d Y), some (.d (.int (c + n))), some (.d (.int (t + a * n))), some (.d (.int a)), some (.d (.int n)), some (.d (.str x))], loop_rt (ρ1 := [some (.d R0), some (.d Y), some (.d (.int c)), some (.d (.int t)), some (.d (.int a)), some (.d (.int n)), some (.d (.str x))]) rfl ?_⟩
      refine seq_nx (ρ' := [some (.d R0), some (.d Y), some (.d (.int (c + n))), some (.d (.int t)), some (.d (.int a)), some (.d (.int n)), some (.d (.str x))]) (by simp? [sAugI_sv]) ?_
      refine seq_nx (ρ' := [some (.d R0), some (.d Y), some (.d (.int (c + n))), some (.d (.int (t + a * n))), some (.d (.int a)), some (.d (.int n)), some (.d (.str x))]) (by simp? [sAugI_sv, if_pos c2]) ?_
      exact seq_rt (if_tr (ρ1 := [some (.d R0), some (.d Y), some (.d (.int (c + n))), some (.d (.int (t + a * n))), some (.d (.int a)), some (.d (.int n)), some (.d (.str x))]) (by simp? [sf, decide_eq_true q]) (seq_ret rfl))
    · rw [e0, if_neg q]
      have st : (bdOut T).sv [some (.d (rowD row)), some (.d Y), some (.d (.int c)), some (.d (.int t)), some (.d (.int a)), some (.d (.int n)), some (.d (.str x))] = .ok .nx [some (.d (rowD row)), some (.d Y), some (.d (.int (c + n))), some (.d (.int (t + a * n))), some (.d (.int a)), some (.d (.int n)), some (.d (.str x))] := by
        rw [hR]
        refine seq_nx (ρ' := [some (.d R0), some (.d Y), some (.d (.int (c + n))), some (.d (.int t)), some (.d (.int a)), some (.d (.int n)), some (.d (.str x))]) (by simp? [sAugI_sv]) ?_
        refine seq_nx (ρ' := [some (.d R0), some (.d Y), some (.d (.int (c + n))), some (.d (.int (t + a * n))), some (.d (.int a)), some (.d (.int n)), some (.d (.str x))]) (by simp? [sAugI_sv, if_pos c2]) ?_
        exact seq_nx (if_no (by simp? [sf, decide_eq_false q])) rfl
      rcases out_loop T hr Y o (c + n) (t + a * n) (some (.d (.int a))) (some (.d (.int n))) (some (.d (.str x))) h.tail with ⟨e1, ρ', e⟩ | ⟨e1, u2, u3, u4, u5, u6, e⟩
      · exact .inl ⟨e1, ρ', (loop_nx rfl st).trans e⟩
      · exact .inr ⟨e1, u2, u3, u4, u5, u6, (loop_nx rfl st).trans e⟩
theorem v_outdoes (T : Tx K κ mg) {row o : List Lot} (hr : Low row) (ho : Low o) : f__outdoes T [.d (rowD row), .d (rowD o)] = .ok (.d (.bl (outC row o 0 0))) [.d (rowD row), .d (rowD o)] := by
  have b : b__outdoes T = sSeq (sAsgTwo 2 3 (eInt 0)) (sSeq (sFor (iT (eV 1)) g456 (bdOut T)) (sSeq (sRet (eBl true)) (sNil))) := rfl
  have f : ∀ res, loopS (g456 (K := K) (κ := κ)).put (bdOut T).sv (o.map lotD) [some (.d (rowD row)), some (.d (rowD o)), some (.d (.int 0)), some (.d (.int 0)), none, none, none] = res → (sFor (iT (eV 1)) (g456 (K := K) (κ := κ)) (bdOut T)).sv [some (.d (rowD row)), some (.d (rowD o)), some (.d (.int 0)), some (.d (.int 0)), none, none, none] = res := fun res e => for_of (ρ1 := [some (.d (rowD row)), some (.d (rowD o)), some (.d (.int 0)), some (.d (.int 0)), none, none, none]) (xs := o.map lotD) rfl e
  rcases out_loop T hr (rowD o) o 0 0 none none none ho with ⟨e1, ρ', e⟩ | ⟨e1, u2, u3, u4, u5, u6, e⟩
  · rw [e1]
    refine fn_rt (ρ := ρ') ?_ rfl
    rw [b]
    refine seq_nx (ρ' := [some (.d (rowD row)), some (.d (rowD o)), some (.d (.int 0)), some (.d (.int 0)), none, none, none]) rfl ?_
    exact seq_rt (f _ e)
  · rw [e1]
    refine fn_rt (ρ := [some (.d (rowD row)), some (.d (rowD o)), u2, u3, u4, u5, u6]) ?_ rfl
    rw [b]
    refine seq_nx (ρ' := [some (.d (rowD row)), some (.d (rowD o)), some (.d (.int 0)), some (.d (.int 0)), none, none, none]) rfl ?_
    exact seq_nx (f _ e) (seq_ret rfl)
def bdCc : SS K κ := (sSeq (sAsg 7 (eMin2 (aCons (eV 5) (aCons (eV 3) (aNil))))) (sSeq (sIf (tV' (eGt (eV 7) (eInt 0))) (sSeq (sApp K rfl 2 (eTup (aCons (eV 4) (aCons (eV 7) (aCons (eV 6) (aNil)))))) (sNil)) (sNil)) (sSeq (sAugSub 3 (eV 7)) (sNil))))
theorem cc_loop (X Y : D) : ∀ (r acc : List Lot) (k : Int) (s4 s5 s6 s7 : Option W), acc.length + r.length ≤ 100000 →
    ∃ u3 u4 u5 u6 u7, loopS (g456 (K := K) (κ := κ)).put (bdCc (K := K) (κ := κ)).sv (r.map lotD) [some (.d X), some (.d Y), some (.ml (acc.map lotD)), some (.d (.int k)), s4, s5, s6, s7] = .ok .nx [some (.d X), some (.d Y), some (.ml ((acc ++ ccC r k).map lotD)), u3, u4, u5, u6, u7]
  | [], acc, k, s4, s5, s6, s7, _ => ⟨_, s4, s5, s6, s7, by rw [show ccC [] k = [] from rfl, List.append_nil]; rfl⟩
  | l :: r, acc, k, s4, s5, s6, s7, h => by
    obtain ⟨a, n, x⟩ := l
    simp only [List.length_cons] at h
    have mm : gMin2 [.int n, .int k] = some (.int (mn n k)) := by rfl
    have ll : (acc.map lotD).length < 1000000 := by simp; omega
    have e0 : ccC ((a, n, x) :: r) k = (if 0 < mn n k then [(a, mn n k, x)] else []) ++ ccC r (k - mn n k) := rfl
    obtain ⟨m, hm⟩ : ∃ m, mn n k = m := ⟨_, rfl⟩
    rw [hm] at mm e0
    rw [e0]
    by_cases c : 0 < m
    · rw [if_pos c]
      have st : (bdCc (K := K) (κ := κ)).sv [some (.d X), some (.d Y), some (.ml (acc.map lotD)), some (.d (.int k)), some (.d (.int a)), some (.d (.int n)), some (.d (.str x)), s7] = .ok .nx [some (.d X), some (.d Y), some (.ml ((acc ++ [(a, m, x)]).map lotD)), some (.d (.int (k - m))), some (.d (.int a)), some (.d (.int n)), some (.d (.str x)), some (.d (.int m))] := by
        rw [List.map_append]
        refine seq_nx (ρ' := [some (.d X), some (.d Y), some (.ml (acc.map lotD)), some (.d (.int k)), some (.d (.int a)), some (.d (.int n)), some (.d (.str x)), some (.d (.int m))]) (by simp? [mm]) ?_
        refine seq_nx (ρ' := [some (.d X), some (.d Y), some (.ml (acc.map lotD ++ [lotD (a, m, x)])), some (.d (.int k)), some (.d (.int a)), some (.d (.int n)), some (.d (.str x)), some (.d (.int m))]) (if_tr (ρ1 := [some (.d X), some (.d Y), some (.ml (acc.map lotD)), some (.d (.int k)), some (.d (.int a)), some (.d (.int n)), some (.d (.str x)), some (.d (.int m))]) (by simp? [decide_eq_true c]) (by simp? [if_pos ll]; rfl)) ?_
        simp? [sAugI_sv]
      obtain ⟨u3, u4, u5, u6, u7, e⟩ := cc_loop X Y r (acc ++ [(a, m, x)]) (k - m) (some (.d (.int a))) (some (.d (.int n))) (some (.d (.str x))) (some (.d (.int m))) (by simp; omega)
      rw [List.append_assoc] at e
      exact ⟨u3, u4, u5, u6, u7, (loop_nx rfl st).trans e⟩
    · rw [if_neg c, List.nil_append]
      have st : (bdCc (K := K) (κ := κ)).sv [some (.d X), some (.d Y), some (.ml (acc.map lotD)), some (.d (.int k)), some (.d (.int a)), some (.d (.int n)), some (.d (.str x)), s7] = .ok .nx [some (.d X), some (.d Y), some (.ml (acc.map lotD)), some (.d (.int (k - m))), some (.d (.int a)), some (.d (.int n)), some (.d (.str x)), some (.d (.int m))] := by
        refine seq_nx (ρ' := [some (.d X), some (.d Y), some (.ml (acc.map lotD)), some (.d (.int k)), some (.d (.int a)), some (.d (.int n)), some (.d (.str x)), some (.d (.int m))]) (by simp? [mm]) ?_
        refine seq_nx (if_no (ρ1 := [some (.d X), some (.d Y), some (.ml (acc.map lotD)), some (.d (.int k)), some (.d (.int a)), some (.d (.int n)), some (.d (.str x)), some (.d (.int m))]) (by simp? [decide_eq_false c])) ?_
        simp? [sAugI_sv]
      obtain ⟨u3, u4, u5, u6, u7, e⟩ := cc_loop X Y r acc (k - m) (some (.d (.int a))) (some (.d (.int n))) (some (.d (.str x))) (some (.d (.int m))) (by omega)
      exact ⟨u3, u4, u5, u6, u7, (loop_nx rfl st).trans e⟩
theorem v_cut_count (T : Tx K κ mg) (r : List Lot) (k : Int) (h : r.length ≤ 10000) : f__cut_at_count T [.d (rowD r), .d (.int k)] = .ok (.d (rowD (ccC r k))) [.d (rowD r), .d (.int k)] := by
  have b : b__cut_at_count T = sSeq (sAsg 2 (eLstM (aNil))) (sSeq (sAsg 3 (eV 1)) (sSeq (sFor (iT (eV 0)) g456 bdCc) (sSeq (sRet (eTupOf (aCons (eV 2) (aNil)))) (sNil)))) := rfl
  obtain ⟨u3, u4, u5, u6, u7, e⟩ := cc_loop (K := K) (κ := κ) (rowD r) (.int k) r [] k none none none none (by simp; omega)
  rw [List.nil_append] at e
  have f : (sFor (iT (eV 0)) (g456 (K := K) (κ := κ)) bdCc).sv [some (.d (rowD r)), some (.d (.int k)), some (.ml []), some (.d (.int k)), none, none, none, none] = _ := for_of (ρ1 := [some (.d (rowD r)), some (.d (.int k)), some (.ml []), some (.d (.int k)), none, none, none, none]) (xs := r.map lotD) rfl e
  have tp : gTupOf [.lst ((ccC r k).map lotD)] = some (rowD (ccC r k)) := rfl
  refine fn_rt (ρ := [some (.d (rowD r)), some (.d (.int k)), some (.d (.lst ((ccC r k).map lotD))), u3, u4, u5, u6, u7]) ?_ rfl
  rw [b]
  refine seq_nx (ρ' := [some (.d (rowD r)), some (.d (.int k)), some (.ml []), none, none, none, none, none]) rfl ?_
  refine seq_nx (ρ' := [some (.d (rowD r)), some (.d (.int k)), some (.ml []), some (.d (.int k)), none, none, none, none]) rfl ?_
  refine seq_nx f ?_
  exact seq_ret (by simp? [tp])
end
end K33
set_option maxRecDepth 100000
set_option maxHeartbeats 4000000
namespace K33
open PySem PySem.Spec PyProof.Rows L2 Pv P25 P66 P50 P54 P55
section
variable {K : PySem.W.Frag} {κ : Cls} {mg : Str → Option Value}
def endCs : SE K κ := (eIf (tV' (eGt (eV 3) (eInt 0))) (eTupOf (aCons (eCatL (eV 2) (eLst (aCons (eTup (aCons (eV 3) (aCons (eInt 1) (aCons (eV 6) (aNil))))) (aNil)))) (aNil))) (eTupOf (aCons (eV 2) (aNil))))
def appCs : SS K κ := (sIf (tV' (eGt (eV 7) (eInt 0))) (sSeq (sApp K rfl 2 (eTup (aCons (eV 4) (aCons (eV 7) (aCons (eV 6) (aNil)))))) (sNil)) (sNil))
def bdCs : SS K κ := (sSeq (sAsg 7 (eMin2 (aCons (eV 5) (aCons (eDiv (eV 3) (eV 4)) (aNil))))) (sSeq appCs (sSeq (sAugSub 3 (eMul (eV 4) (eV 7))) (sSeq (sIf (tV' (eLt (eV 7) (eV 5))) (sSeq (sRet endCs) (sNil)) (sNil)) (sNil)))))
theorem app_cs (X Y : D) (acc : List Lot) (k a n m : Int) (x : Str) (h : acc.length ≤ 100000) :
    (appCs (K := K) (κ := κ)).sv [some (.d X), some (.d Y), some (.ml (acc.map lotD)), some (.d (.int k)), some (.d (.int a)), some (.d (.int n)), some (.d (.str x)), some (.d (.int m))] =
      .ok .nx [some (.d X), some (.d Y), some (.ml ((acc ++ (if 0 < m then [(a, m, x)] else [])).map lotD)), some (.d (.int k)), some (.d (.int a)), some (.d (.int n)), some (.d (.str x)), some (.d (.int m))] := by
  have ll : (acc.map lotD).length < 1000000 := by simp; omega
  by_cases c : 0 < m
  · rw [if_pos c, List.map_append]
    exact if_tr (ρ1 := [some (.d X), some (.d Y), some (.ml (acc.map lotD)), some (.d (.int k)), some (.d (.int a)), some (.d (.int n)), some (.d (.str x)), some (.d (.int m))]) (by simp? [decide_eq_true c]) (by simp? [if_pos ll]; rfl)
  · rw [if_neg c, List.append_nil]
    exact if_no (by simp? [decide_eq_false c])
theorem end_cs (X Y : D) (acc : List Lot) (k a n m : Int) (x : Str) (h : acc.length ≤ 100000) :
    ∃ ρ', (endCs (K := K) (κ := κ)).ev [some (.d X), some (.d Y), some (.ml (acc.map lotD)), some (.d (.int k)), some (.d (.int a)), some (.d (.int n)), some (.d (.str x)), some (.d (.int m))] = .ok (.d (rowD (acc ++ (if 0 < k then [(k, 1, x)] else [])))) ρ' := by
  obtain ⟨A, hA⟩ : ∃ A, acc.map lotD = A := ⟨_, rfl⟩
  by_cases c : 0 < k
  · have g : gCatL (.lst A) (.lst [lotD (k, 1, x)]) = some (.lst ((acc ++ [(k, 1, x)]).map lotD)) := by
      have e : (acc ++ [(k, 1, x)]).map lotD = A ++ [lotD (k, 1, x)] := by rw [List.map_append, hA]; rfl
      rw [e]
      exact if_pos (by rw [← hA]; simp; omega)
    have tp : gTupOf [.lst ((acc ++ [(k, 1, x)]).map lotD)] = some (rowD (acc ++ [(k, 1, x)])) := rfl
    have ld : lotD (k, 1, x) = .tup [.int k, .int 1, .str x] := rfl
    rw [ld] at g
    rw [if_pos c, hA]
    refine ⟨[some (.d X), some (.d Y), some (.d (.lst A)), some (.d (.int k)), some (.d (.int a)), some (.d (.int n)), some (.d (.str x)), some (.d (.int m))], ?_⟩
    unfold endCs eCatL
    simp? [decide_eq_true c, g, tp]
  · have tp : gTupOf [.lst (acc.map lotD)] = some (rowD acc) := rfl
    rw [hA] at tp
    rw [if_neg c, List.append_nil, hA]
    refine ⟨[some (.d X), some (.d Y), some (.d (.lst A)), some (.d (.int k)), some (.d (.int a)), some (.d (.int n)), some (.d (.str x)), some (.d (.int m))], ?_⟩
    unfold endCs
    simp? [decide_eq_false c, tp]
theorem cs_loop (X Y : D) : ∀ (r acc : List Lot) (k : Int) (s4 s5 s6 s7 : Option W), (∀ l ∈ r, 1 ≤ l.1 ∧ l.1 < 10 ^ 12) → acc.length + r.length ≤ 10000 →
    (∃ ρ', loopS (g456 (K := K) (κ := κ)).put (bdCs (K := K) (κ := κ)).sv (r.map lotD) [some (.d X), some (.d Y), some (.ml (acc.map lotD)), some (.d (.int k)), s4, s5, s6, s7] = .ok (.rt (.d (rowD (acc ++ csC r k)))) ρ') ∨
    (∃ u3 u4 u5 u6 u7, loopS (g456 (K := K) (κ := κ)).put (bdCs (K := K) (κ := κ)).sv (r.map lotD) [some (.d X), some (.d Y), some (.ml (acc.map lotD)), some (.d (.int k)), s4, s5, s6, s7] = .ok .nx [some (.d X), some (.d Y), some (.ml ((acc ++ csC r k).map lotD)), u3, u4, u5, u6, u7])
  | [], acc, k, s4, s5, s6, s7, _, _ => .inr ⟨_, s4, s5, s6, s7, by rw [show csC [] k = [] from rfl, List.append_nil]; rfl⟩
  | l :: r, acc, k, s4, s5, s6, s7, hp, h => by
    obtain ⟨a, n, x⟩ := l
    have ha := hp (a, n, x) (by simp)
    simp only [List.length_cons] at h
    have ha1 : (1 : Int) ≤ a := ha.1
    have ha2 : a < 10 ^ 12 := ha.2
    have mm : gMin2 [.int n, .int (k / a)] = some (.int (mn n (k / a))) := by rfl
    have e0 : csC ((a, n, x) :: r) k = (if 0 < mn n (k / a) then [(a, mn n (k / a), x)] else []) ++ if mn n (k / a) < n then (if 0 < k - a * mn n (k / a) then [(k - a * mn n (k / a), 1, x)] else []) else csC r (k - a * mn n (k / a)) := rfl
    obtain ⟨m, hm⟩ : ∃ m, mn n (k / a) = m := ⟨_, rfl⟩
    rw [hm] at mm e0
    have c2 : CMul a m := cm (by omega) ha2
    obtain ⟨acc2, hacc⟩ : ∃ acc2, acc ++ (if 0 < m then [(a, m, x)] else []) = acc2 := ⟨_, rfl⟩
    have l2 : acc2.length ≤ acc.length + 1 := by
      rw [← hacc, List.length_append]
      split <;> simp
    have ap := app_cs (K := K) (κ := κ) X Y acc k a n m x (by omega)
    rw [hacc] at ap
    have ea : ∀ z, acc ++ ((if 0 < m then [(a, m, x)] else []) ++ z) = acc2 ++ z := fun z => by rw [← hacc, List.append_assoc]
    rw [e0, ea]
    have s1 : (sAsg (K := K) (κ := κ) 7 (eMin2 (aCons (eV 5) (aCons (eDiv (eV 3) (eV 4)) (aNil))))).sv [some (.d X), some (.d Y), some (.ml (acc.map lotD)), some (.d (.int k)), some (.d (.int a)), some (.d (.int n)), some (.d (.str x)), s7] = .ok .nx [some (.d X), some (.d Y), some (.ml (acc.map lotD)), some (.d (.int k)), some (.d (.int a)), some (.d (.int n)), some (.d (.str x)), some (.d (.int m))] := by
      simp? [if_pos (divW12 (show 0 < a by omega) ha2), if_pos (show 0 < a by omega), mm]
    have s3 : (sAugSub (K := K) (κ := κ) 3 (eMul (eV 4) (eV 7))).sv [some (.d X), some (.d Y), some (.ml (acc2.map lotD)), some (.d (.int k)), some (.d (.int a)), some (.d (.int n)), some (.d (.str x)), some (.d (.int m))] = .ok .nx [some (.d X), some (.d Y), some (.ml (acc2.map lotD)), some (.d (.int (k - a * m))), some (.d (.int a)), some (.d (.int n)), some (.d (.str x)), some (.d (.int m))] := by
      simp? [sAugI_sv, if_pos c2]
    by_cases c : m < n
    · obtain ⟨ρ', e⟩ := end_cs (K := K) (κ := κ) X Y acc2 (k - a * m) a n m x (by omega)
      rw [if_pos c]
      refine .inl ⟨ρ', loop_rt (ρ1 := [some (.d X), some (.d Y), some (.ml (acc.map lotD)), some (.d (.int k)), some (.d (.int a)), some (.d (.int n)), some (.d (.str x)), s7]) rfl ?_⟩
      refine seq_nx s1 (seq_nx ap (seq_nx s3 (seq_rt ?_)))
      exact if_tr (ρ1 := [some (.d X), some (.d Y), some (.ml (acc2.map lotD)), some (.d (.int (k - a * m))), some (.d (.int a)), some (.d (.int n)), some (.d (.str x)), some (.d (.int m))]) (by simp? [decide_eq_true c]) (seq_ret e)
    · rw [if_neg c]
      have st : (bdCs (K := K) (κ := κ)).sv [some (.d X), some (.d Y), some (.ml (acc.map lotD)), some (.d (.int k)), some (.d (.int a)), some (.d (.int n)), some (.d (.str x)), s7] = .ok .nx [some (.d X), some (.d Y), some (.ml (acc2.map lotD)), some (.d (.int (k - a * m))), some (.d (.int a)), some (.d (.int n)), some (.d (.str x)), some (.d (.int m))] :=
        seq_nx s1 (seq_nx ap (seq_nx s3 (seq_nx (if_no (by simp? [decide_eq_false c])) rfl)))
      rcases cs_loop X Y r acc2 (k - a * m) (some (.d (.int a))) (some (.d (.int n))) (some (.d (.str x))) (some (.d (.int m))) (fun z hz => hp z (List.mem_cons_of_mem _ hz)) (by omega) with ⟨ρ', e⟩ | ⟨u3, u4, u5, u6, u7, e⟩
      · exact .inl ⟨ρ', (loop_nx rfl st).trans e⟩
      · exact .inr ⟨u3, u4, u5, u6, u7, (loop_nx rfl st).trans e⟩
theorem v_cut_sum (T : Tx K κ mg) (r : List Lot) (k : Int) (hp : ∀ l ∈ r, 1 ≤ l.1 ∧ l.1 < 10 ^ 12) (h : r.length ≤ 10000) : f__cut_at_sum T [.d (rowD r), .d (.int k)] = .ok (.d (rowD (csC r k))) [.d (rowD r), .d (.int k)] := by
  have b : b__cut_at_sum T = sSeq (sAsg 2 (eLstM (aNil))) (sSeq (sAsg 3 (eV 1)) (sSeq (sFor (iT (eV 0)) g456 bdCs) (sSeq (sRet (eTupOf (aCons (eV 2) (aNil)))) (sNil)))) := rfl
  have f : ∀ res, loopS (g456 (K := K) (κ := κ)).put (bdCs (K := K) (κ := κ)).sv (r.map lotD) [some (.d (rowD r)), some (.d (.int k)), some (.ml []), some (.d (.int k)), none, none, none, none] = res → (sFor (iT (eV 0)) (g456 (K := K) (κ := κ)) bdCs).sv [some (.d (rowD r)), some (.d (.int k)), some (.ml []), some (.d (.int k)), none, none, none, none] = res := fun res e => for_of (ρ1 := [some (.d (rowD r)), some (.d (.int k)), some (.ml []), some (.d (.int k)), none, none, none, none]) (xs := r.map lotD) rfl e
  have tp : gTupOf [.lst ((csC r k).map lotD)] = some (rowD (csC r k)) := rfl
  rcases cs_loop (K := K) (κ := κ) (rowD r) (.int k) r [] k none none none none hp (by simpa using h) with ⟨ρ', e⟩ | ⟨u3, u4, u5, u6, u7, e⟩
  · rw [List.nil_append] at e
    refine fn_rt (ρ := ρ') ?_ rfl
    rw [b]
    refine seq_nx (ρ' := [some (.d (rowD r)), some (.d (.int k)), some (.ml []), none, none, none, none, none]) rfl ?_
    refine seq_nx (ρ' := [some (.d (rowD r)), some (.d (.int k)), some (.ml []), some (.d (.int k)), none, none, none, none]) rfl ?_
    exact seq_rt (f _ e)
  · rw [List.nil_append] at e
    refine fn_rt (ρ := [some (.d (rowD r)), some (.d (.int k)), some (.d (.lst ((csC r k).map lotD))), u3, u4, u5, u6, u7]) ?_ rfl
    rw [b]
    refine seq_nx (ρ' := [some (.d (rowD r)), some (.d (.int k)), some (.ml []), none, none, none, none, none]) rfl ?_
    refine seq_nx (ρ' := [some (.d (rowD r)), some (.d (.int k)), some (.ml []), some (.d (.int k)), none, none, none, none]) rfl ?_
    refine seq_nx (f _ e) ?_
    exact seq_ret (by simp? [tp])
end
end K33
set_option maxRecDepth 100000
set_option maxHeartbeats 4000000
namespace K33
open PySem PySem.Spec PyProof.Rows L2 Pv P25 P66 P50 P54 P55
section
variable {K : PySem.W.Frag} {κ : Cls} {mg : Str → Option Value}
theorem bools_bl {α : Type} (p : α → Bool) : ∀ xs : List α, bools (xs.map fun x => D.bl (p x)) = some (xs.map p)
  | [] => rfl
  | x :: xs => by
    rw [List.map_cons, List.map_cons]
    unfold bools
    rw [bools_bl p xs]
theorem gAny_bl {α : Type} (p : α → Bool) (xs : List α) : gAny [.lst (xs.map fun x => D.bl (p x))] = some (.bl (xs.any p)) := by
  show (match bools (xs.map fun x => D.bl (p x)) with | some bs => some (D.bl (bs.any id)) | none => none) = _
  rw [bools_bl]
  simp
def lcA (T : Tx K κ mg) : SE K κ := eLc (iL (eV 1)) (gN 3) (tYes') (eCall 2 (f__outdoes T) (aCons (eV 3) (aCons (eV 2) (aNil)))) [3] (fun _ h => h)
def lcB (T : Tx K κ mg) : SE K κ := eLc (iL (eV 1)) (gN 3) (tNot' (tV (eCall 2 (f__outdoes T) (aCons (eV 2) (aCons (eV 3) (aNil)))))) (eV 3) [3] (fun _ h => h)
theorem lcA_ev (T : Tx K κ mg) (X : D) (ks : List RowL) (row : RowL) (hk : ∀ o ∈ ks, Low o) (hr : Low row) (hl : ks.length ≤ 1000) (u : Option W) :
    (lcA T).ev [some (.d X), some (.d (.lst (ks.map rowD))), some (.d (rowD row)), u] = .ok (.d (.lst (ks.map fun o => D.bl (outC o row 0 0)))) [some (.d X), some (.d (.lst (ks.map rowD))), some (.d (rowD row)), none] := by
  have l := loopC_map (vs := [3]) (put := (gN (K := K) (κ := κ) 3).put) (t := (tYes' (K := K) (κ := κ)).ev) (e := (eCall (K := K) (κ := κ) 2 (f__outdoes T) (aCons (eV 3) (aCons (eV 2) (aNil)))).ev) (ρ0 := [some (.d X), some (.d (.lst (ks.map rowD))), some (.d (rowD row)), none])
    rowD (fun o => some (.bl (outC o row 0 0))) ks [] (fun o ho => ⟨[some (.d X), some (.d (.lst (ks.map rowD))), some (.d (rowD row)), some (.d (rowD o))], [some (.d X), some (.d (.lst (ks.map rowD))), some (.d (rowD row)), some (.d (rowD o))], rfl, [some (.d X), some (.d (.lst (ks.map rowD))), some (.d (rowD row)), some (.d (rowD o))], rfl, call2_of rfl rfl (v_outdoes T (hk o ho) hr), rfl⟩) (by simpa using hl)
  rw [List.nil_append, fm_some fun o : RowL => D.bl (outC o row 0 0)] at l
  exact lc_of (vs := [3]) (it := iL (eV 1)) (g := gN 3) (t := tYes') (e := eCall 2 (f__outdoes T) (aCons (eV 3) (aCons (eV 2) (aNil)))) (hv := fun _ h => h) (xs := ks.map rowD) (ρi := [some (.d X), some (.d (.lst (ks.map rowD))), some (.d (rowD row)), u]) rfl rfl l rfl
theorem fm_keep {α : Type} (q : α → Bool) (f : α → D) : ∀ ps : List α, ps.filterMap (fun p => if q p = true then none else some (f p)) = (ps.filter fun p => !q p).map f
  | [] => rfl
  | p :: ps => by
    rw [List.filterMap_cons, List.filter_cons, fm_keep q f ps]
    cases q p <;> rfl
theorem lcB_ev (T : Tx K κ mg) (X : D) (ks : List RowL) (row : RowL) (hk : ∀ o ∈ ks, Low o) (hr : Low row) (hl : ks.length ≤ 1000) (u : Option W) :
    (lcB T).ev [some (.d X), some (.d (.lst (ks.map rowD))), some (.d (rowD row)), u] = .ok (.d (.lst ((ks.filter fun o => !outC row o 0 0).map rowD))) [some (.d X), some (.d (.lst (ks.map rowD))), some (.d (rowD row)), none] := by
  have l := loopC_map (vs := [3]) (put := (gN (K := K) (κ := κ) 3).put) (t := (tNot' (tV (eCall (K := K) (κ := κ) 2 (f__outdoes T) (aCons (eV 2) (aCons (eV 3) (aNil)))))).ev) (e := (eV (K := K) (κ := κ) 3).ev) (ρ0 := [some (.d X), some (.d (.lst (ks.map rowD))), some (.d (rowD row)), none])
    rowD (fun o => if outC row o 0 0 = true then none else some (rowD o)) ks [] (fun o ho => by
      have v := v_outdoes T hr (hk o ho)
      obtain ⟨Z, hZ⟩ : ∃ Z, D.lst (ks.map rowD) = Z := ⟨_, rfl⟩
      obtain ⟨R0, hR⟩ : ∃ z, rowD row = z := ⟨_, rfl⟩
      obtain ⟨O0, hO⟩ : ∃ z, rowD o = z := ⟨_, rfl⟩
      rw [hR, hO] at v
      rw [hZ, hR, hO]
      refine ⟨[some (.d X), some (.d Z), some (.d R0), some (.d O0)], [some (.d X), some (.d Z), some (.d R0), some (.d O0)], rfl, ?_⟩
      cases c : outC row o 0 0 with
      | true =>
        rw [c] at v
        rw [if_pos rfl]
        exact ⟨by simp? [v], rfl⟩
      | false =>
        rw [c] at v
        rw [if_neg (by decide)]
        exact ⟨[some (.d X), some (.d Z), some (.d R0), some (.d O0)], by simp? [v], rfl, rfl⟩) (by simpa using hl)
  rw [List.nil_append, fm_keep (fun o => outC row o 0 0) rowD] at l
  exact lc_of (vs := [3]) (it := iL (eV 1)) (g := gN 3) (t := tNot' (tV (eCall 2 (f__outdoes T) (aCons (eV 2) (aCons (eV 3) (aNil)))))) (e := eV 3) (hv := fun _ h => h) (xs := ks.map rowD) (ρi := [some (.d X), some (.d (.lst (ks.map rowD))), some (.d (rowD row)), u]) rfl rfl l rfl
def bdNo (T : Tx K κ mg) : SS K κ := (sSeq (sIf (tNot' (tV (eAny (aCons (lcA T) (aNil))))) (sSeq (sAsg 1 (eCatL (lcB T) (eLst (aCons (eV 2) (aNil))))) (sNil)) (sNil)) (sNil))
theorem no_step (T : Tx K κ mg) (X : D) (ks : List RowL) (row : RowL) (hk : ∀ o ∈ ks, Low o) (hr : Low row) (hl : ks.length ≤ 1000) (u : Option W) : ∃ u', (bdNo T).sv [some (.d X), some (.d (.lst (ks.map rowD))), some (.d (rowD row)), u] =
    .ok .nx [some (.d X), some (.d (.lst ((if ks.any (fun o => outC o row 0 0) = true then ks else ks.filter (fun o => !outC row o 0 0) ++ [row]).map rowD))), some (.d (rowD row)), u'] := by
  have a := lcA_ev T X ks row hk hr hl u
  have b := lcB_ev T X ks row hk hr hl none
  have an := gAny_bl (fun o => outC o row 0 0) ks
  have fl := List.length_filter_le (fun o => !outC row o 0 0) ks
  have gc : gCatL (.lst ((ks.filter fun o => !outC row o 0 0).map rowD)) (.lst [rowD row]) = some (.lst ((ks.filter (fun o => !outC row o 0 0) ++ [row]).map rowD)) := by
    have e : (ks.filter (fun o => !outC row o 0 0) ++ [row]).map rowD = (ks.filter fun o => !outC row o 0 0).map rowD ++ [rowD row] := by rw [List.map_append]; rfl
    rw [e]
    exact if_pos (by simp; omega)
  have bd : bdNo T = (sSeq (sIf (tNot' (tV (eAny (aCons (lcA T) (aNil))))) (sSeq (sAsg 1 (eCatL (lcB T) (eLst (aCons (eV 2) (aNil))))) (sNil)) (sNil)) (sNil)) := rfl
  rw [bd]
  generalize lcA T = LA at a ⊢
  generalize lcB T = LB at b ⊢
  generalize ks.filter (fun o => !outC row o 0 0) ++ [row] = F at gc ⊢
  generalize (ks.filter fun o => !outC row o 0 0).map rowD = G at b gc
  generalize (ks.map fun o => D.bl (outC o row 0 0)) = Bs at a an
  obtain ⟨R0, hR⟩ : ∃ z, rowD row = z := ⟨_, rfl⟩
  rw [hR] at a b gc ⊢
  refine ⟨none, ?_⟩
  cases c : ks.any (fun o => outC o row 0 0) with
  | true =>
    rw [c] at an
    rw [if_pos rfl]
    generalize D.lst (ks.map rowD) = Z at a b ⊢
    exact seq_nx (if_no (by simp? [a, an])) rfl
  | false =>
    rw [c] at an
    rw [if_neg (by decide)]
    generalize D.lst (ks.map rowD) = Z at a b ⊢
    refine seq_nx (if_tr (ρ1 := [some (.d X), some (.d Z), some (.d R0), none]) (by simp? [a, an]) ?_) rfl
    exact seq_nx (ρ' := [some (.d X), some (.d (.lst (F.map rowD))), some (.d R0), none]) (by unfold eCatL; simp? [b, gc]) rfl
theorem no_loop (T : Tx K κ mg) (X : D) : ∀ (rs ks : List RowL) (u2 u3 : Option W), (∀ o ∈ ks, Low o) → (∀ o ∈ rs, Low o) → ks.length + rs.length ≤ 1000 →
    ∃ v2 v3, loopS (gN (K := K) (κ := κ) 2).put (bdNo T).sv (rs.map rowD) [some (.d X), some (.d (.lst (ks.map rowD))), u2, u3] = .ok .nx [some (.d X), some (.d (.lst ((noC rs ks).map rowD))), v2, v3]
  | [], ks, u2, u3, _, _, _ => ⟨u2, u3, rfl⟩
  | row :: rs, ks, u2, u3, hk, hr, hl => by
    simp only [List.length_cons] at hl
    obtain ⟨u', st⟩ := no_step T X ks row hk (hr row (by simp)) (by omega) u3
    have hk' : ∀ o ∈ (if ks.any (fun o => outC o row 0 0) = true then ks else ks.filter (fun o => !outC row o 0 0) ++ [row]), Low o := fun o ho => by
      split at ho
      · exact hk o ho
      · rcases List.mem_append.mp ho with z | z
        · exact hk o (List.mem_filter.mp z).1
        · rw [List.mem_singleton] at z; rw [z]; exact hr row (by simp)
    have l2 : (if ks.any (fun o => outC o row 0 0) = true then ks else ks.filter (fun o => !outC row o 0 0) ++ [row]).length ≤ ks.length + 1 := by
      have fl := List.length_filter_le (fun o => !outC row o 0 0) ks
      split
      · omega
      · rw [List.length_append, List.length_singleton]; omega
    obtain ⟨v2, v3, e⟩ := no_loop T X rs _ (some (.d (rowD row))) u' hk' (fun o ho => hr o (List.mem_cons_of_mem _ ho)) (by omega)
    exact ⟨v2, v3, (loop_nx (ρ1 := [some (.d X), some (.d (.lst (ks.map rowD))), some (.d (rowD row)), u3]) rfl st).trans e⟩
theorem v_not_outdone (T : Tx K κ mg) (rs : List RowL) (hr : ∀ o ∈ rs, Low o) (hl : rs.length ≤ 999) : f__not_outdone T [.d (.lst (rs.map rowD))] = .ok (.d (.lst ((noC rs [[]]).map rowD))) [.d (.lst (rs.map rowD))] := by
  have b : b__not_outdone T = sSeq (sAsg 1 (eLst (aCons (eTup (aNil)) (aNil)))) (sSeq (sFor (iL (eV 0)) (gN 2) (bdNo T)) (sSeq (sRet (eV 1)) (sNil))) := rfl
  obtain ⟨v2, v3, e⟩ := no_loop T (.lst (rs.map rowD)) rs [[]] none none (fun o ho => by rw [List.mem_singleton] at ho; rw [ho]; intro l hl; cases hl) hr (by simp; omega)
  have f : (sFor (iL (eV 0)) (gN (K := K) (κ := κ) 2) (bdNo T)).sv [some (.d (.lst (rs.map rowD))), some (.d (.lst [rowD []])), none, none] = _ := for_of (ρ1 := [some (.d (.lst (rs.map rowD))), some (.d (.lst [rowD []])), none, none]) (xs := rs.map rowD) rfl e
  refine fn_rt (ρ := [some (.d (.lst (rs.map rowD))), some (.d (.lst ((noC rs [[]]).map rowD))), v2, v3]) ?_ rfl
  rw [b]
  refine seq_nx (ρ' := [some (.d (.lst (rs.map rowD))), some (.d (.lst [rowD []])), none, none]) rfl ?_
  exact seq_nx f (seq_ret rfl)
end
end K33
set_option maxRecDepth 100000
set_option maxHeartbeats 4000000
namespace K33
open PySem PySem.Spec PyProof.Rows L2 Pv P25 P66 P46 P27 P50 P54 P55
section
variable {K : PySem.W.Frag} {κ : Cls} {mg : Str → Option Value}
theorem flats_lots : ∀ r : List Lot, (∀ l ∈ r, PyData.strOk l.2.2 = true) → D.flats 59 (r.map lotD) = true
  | [], _ => rfl
  | l :: r, h => by
    have h1 := h l (by simp)
    rw [List.map_cons]
    unfold D.flats
    rw [flats_lots r fun x hx => h x (List.mem_cons_of_mem _ hx)]
    have : D.flat 59 (lotD l) = true := by
      unfold lotD
      simp only [D.flat, D.flats, h1, Bool.and_true]
    rw [this]
    rfl
theorem sortB_lots (r : List Lot) (h : ∀ l ∈ r, PyData.strOk l.2.2 = true) : sortB (r.map lotD) = true := by
  have py : ∀ l : Lot, D.py (lotD l) = .tuple [.int l.1, .int l.2.1, .str l.2.2] := fun l => by unfold lotD; rw [D.py, D.pys, D.pys, D.pys, D.pys, D.py, D.py, D.py]
  unfold sortB
  rw [flats_lots r h, Bool.true_and, Bool.and_eq_true]
  refine ⟨List.all_eq_true.mpr fun x hx => ?_, List.all_eq_true.mpr fun x hx => List.all_eq_true.mpr fun y hy => ?_⟩
  · obtain ⟨l, _, rfl⟩ := List.mem_map.mp hx
    rfl
  · obtain ⟨l, _, rfl⟩ := List.mem_map.mp hx
    obtain ⟨z, _, rfl⟩ := List.mem_map.mp hy
    rw [py, py]
    rfl
def elAll : SE K κ := (eTupOf (aCons (eSortTR (eCatT (eV 5) (eV 6))) (aNil)))
theorem el_all (s0 s1 s2 s3 s4 : Option W) (r o : RowL) (hr : ∀ l ∈ r, PyData.strOk l.2.2 = true) (ho : ∀ l ∈ o, PyData.strOk l.2.2 = true) (hl : r.length + o.length ≤ 1000) :
    (elAll (K := K) (κ := κ)).ev [s0, s1, s2, s3, s4, some (.d (rowD r)), some (.d (rowD o))] = .ok (.d (rowD (sortR (r ++ o)))) [s0, s1, s2, s3, s4, some (.d (rowD r)), some (.d (rowD o))] := by
  have g : gCatT (rowD r) (rowD o) = some (rowD (r ++ o)) := by
    have e : rowD (r ++ o) = .tup (r.map lotD ++ o.map lotD) := by unfold rowD; rw [List.map_append]
    rw [e]
    exact if_pos (by rw [List.length_map, List.length_map]; omega)
  have sb := sortB_lots (r ++ o) fun l hl => by
    rcases List.mem_append.mp hl with z | z
    · exact hr l z
    · exact ho l z
  have sd := sort_data (r ++ o)
  have tp : gTupOf [.lst ((sortR (r ++ o)).map lotD)] = some (rowD (sortR (r ++ o))) := rfl
  have rd : rowD (r ++ o) = .tup ((r ++ o).map lotD) := rfl
  generalize r ++ o = ro at *
  generalize rowD r = R0 at *
  generalize rowD o = O0 at *
  unfold elAll eCatT
  rw [rd] at g
  simp? [g, eSortTR_ev, if_pos sb, sd, tp]
def lcAll : SE K κ := (eLc2 (iL (eV 2)) (gN 5) (iL (eV 4)) (gN 6) (elAll) [5, 6] [6] (fun i h => (List.mem_append_left [6] h : i ∈ [5] ++ [6])) (fun _ h => h) (by decide))
theorem lcAll_ev (X b R0 : D) (ra rb : List RowL) (ha : ∀ r ∈ ra, (∀ l ∈ r, PyData.strOk l.2.2 = true) ∧ r.length ≤ 500) (hb : ∀ r ∈ rb, (∀ l ∈ r, PyData.strOk l.2.2 = true) ∧ r.length ≤ 500) (hl : ra.length * rb.length ≤ 1000) (u5 u6 : Option W) :
    (lcAll (K := K) (κ := κ)).ev [some (.d X), some (.d b), some (.d (.lst (ra.map rowD))), some (.d R0), some (.d (.lst (rb.map rowD))), u5, u6] = .ok (.d (.lst ((comb sortR ra rb).map rowD))) [some (.d X), some (.d b), some (.d (.lst (ra.map rowD))), some (.d R0), some (.d (.lst (rb.map rowD))), none, none] := by
  have fl : (ra.flatMap fun _ => rb).length ≤ 1000 := by
    have : ∀ qs : List RowL, (qs.flatMap fun _ => rb).length = qs.length * rb.length := by
      intro qs
      induction qs with
      | nil => simp
      | cons q qs ih => rw [List.flatMap_cons, List.length_append, ih, List.length_cons, Nat.add_mul]; omega
    rw [this]; exact hl
  have l := loopC2_map (vs := [5, 6]) (vs1 := [6]) (put := (gN (K := K) (κ := κ) 5).put) (it1 := (iL (eV (K := K) (κ := κ) 4)).ev) (put1 := (gN (K := K) (κ := κ) 6).put) (e := (elAll (K := K) (κ := κ)).ev) (ρ0 := [some (.d X), some (.d b), some (.d (.lst (ra.map rowD))), some (.d R0), some (.d (.lst (rb.map rowD))), none, none])
    rowD (fun _ => rb) rowD (fun r o => rowD (sortR (r ++ o))) ra [] (fun r hr => ⟨[some (.d X), some (.d b), some (.d (.lst (ra.map rowD))), some (.d R0), some (.d (.lst (rb.map rowD))), some (.d (rowD r)), none], [some (.d X), some (.d b), some (.d (.lst (ra.map rowD))), some (.d R0), some (.d (.lst (rb.map rowD))), some (.d (rowD r)), none], [some (.d X), some (.d b), some (.d (.lst (ra.map rowD))), some (.d R0), some (.d (.lst (rb.map rowD))), some (.d (rowD r)), none], rfl, rfl, rfl, rfl, fun o ho =>
      ⟨[some (.d X), some (.d b), some (.d (.lst (ra.map rowD))), some (.d R0), some (.d (.lst (rb.map rowD))), some (.d (rowD r)), some (.d (rowD o))], [some (.d X), some (.d b), some (.d (.lst (ra.map rowD))), some (.d R0), some (.d (.lst (rb.map rowD))), some (.d (rowD r)), some (.d (rowD o))], rfl, el_all _ _ _ _ _ r o (ha r hr).1 (hb o ho).1 (by have := (ha r hr).2; have := (hb o ho).2; omega), rfl⟩⟩) (by simpa using fl)
  rw [List.nil_append] at l
  have e : (ra.flatMap fun a => List.map ((fun r o => rowD (sortR (r ++ o))) a) rb) = (comb sortR ra rb).map rowD := by
    unfold comb
    rw [List.map_flatMap]
    refine congrArg (fun f => List.flatMap f ra) (funext fun r => ?_)
    rw [List.map_map]
    rfl
  rw [e] at l
  exact lc2_of (it := iL (eV 2)) (g := gN 5) (it1 := iL (eV 4)) (g1 := gN 6) (e := elAll) (vs := [5, 6]) (vs1 := [6]) (xs := ra.map rowD) (ρi := [some (.d X), some (.d b), some (.d (.lst (ra.map rowD))), some (.d R0), some (.d (.lst (rb.map rowD))), u5, u6]) rfl rfl l rfl
def bdAll (slf : Fn) : SS K κ := (sSeq (sAsg 4 (eCall 2 slf (aCons (eV 3) (aCons (eV 1) (aNil))))) (sSeq (sAsg 2 (lcAll)) (sNil)))
theorem len_ok {n N : Nat} {rs : List RowL} {f : Nat → List Int} (h : Rs n N rs f) (hN : N ≤ 9) (hn : n ≤ 8) : ∀ r ∈ rs, (∀ l ∈ r, PyData.strOk l.2.2 = true) ∧ r.length ≤ 500 := fun r hr => ⟨fun l hl => (h.low r hr l hl).2, by
  have := h.len r hr
  have : N * (n + 1) ≤ 9 * 9 := Nat.mul_le_mul hN (by omega)
  omega⟩
theorem cnt_ok {n N : Nat} {rs : List RowL} {f : Nat → List Int} (h : Rs n N rs f) : rs.length ≤ 2 ^ N := by have := h.cnt.1; have := h.cnt.2; omega
theorem all_loop (slf : Fn) (X : D) (bb : Option Int) (b : D) (n : Nat) (hn : n ≤ 8) : ∀ (ps : List (D × PartR)) (ra : List RowL) (Na : Nat) (f : Nat → List Int) (u3 u4 u5 u6 : Option W), Rs n Na ra f → Na + (ps.map fun p => p.2.N).sum ≤ 9 →
    (∀ p ∈ ps, slf [.d p.1, .d b] = .ok (.d (.lst (p.2.rs.map rowD))) [.d p.1, .d b] ∧ Rs n p.2.N p.2.rs (p.2.B.row bb)) →
    ∃ res v3 v4 v5 v6, loopS (gN (K := K) (κ := κ) 3).put (bdAll (K := K) (κ := κ) slf).sv (ps.map fun p => p.1) [some (.d X), some (.d b), some (.d (.lst (ra.map rowD))), u3, u4, u5, u6] = .ok .nx [some (.d X), some (.d b), some (.d (.lst (res.map rowD))), v3, v4, v5, v6] ∧
      Rs n (Na + (ps.map fun p => p.2.N).sum) res fun m => foldC bb m (ps.map fun p => p.2.B) (f m)
  | [], ra, Na, f, u3, u4, u5, u6, h, _, _ => ⟨ra, u3, u4, u5, u6, rfl, h⟩
  | p :: ps, ra, Na, f, u3, u4, u5, u6, h, hN, hp => by
    rw [List.map_cons, List.sum_cons] at hN
    obtain ⟨c, hp1⟩ := hp p (by simp)
    have cb := rs_comb h hp1
    have l1 := cnt_ok h
    have l2 := cnt_ok hp1
    have pw : 2 ^ (Na + p.2.N) ≤ 2 ^ 9 := Nat.pow_le_pow_right (by decide) (by omega)
    have ml : ra.length * p.2.rs.length ≤ 1000 := by
      have := Nat.mul_le_mul l1 l2
      rw [← Nat.pow_add] at this
      omega
    have lc := lcAll_ev (K := K) (κ := κ) X b p.1 ra p.2.rs (len_ok h (by omega) hn) (len_ok hp1 (by omega) hn) ml u5 u6
    obtain ⟨res, v3, v4, v5, v6, e, q⟩ := all_loop slf X bb b n hn ps (comb sortR ra p.2.rs) (Na + p.2.N) (fun m => convR m (f m) (p.2.B.row bb m)) (some (.d p.1)) (some (.d (.lst (p.2.rs.map rowD)))) none none cb (by omega) (fun q hq => hp q (List.mem_cons_of_mem _ hq))
    have st : (bdAll (K := K) (κ := κ) slf).sv [some (.d X), some (.d b), some (.d (.lst (ra.map rowD))), some (.d p.1), u4, u5, u6] = .ok .nx [some (.d X), some (.d b), some (.d (.lst ((comb sortR ra p.2.rs).map rowD))), some (.d p.1), some (.d (.lst (p.2.rs.map rowD))), none, none] := by
      refine seq_nx (asg_of (call2_of (a := eV 3) (b := eV 1) (ρ1 := [some (.d X), some (.d b), some (.d (.lst (ra.map rowD))), some (.d p.1), u4, u5, u6]) (ρ2 := [some (.d X), some (.d b), some (.d (.lst (ra.map rowD))), some (.d p.1), u4, u5, u6]) rfl rfl c) (by show 4 < 7; decide)) ?_
      exact seq_nx (asg_of lc (by show 2 < 7; decide)) rfl
    refine ⟨res, v3, v4, v5, v6, (loop_nx (ρ1 := [some (.d X), some (.d b), some (.d (.lst (ra.map rowD))), some (.d p.1), u4, u5, u6]) rfl st).trans e, ?_⟩
    rw [List.map_cons, List.sum_cons, ← Nat.add_assoc, List.map_cons]
    exact q
theorem v_rows_all (T : Tx K κ mg) (slf : Fn) (bb : Option Int) (b : D) (n : Nat) (hn : n ≤ 8) (ps : List (D × PartR)) (hN : (ps.map fun p => p.2.N).sum ≤ 9) (hp : ∀ p ∈ ps, slf [.d p.1, .d b] = .ok (.d (.lst (p.2.rs.map rowD))) [.d p.1, .d b] ∧ Rs n p.2.N p.2.rs (p.2.B.row bb)) :
    ∃ res, f__rows_of_all T slf [.d (.tup (ps.map fun p => p.1)), .d b] = .ok (.d (.lst (res.map rowD))) [.d (.tup (ps.map fun p => p.1)), .d b] ∧ Rs n (ps.map fun p => p.2.N).sum res fun m => foldC bb m (ps.map fun p => p.2.B) (zeroR m) := by
  obtain ⟨res, v3, v4, v5, v6, e, q⟩ := all_loop (K := K) (κ := κ) slf (.tup (ps.map fun p => p.1)) bb b n hn ps [[]] 0 zeroR none none none none (rs_none n) (by omega) hp
  have bdy : b__rows_of_all T slf = sSeq (sAsg 2 (eLst (aCons (eTup (aNil)) (aNil)))) (sSeq (sFor (iT (eV 0)) (gN 3) (bdAll slf)) (sSeq (sRet (eV 2)) (sNil))) := rfl
  have f : (sFor (iT (eV 0)) (gN (K := K) (κ := κ) 3) (bdAll slf)).sv [some (.d (.tup (ps.map fun p => p.1))), some (.d b), some (.d (.lst [rowD []])), none, none, none, none] = _ := for_of (ρ1 := [some (.d (.tup (ps.map fun p => p.1))), some (.d b), some (.d (.lst [rowD []])), none, none, none, none]) (xs := ps.map fun p => p.1) rfl e
  refine ⟨res, fn_rt (ρ := [some (.d (.tup (ps.map fun p => p.1))), some (.d b), some (.d (.lst (res.map rowD))), v3, v4, v5, v6]) ?_ rfl, by rw [Nat.zero_add] at q; exact q⟩
  rw [bdy]
  refine seq_nx (ρ' := [some (.d (.tup (ps.map fun p => p.1))), some (.d b), some (.d (.lst [rowD []])), none, none, none, none]) rfl ?_
  exact seq_nx f (seq_ret rfl)
end
end K33
set_option maxRecDepth 100000
set_option maxHeartbeats 4000000
namespace K33
open PySem PySem.Spec PyProof.Rows L2 Pv P25 P66 P46 P27 P50 P54 P55
section
variable {K : PySem.W.Frag} {κ : Cls} {mg : Str → Option Value}
def lcOneR (slf : Fn) : SE K κ := (eLc2 (iT (eIxT (eV 0) (eInt 1))) (gN 5) (iL (eCall 2 slf (aCons (eV 5) (aCons (eV 1) (aNil))))) (gN 4) (eV 4) [5, 4] [4] (fun i h => (List.mem_append_left [4] h : i ∈ [5] ++ [4])) (fun _ h => h) (by decide))
def lcCutS (T : Tx K κ mg) (slf : Fn) : SE K κ := (eLc (iL (eCall 2 slf (aCons (eIxT (eV 0) (eInt 2)) (aCons (eV 1) (aNil))))) (gN 4) (tYes') (eCall 2 (f__cut_at_sum T) (aCons (eV 4) (aCons (eIxT (eV 0) (eInt 1)) (aNil)))) [4] (fun _ h => h))
def lcCutC (T : Tx K κ mg) (slf : Fn) : SE K κ := (eLc (iL (eCall 2 slf (aCons (eIxT (eV 0) (eInt 2)) (aCons (eV 1) (aNil))))) (gN 4) (tYes') (eCall 2 (f__cut_at_count T) (aCons (eV 4) (aCons (eIxT (eV 0) (eInt 1)) (aNil)))) [4] (fun _ h => h))
def bRows (T : Tx K κ mg) (slf oth : Fn) (LO LS LC : SE K κ) : SS K κ := sSeq (sAsg 2 (eIxT (eV 0) (eInt 0)))
    (sSeq (sIf (tV' (eEq (eV 2) (eStr "none"))) (sSeq (sRet (eLst (aCons (eTup (aNil)) (aNil)))) (sNil)) (sNil))
    (sSeq (sIf (tV' (eEq (eV 2) (eStr "call"))) (sSeq (sAsg 3 (eCall 2 (f__amount_below T) (aCons (eIxT (eV 0) (eInt 2)) (aCons (eV 1) (aNil)))))
    (sSeq (sRet (eIf (tV' (eGt (eV 3) (eInt 0))) (eLst (aCons (eTup (aCons (eTup (aCons (eV 3) (aCons (eIxT (eV 0) (eInt 3)) (aCons (eIxT (eV 0) (eInt 1)) (aNil))))) (aNil))) (aNil))) (eLst (aCons (eTup (aNil)) (aNil))))) (sNil))) (sNil))
    (sSeq (sIf (tV' (eEq (eV 2) (eStr "all"))) (sSeq (sRet (eCall 2 oth (aCons (eIxT (eV 0) (eInt 1)) (aCons (eV 1) (aNil))))) (sNil)) (sNil))
    (sSeq (sIf (tV' (eEq (eV 2) (eStr "one"))) (sSeq (sRet (eCall 1 (f__not_outdone T) (aCons LO (aNil)))) (sNil)) (sNil))
    (sSeq (sIf (tV' (eEq (eV 2) (eStr "within"))) (sSeq (sRet LS) (sNil)) (sNil))
    (sSeq (sRet LC) (sNil)))))))
theorem rows_body (T : Tx K κ mg) (slf oth : Fn) : b_rows_of T slf oth = bRows T slf oth (lcOneR slf) (lcCutS T slf) (lcCutC T slf) := rfl
theorem rows_succ (T : Tx K κ mg) (n : Nat) : f_rows_of T (n + 1) = Pv.fnOf 6 (b_rows_of T (f_rows_of T n) (f__rows_of_all T (f_rows_of T n))).asg (b_rows_of T (f_rows_of T n) (f__rows_of_all T (f_rows_of T n))).sv := rfl
theorem rows_none (T : Tx K κ mg) (slf oth : Fn) (b : D) : Pv.fnOf 6 (b_rows_of T slf oth).asg (b_rows_of T slf oth).sv [.d (.tup [.str "none"]), .d b] = .ok (.d (.lst [rowD []])) [.d (.tup [.str "none"]), .d b] := by kernel_rfl
theorem rows_call (T : Tx K κ mg) (slf oth : Fn) (x : Str) (a t : Int) (b : Option Int) : Pv.fnOf 6 (b_rows_of T slf oth).asg (b_rows_of T slf oth).sv [.d (.tup [.str "call", .str x, .int a, .int t]), .d (bD b)] = .ok (.d (.lst ((if 0 < cutA b a then [[(cutA b a, t, x)]] else [[]] : List RowL).map rowD))) [.d (.tup [.str "call", .str x, .int a, .int t]), .d (bD b)] := by
  obtain ⟨X, hX⟩ : ∃ X, D.tup [.str "call", .str x, .int a, .int t] = X := ⟨_, rfl⟩
  have i0 : gIxT X (.int 0) = some (.str "call") := by rw [← hX]; rfl
  have i1 : gIxT X (.int 1) = some (.str x) := by rw [← hX]; rfl
  have i2 : gIxT X (.int 2) = some (.int a) := by rw [← hX]; rfl
  have i3 : gIxT X (.int 3) = some (.int t) := by rw [← hX]; rfl
  have g1 : gEq (.str "call") (.str "none") = some (.bl false) := by kernel_rfl
  have g2 : gEq (.str "call") (.str "call") = some (.bl true) := by kernel_rfl
  have be := v_below T a b
  rw [hX, rows_body]
  generalize bD b = B0 at be ⊢
  generalize cutA b a = c at be ⊢
  refine fn_rt (ρ := [some (.d X), some (.d B0), some (.d (.str "call")), some (.d (.int c)), none, none]) ?_ rfl
  unfold bRows
  refine seq_nx (ρ' := [some (.d X), some (.d B0), some (.d (.str "call")), none, none, none]) (by simp? [i0]) ?_
  refine seq_nx (if_no (ρ1 := [some (.d X), some (.d B0), some (.d (.str "call")), none, none, none]) (by simp? [g1])) ?_
  refine seq_rt (if_tr (ρ1 := [some (.d X), some (.d B0), some (.d (.str "call")), none, none, none]) (by simp? [g2]) ?_)
  refine seq_nx (ρ' := [some (.d X), some (.d B0), some (.d (.str "call")), some (.d (.int c)), none, none]) (by simp? [i2, be]) ?_
  by_cases q : 0 < c
  · rw [if_pos q]
    exact seq_ret (by simp? [decide_eq_true q, i3, i1]; rfl)
  · rw [if_neg q]
    exact seq_ret (by simp? [decide_eq_false q]; rfl)
theorem lcCut_ev (slf f : Fn) (g : RowL → RowL) (X b y w : D) (k : Int) (rs : List RowL) (i1 : gIxT X (.int 1) = some (.int k)) (i2 : gIxT X (.int 2) = some y) (hs : slf [.d y, .d b] = .ok (.d (.lst (rs.map rowD))) [.d y, .d b]) (hl : rs.length ≤ 1000) (hf : ∀ r ∈ rs, f [.d (rowD r), .d (.int k)] = .ok (.d (rowD (g r))) [.d (rowD r), .d (.int k)]) :
    (eLc (K := K) (κ := κ) (iL (eCall 2 slf (aCons (eIxT (eV 0) (eInt 2)) (aCons (eV 1) (aNil))))) (gN 4) (tYes') (eCall 2 f (aCons (eV 4) (aCons (eIxT (eV 0) (eInt 1)) (aNil)))) [4] (fun _ h => h)).ev [some (.d X), some (.d b), some (.d w), none, none, none] = .ok (.d (.lst ((rs.map g).map rowD))) [some (.d X), some (.d b), some (.d w), none, none, none] := by
  have l := loopC_map (vs := [4]) (put := (gN (K := K) (κ := κ) 4).put) (t := (tYes' (K := K) (κ := κ)).ev) (e := (eCall (K := K) (κ := κ) 2 f (aCons (eV 4) (aCons (eIxT (eV 0) (eInt 1)) (aNil)))).ev) (ρ0 := [some (.d X), some (.d b), some (.d w), none, none, none])
    rowD (fun r => some (rowD (g r))) rs [] (fun r hr => ⟨[some (.d X), some (.d b), some (.d w), none, some (.d (rowD r)), none], [some (.d X), some (.d b), some (.d w), none, some (.d (rowD r)), none], rfl, [some (.d X), some (.d b), some (.d w), none, some (.d (rowD r)), none], rfl, by
      have v := hf r hr
      generalize rowD r = R0 at v ⊢
      simp? [i1, v], rfl⟩) (by simpa using hl)
  rw [List.nil_append, fm_some fun r : RowL => rowD (g r)] at l
  have e : rs.map (fun r => rowD (g r)) = (rs.map g).map rowD := by rw [List.map_map]; rfl
  rw [e] at l
  exact lc_of (vs := [4]) (it := iL (eCall 2 slf (aCons (eIxT (eV 0) (eInt 2)) (aCons (eV 1) (aNil))))) (g := gN 4) (t := tYes') (e := eCall 2 f (aCons (eV 4) (aCons (eIxT (eV 0) (eInt 1)) (aNil)))) (hv := fun _ h => h) (xs := rs.map rowD) (ρi := [some (.d X), some (.d b), some (.d w), none, none, none]) (by simp? [i2, hs]) rfl l rfl
theorem rows_cut (T : Tx K κ mg) (slf oth : Fn) (w : Str) (hw : w = "within" ∨ w = "calls") (k : Int) (d b : D) (rs : List RowL) (hs : slf [.d d, .d b] = .ok (.d (.lst (rs.map rowD))) [.d d, .d b]) (hl : rs.length ≤ 1000) (hp : ∀ r ∈ rs, (∀ l ∈ r, 1 ≤ l.1 ∧ l.1 < 10 ^ 12) ∧ r.length ≤ 10000) :
    Pv.fnOf 6 (b_rows_of T slf oth).asg (b_rows_of T slf oth).sv [.d (.tup [.str w, .int k, d]), .d b] = .ok (.d (.lst ((rs.map fun r => if w = "within" then csC r k else ccC r k).map rowD))) [.d (.tup [.str w, .int k, d]), .d b] := by
  obtain ⟨X, hX⟩ : ∃ X, D.tup [.str w, .int k, d] = X := ⟨_, rfl⟩
  have i0 : gIxT X (.int 0) = some (.str w) := by rw [← hX]; rfl
  have i1 : gIxT X (.int 1) = some (.int k) := by rw [← hX]; rfl
  have i2 : gIxT X (.int 2) = some d := by rw [← hX]; rfl
  have gs : ∀ v : Str, (v = "none" ∨ v = "call" ∨ v = "all" ∨ v = "one") → gEq (.str w) (.str v) = some (.bl false) := by
    rcases hw with rfl | rfl <;> (rintro v (rfl | rfl | rfl | rfl) <;> kernel_rfl)
  have g1 := gs "none" (by simp)
  have g2 := gs "call" (by simp)
  have g3 := gs "all" (by simp)
  have g4 := gs "one" (by simp)
  have s1 := lcCut_ev (K := K) (κ := κ) slf (f__cut_at_sum T) (fun r => csC r k) X b d (.str w) k rs i1 i2 hs hl fun r hr => v_cut_sum T r k (hp r hr).1 (hp r hr).2
  have s2 := lcCut_ev (K := K) (κ := κ) slf (f__cut_at_count T) (fun r => ccC r k) X b d (.str w) k rs i1 i2 hs hl fun r hr => v_cut_count T r k (hp r hr).2
  rw [hX, rows_body]
  refine fn_rt (ρ := [some (.d X), some (.d b), some (.d (.str w)), none, none, none]) ?_ rfl
  have s1 : (lcCutS T slf).ev [some (.d X), some (.d b), some (.d (.str w)), none, none, none] = _ := s1
  have s2 : (lcCutC T slf).ev [some (.d X), some (.d b), some (.d (.str w)), none, none, none] = _ := s2
  generalize lcCutS T slf = LS at s1 ⊢
  generalize lcCutC T slf = LC at s2 ⊢
  generalize lcOneR (K := K) (κ := κ) slf = LO
  unfold bRows
  refine seq_nx (ρ' := [some (.d X), some (.d b), some (.d (.str w)), none, none, none]) (by simp? [i0]) ?_
  refine seq_nx (if_no (ρ1 := [some (.d X), some (.d b), some (.d (.str w)), none, none, none]) (by simp? [g1])) ?_
  refine seq_nx (if_no (ρ1 := [some (.d X), some (.d b), some (.d (.str w)), none, none, none]) (by simp? [g2])) ?_
  refine seq_nx (if_no (ρ1 := [some (.d X), some (.d b), some (.d (.str w)), none, none, none]) (by simp? [g3])) ?_
  refine seq_nx (if_no (ρ1 := [some (.d X), some (.d b), some (.d (.str w)), none, none, none]) (by simp? [g4])) ?_
  rcases hw with rfl | rfl
  · have g5 : gEq (.str "within") (.str "within") = some (.bl true) := by kernel_rfl
    simp only [if_true]
    exact seq_rt (if_tr (ρ1 := [some (.d X), some (.d b), some (.d (.str "within")), none, none, none]) (by simp? [g5]) (seq_ret s1))
  · have ne : ¬ ("calls" : Str) = "within" := by decide +kernel
    have g5 : gEq (.str "calls") (.str "within") = some (.bl false) := by kernel_rfl
    simp only [if_neg ne]
    refine seq_nx (if_no (ρ1 := [some (.d X), some (.d b), some (.d (.str "calls")), none, none, none]) (by simp? [g5])) ?_
    exact seq_ret s2
theorem rows_all (T : Tx K κ mg) (slf oth : Fn) (ds : List D) (b z : D) (ho : oth [.d (.tup ds), .d b] = .ok (.d z) [.d (.tup ds), .d b]) :
    Pv.fnOf 6 (b_rows_of T slf oth).asg (b_rows_of T slf oth).sv [.d (.tup [.str "all", .tup ds]), .d b] = .ok (.d z) [.d (.tup [.str "all", .tup ds]), .d b] := by
  obtain ⟨X, hX⟩ : ∃ X, D.tup [.str "all", .tup ds] = X := ⟨_, rfl⟩
  have i0 : gIxT X (.int 0) = some (.str "all") := by rw [← hX]; rfl
  have i1 : gIxT X (.int 1) = some (.tup ds) := by rw [← hX]; rfl
  have g1 : gEq (.str "all") (.str "none") = some (.bl false) := by kernel_rfl
  have g2 : gEq (.str "all") (.str "call") = some (.bl false) := by kernel_rfl
  have g3 : gEq (.str "all") (.str "all") = some (.bl true) := by kernel_rfl
  rw [hX, rows_body]
  refine fn_rt (ρ := [some (.d X), some (.d b), some (.d (.str "all")), none, none, none]) ?_ rfl
  unfold bRows
  refine seq_nx (ρ' := [some (.d X), some (.d b), some (.d (.str "all")), none, none, none]) (by simp? [i0]) ?_
  refine seq_nx (if_no (ρ1 := [some (.d X), some (.d b), some (.d (.str "all")), none, none, none]) (by simp? [g1])) ?_
  refine seq_nx (if_no (ρ1 := [some (.d X), some (.d b), some (.d (.str "all")), none, none, none]) (by simp? [g2])) ?_
  exact seq_rt (if_tr (ρ1 := [some (.d X), some (.d b), some (.d (.str "all")), none, none, none]) (by simp? [g3]) (seq_ret (by simp? [i1, ho])))
theorem rows_one (T : Tx K κ mg) (slf oth : Fn) (ps : List (D × PartR)) (b : D) (hp : ∀ p ∈ ps, slf [.d p.1, .d b] = .ok (.d (.lst (p.2.rs.map rowD))) [.d p.1, .d b]) (hl : (ps.flatMap fun p => p.2.rs).length ≤ 999) (hr : ∀ r ∈ ps.flatMap (fun p => p.2.rs), Low r) :
    Pv.fnOf 6 (b_rows_of T slf oth).asg (b_rows_of T slf oth).sv [.d (.tup [.str "one", .tup (ps.map fun p => p.1)]), .d b] = .ok (.d (.lst ((noC (ps.flatMap fun p => p.2.rs) [[]]).map rowD))) [.d (.tup [.str "one", .tup (ps.map fun p => p.1)]), .d b] := by
  obtain ⟨X, hX⟩ : ∃ X, D.tup [.str "one", .tup (ps.map fun p => p.1)] = X := ⟨_, rfl⟩
  have i0 : gIxT X (.int 0) = some (.str "one") := by rw [← hX]; rfl
  have i1 : gIxT X (.int 1) = some (.tup (ps.map fun p => p.1)) := by rw [← hX]; rfl
  have g1 : gEq (.str "one") (.str "none") = some (.bl false) := by kernel_rfl
  have g2 : gEq (.str "one") (.str "call") = some (.bl false) := by kernel_rfl
  have g3 : gEq (.str "one") (.str "all") = some (.bl false) := by kernel_rfl
  have g4 : gEq (.str "one") (.str "one") = some (.bl true) := by kernel_rfl
  have no := v_not_outdone T (ps.flatMap fun p => p.2.rs) hr hl
  rw [hX, rows_body]
  have l := loopC2_map (vs := [5, 4]) (vs1 := [4]) (put := (gN (K := K) (κ := κ) 5).put) (it1 := (iL (eCall (K := K) (κ := κ) 2 slf (aCons (eV 5) (aCons (eV 1) (aNil))))).ev) (put1 := (gN (K := K) (κ := κ) 4).put) (e := (eV (K := K) (κ := κ) 4).ev) (ρ0 := [some (.d X), some (.d b), some (.d (.str "one")), none, none, none])
    (fun p : D × PartR => p.1) (fun p => p.2.rs) rowD (fun _ r => rowD r) ps [] (fun p hpp => ⟨[some (.d X), some (.d b), some (.d (.str "one")), none, none, some (.d p.1)], [some (.d X), some (.d b), some (.d (.str "one")), none, none, some (.d p.1)], [some (.d X), some (.d b), some (.d (.str "one")), none, none, some (.d p.1)], rfl, by have v := hp p hpp; simp? [v], rfl, rfl, fun r hr =>
      ⟨[some (.d X), some (.d b), some (.d (.str "one")), none, some (.d (rowD r)), some (.d p.1)], [some (.d X), some (.d b), some (.d (.str "one")), none, some (.d (rowD r)), some (.d p.1)], rfl, rfl, rfl⟩⟩) (by simp only [List.length_nil]; omega)
  rw [List.nil_append] at l
  have e : (ps.flatMap fun a => List.map ((fun (_ : D × PartR) r => rowD r) a) a.2.rs) = (ps.flatMap fun p => p.2.rs).map rowD := by
    rw [List.map_flatMap]
  rw [e] at l
  have lc : (lcOneR (K := K) (κ := κ) slf).ev [some (.d X), some (.d b), some (.d (.str "one")), none, none, none] = .ok (.d (.lst ((ps.flatMap fun p => p.2.rs).map rowD))) [some (.d X), some (.d b), some (.d (.str "one")), none, none, none] :=
    lc2_of (it := iT (eIxT (eV 0) (eInt 1))) (g := gN 5) (it1 := iL (eCall 2 slf (aCons (eV 5) (aCons (eV 1) (aNil))))) (g1 := gN 4) (e := eV 4) (vs := [5, 4]) (vs1 := [4]) (xs := ps.map fun p => p.1) (ρi := [some (.d X), some (.d b), some (.d (.str "one")), none, none, none]) (by simp? [i1]) rfl l rfl
  generalize lcOneR (K := K) (κ := κ) slf = LO at lc ⊢
  refine fn_rt (ρ := [some (.d X), some (.d b), some (.d (.str "one")), none, none, none]) ?_ rfl
  unfold bRows
  refine seq_nx (ρ' := [some (.d X), some (.d b), some (.d (.str "one")), none, none, none]) (by simp? [i0]) ?_
  refine seq_nx (if_no (ρ1 := [some (.d X), some (.d b), some (.d (.str "one")), none, none, none]) (by simp? [g1])) ?_
  refine seq_nx (if_no (ρ1 := [some (.d X), some (.d b), some (.d (.str "one")), none, none, none]) (by simp? [g2])) ?_
  refine seq_nx (if_no (ρ1 := [some (.d X), some (.d b), some (.d (.str "one")), none, none, none]) (by simp? [g3])) ?_
  exact seq_rt (if_tr (ρ1 := [some (.d X), some (.d b), some (.d (.str "one")), none, none, none]) (by simp? [g4]) (seq_ret (call1_of lc no)))
end
end K33
set_option maxRecDepth 100000
set_option maxHeartbeats 4000000
namespace K33
open PySem PySem.Spec PyProof.Rows L2 Pv P25 P66 P46 P27 P50 P54 P55
section
variable {K : PySem.W.Frag} {κ : Cls} {mg : Str → Option Value}
/-- parts with their rows -/
theorem pick_rows {n : Nat} {b : Option Int} {f : D → List RowL → Prop} : ∀ (ps : List Pt), (∀ p ∈ ps, ∃ rs, f p.1 rs ∧ Rs n p.2.2.length rs (p.2.1.row b)) →
    ∃ qs : List (D × PartR), qs.map (fun q => q.1) = ps.map (fun p => p.1) ∧ qs.map (fun q => q.2.B) = ps.map (fun p => p.2.1) ∧ qs.map (fun q => q.2.N) = ps.map (fun p => p.2.2.length) ∧ ∀ q ∈ qs, f q.1 q.2.rs ∧ Rs n q.2.N q.2.rs (q.2.B.row b) ∧ ∃ p ∈ ps, p.2.1 = q.2.B
  | [], _ => ⟨[], rfl, rfl, rfl, fun _ h => nomatch h⟩
  | p :: ps, h => by
    obtain ⟨rs, h1, h2⟩ := h p (by simp)
    obtain ⟨qs, q1, q2, q3, q4⟩ := pick_rows ps fun q hq => h q (List.mem_cons_of_mem _ hq)
    refine ⟨(p.1, ⟨p.2.2.length, rs, p.2.1⟩) :: qs, by simp [q1], by simp [q2], by simp [q3], fun q hq => ?_⟩
    rcases List.mem_cons.mp hq with rfl | hq
    · exact ⟨h1, h2, p, by simp, rfl⟩
    · obtain ⟨a, c, r, hr, e⟩ := q4 q hq
      exact ⟨a, c, r, List.mem_cons_of_mem _ hr, e⟩
theorem names_len (ps : List Pt) : ((ps.map fun p => p.2.2).flatten).length = (ps.map fun p => p.2.2.length).sum := by
  rw [List.length_flatten, List.map_map]
  rfl
theorem one_name (ps : List Pt) {p : Pt} (h : p ∈ ps) : p.2.2.length ≤ ((ps.map fun p => p.2.2).flatten).length := by
  rw [names_len]
  induction ps with
  | nil => cases h
  | cons q ps ih =>
    rw [List.map_cons, List.sum_cons]
    rcases List.mem_cons.mp h with rfl | h
    · omega
    · have := ih h; omega
theorem low_of {n N : Nat} {rs : List RowL} {f : Nat → List Int} (h : Rs n N rs f) : ∀ r ∈ rs, Low r := fun r hr l hl => ⟨by have := ((h.row r hr).pos l hl).1; omega, (h.low r hr l hl).1⟩
/-- the rows of a right, and what the best of them come to -/
theorem v_rows (T : Tx K κ mg) : ∀ (n : Nat) (d : D) (B : Beh) (xs : List Str), Rt n d B xs → xs.length ≤ 9 → n ≤ 7 → ∀ N, n ≤ N → ∀ b, Pos b → ∃ rs, f_rows_of T N [.d d, .d (bD b)] = .ok (.d (.lst (rs.map rowD))) [.d d, .d (bD b)] ∧ Rs n xs.length rs (B.row b)
  | 0, _, _, _, h, _, _, _, _, _, _ => h.elim
  | n + 1, d, B, xs, h, _, _, 0, hN, _, _ => by omega
  | n + 1, d, B, xs, h, hx, hn, N + 1, hN, b, hb => by
    have ih := fun d B xs (h : Rt n d B xs) (hx : xs.length ≤ 9) => v_rows T n d B xs h hx (by omega) N (by omega) b hb
    rw [rows_succ]
    have ra : ∀ (ps : List (D × PartR)) (hN : (ps.map fun p => p.2.N).sum ≤ 9) (hp : ∀ p ∈ ps, f_rows_of T N [.d p.1, .d (bD b)] = .ok (.d (.lst (p.2.rs.map rowD))) [.d p.1, .d (bD b)] ∧ Rs n p.2.N p.2.rs (p.2.B.row b)), _ := fun ps => v_rows_all T (f_rows_of T N) b (bD b) n (by omega) ps
    generalize f__rows_of_all T (f_rows_of T N) = oth at ra ⊢
    generalize f_rows_of T N = slf at ih ra ⊢
    rcases h with ⟨rfl, rfl, rfl⟩ | ⟨x, a, t, hxn, ha, ht, rfl, rfl, rfl⟩ | ⟨k, d', B', hk, hr, rfl, rfl⟩ | ⟨k, d', B', hk, hr, rfl, rfl⟩ | ⟨ps, hl, hr, rfl, rfl, rfl⟩ | ⟨ps, hl, hr, rfl, rfl, rfl⟩
    · exact ⟨[[]], rows_none T slf oth (bD b), rs_none (n + 1)⟩
    · have c0 := cut0 hb (show 0 ≤ a by omega)
      have c1 : cutA b a ≤ a := cut_le
      exact ⟨_, rows_call T slf oth x a t b, (rs_call hxn.2 ht.1 c0 (by omega)).up (by omega)⟩
    · obtain ⟨rs, e, q⟩ := ih d' B' xs hr hx
      have gd := good n d' B' (rt_rgt hr)
      have w := rows_cut T slf oth "within" (.inl rfl) k d' (bD b) rs e (by have := cnt_ok q; have : 2 ^ xs.length ≤ 2 ^ 9 := Nat.pow_le_pow_right (by decide) hx; omega) fun r hr => ⟨fun l hl => ⟨((q.row r hr).pos l hl).1, (q.low r hr l hl).1⟩, by have := (len_ok q hx (by omega) r hr).2; omega⟩
      simp only [if_true] at w
      exact ⟨_, w, rs_within q (fun m => gd.rlen b m) hk.1⟩
    · obtain ⟨rs, e, q⟩ := ih d' B' xs hr hx
      have w := rows_cut T slf oth "calls" (.inr rfl) k d' (bD b) rs e (by have := cnt_ok q; have : 2 ^ xs.length ≤ 2 ^ 9 := Nat.pow_le_pow_right (by decide) hx; omega) fun r hr => ⟨fun l hl => ⟨((q.row r hr).pos l hl).1, (q.low r hr l hl).1⟩, by have := (len_ok q hx (by omega) r hr).2; omega⟩
      have ne : ¬ ("calls" : Str) = "within" := by decide +kernel
      simp only [if_neg ne] at w
      exact ⟨_, w, rs_calls q hk.1⟩
    · obtain ⟨qs, q1, q2, q3, q4⟩ := pick_rows (f := fun d rs => slf [.d d, .d (bD b)] = .ok (.d (.lst (rs.map rowD))) [.d d, .d (bD b)]) ps fun p hp => ih p.1 p.2.1 p.2.2 (hr p hp) (Nat.le_trans (one_name ps hp) hx)
      have sm : (qs.map fun p => p.2.N).sum = ((ps.map fun p => p.2.2).flatten).length := by rw [names_len, ← q3]
      obtain ⟨res, e, q⟩ := ra qs (by omega) fun p hp => ⟨(q4 p hp).1, (q4 p hp).2.1⟩
      rw [q1] at e
      rw [sm, q2] at q
      exact ⟨res, rows_all T slf oth _ (bD b) _ e, q.up (by omega)⟩
    · obtain ⟨qs, q1, q2, q3, q4⟩ := pick_rows (f := fun d rs => slf [.d d, .d (bD b)] = .ok (.d (.lst (rs.map rowD))) [.d d, .d (bD b)]) ps fun p hp => ih p.1 p.2.1 p.2.2 (hr p hp) (Nat.le_trans (one_name ps hp) hx)
      have sm : (qs.map fun p => p.2.N).sum = ((ps.map fun p => p.2.2).flatten).length := by rw [names_len, ← q3]
      have cnt : (qs.flatMap fun p => p.2.rs).length ≤ 999 := by
        have : ∀ zs : List (D × PartR), (∀ z ∈ zs, z.2.rs.length ≤ 2 ^ z.2.N) → (zs.flatMap fun p => p.2.rs).length ≤ zs.length + ((zs.map fun p => p.2.N).map fun n => 2 ^ n - 1).sum := by
          intro zs
          induction zs with
          | nil => intro _; simp
          | cons z zs ihz =>
            intro hz
            have h1 := hz z (by simp)
            have h2 := ihz fun y hy => hz y (List.mem_cons_of_mem _ hy)
            rw [List.flatMap_cons, List.length_append, List.map_cons, List.map_cons, List.sum_cons, List.length_cons]
            have : 1 ≤ 2 ^ z.2.N := Nat.one_le_two_pow
            omega
        have h1 := this qs fun z hz => cnt_ok (q4 z hz).2.1
        have h2 := cnt_pow (qs.map fun p => p.2.N)
        have ql : qs.length = ps.length := by have := congrArg List.length q1; simpa using this
        have : 2 ^ (qs.map fun p => p.2.N).sum ≤ 2 ^ 9 := Nat.pow_le_pow_right (by decide) (by omega)
        omega
      have w := rows_one T slf oth qs (bD b) (fun p hp => (q4 p hp).1) cnt fun r hr => by
        obtain ⟨p, hp, hr⟩ := List.mem_flatMap.mp hr
        exact low_of (q4 p hp).2.1 r hr
      rw [q1] at w
      have o := rs_one (n := n) (b := b) (qs.map fun q => q.2) (fun p hp => by obtain ⟨q, hq, rfl⟩ := List.mem_map.mp hp; exact (q4 q hq).2.1) fun p hp => by
        obtain ⟨q, hq, rfl⟩ := List.mem_map.mp hp
        obtain ⟨z, hz, e⟩ := (q4 q hq).2.2
        rw [← e]
        exact good n z.1 z.2.1 (rt_rgt (hr z hz))
      rw [List.map_map, List.map_map, List.flatMap_map] at o
      have eN : (qs.map (PartR.N ∘ fun q => q.2)) = qs.map fun p => p.2.N := rfl
      have eB : (qs.map (PartR.B ∘ fun q => q.2)) = qs.map fun q => q.2.B := rfl
      rw [eN, eB, q2, sm] at o
      exact ⟨_, w, o.up (by omega)⟩
theorem most_succ (T : Tx K κ mg) (n : Nat) : f__most_calls T (n + 1) = Pv.fnOf 3 (b__most_calls T (f__most_calls T n)).asg (b__most_calls T (f__most_calls T n)).sv := rfl
theorem sum_succ (T : Tx K κ mg) (n : Nat) : f__sum_of_all_calls T (n + 1) = Pv.fnOf 4 (b__sum_of_all_calls T (f__sum_of_all_calls T n) (f_greatest_sum T (f__sum_of_all_calls T n))).asg (b__sum_of_all_calls T (f__sum_of_all_calls T n) (f_greatest_sum T (f__sum_of_all_calls T n))).sv := rfl
theorem v_most (T : Tx K κ mg) : ∀ (n : Nat) (d : D) (B : Beh) (xs : List Str), Rt n d B xs → ∀ N, n ≤ N → f__most_calls T N [.d d] = .ok (.d (.int B.len)) [.d d]
  | 0, _, _, _, h, _, _ => h.elim
  | n + 1, d, B, xs, h, 0, hN => by omega
  | n + 1, d, B, xs, h, N + 1, hN => by
    have ih := fun d B xs (h : Rt n d B xs) => v_most T n d B xs h N (by omega)
    have gd := fun d B xs (h : Rt n d B xs) => good n d B (rt_rgt h)
    rw [most_succ]
    generalize f__most_calls T N = slf at ih ⊢
    rcases h with ⟨rfl, rfl, rfl⟩ | ⟨x, a, t, hxn, ha, ht, rfl, rfl, rfl⟩ | ⟨k, d', B', hk, hr, rfl, rfl⟩ | ⟨k, d', B', hk, hr, rfl, rfl⟩ | ⟨ps, hl, hr, rfl, rfl, rfl⟩ | ⟨ps, hl, hr, rfl, rfl, rfl⟩
    · exact most_none T slf
    · exact most_call T slf x a t
    · exact most_in T slf "within" (.inl rfl) k B'.len d' (ih d' B' xs hr)
    · exact most_in T slf "calls" (.inr rfl) k B'.len d' (ih d' B' xs hr)
    · have e := most_parts T slf "all" true (by kernel_rfl) (by kernel_rfl) (by kernel_rfl) (.inr rfl) (ps.map fun p => (p.1, p.2.1.len)) (by simp; omega) (fun q hq => by obtain ⟨p, hp, rfl⟩ := List.mem_map.mp hq; exact (gd _ _ _ (hr p hp)).len0) (fun q hq => by obtain ⟨p, hp, rfl⟩ := List.mem_map.mp hq; exact ih _ _ _ (hr p hp))
      rw [List.map_map, List.map_map] at e
      have e2 : (ps.map fun p => p.2.1).map Beh.len = ps.map (Prod.snd ∘ fun p : Pt => (p.1, p.2.1.len)) := by rw [List.map_map]; rfl
      show _ = R.ok (W.d (D.int ((ps.map fun p => p.2.1).map Beh.len).sum)) _
      rw [e2]
      exact e
    · have e := most_parts T slf "one" false (by kernel_rfl) (by kernel_rfl) (by kernel_rfl) (.inl (by kernel_rfl)) (ps.map fun p => (p.1, p.2.1.len)) (by simp; omega) (fun q hq => by obtain ⟨p, hp, rfl⟩ := List.mem_map.mp hq; exact (gd _ _ _ (hr p hp)).len0) (fun q hq => by obtain ⟨p, hp, rfl⟩ := List.mem_map.mp hq; exact ih _ _ _ (hr p hp))
      rw [List.map_map, List.map_map] at e
      have e2 : (ps.map fun p => p.2.1).map Beh.len = ps.map (Prod.snd ∘ fun p : Pt => (p.1, p.2.1.len)) := by rw [List.map_map]; rfl
      show _ = R.ok (W.d (D.int (mxL 0 ((ps.map fun p => p.2.1).map Beh.len)))) _
      rw [e2]
      exact e
theorem top_of {L : List Int} {g : Int} (hm : g ∈ L) (hle : ∀ y ∈ L, y ≤ g) : ∃ n ns, L = n :: ns ∧ topI n ns = g := by
  cases L with
  | nil => cases hm
  | cons n ns =>
    obtain ⟨s1, s2, s3⟩ := topI_spec ns n
    refine ⟨n, ns, rfl, ?_⟩
    have a1 : topI n ns ≤ g := by
      rcases s1 with z | z
      · rw [z]; exact hle n (by simp)
      · exact hle _ (by simp [z])
    have a2 : g ≤ topI n ns := by
      rcases List.mem_cons.mp hm with rfl | z
      · exact s2
      · exact s3 g z
    omega
def lcG (T : Tx K κ mg) : SE K κ := (eLc (iL (eCall 2 (f_rows_of T 7) (aCons (eV 0) (aCons (eV 1) (aNil))))) (gN 3) (tYes') (eCall 2 (f_sum_of_first T) (aCons (eV 3) (aCons (eV 2) (aNil)))) [3] (fun _ h => h))
theorem greatest_none (T : Tx K κ mg) (slf : Fn) (d b : D) (s : Int) (h : slf [.d d, .d b] = .ok (.d (.int s)) [.d d, .d b]) : f_greatest_sum T slf [.d d, .d b, .d .non] = .ok (.d (.int s)) [.d d, .d b, .d .non] := by
  have nn : D.isN .non = true := rfl
  have bd : b_greatest_sum T slf = sSeq (sIf (tOr' (tV (eIsN (eV 2))) (tV' (eGe (eV 2) (eCall 1 (f__most_calls T 7) (aCons (eV 0) (aNil)))))) (sSeq (sRet (eCall 2 slf (aCons (eV 0) (aCons (eV 1) (aNil))))) (sNil)) (sNil)) (sSeq (sRet (eTop1 (lcG T))) (sNil)) := rfl
  refine fn_rt (ρ := [some (.d d), some (.d b), some (.d .non), none]) ?_ rfl
  rw [bd]
  exact seq_rt (if_tr (ρ1 := [some (.d d), some (.d b), some (.d .non), none]) (by simp? [nn]) (seq_ret (by simp? [h])))
/-- the greatest sum of so many calls -/
theorem greatest_of (T : Tx K κ mg) (slf : Fn) {n : Nat} {d : D} {B : Beh} {xs : List Str} (h : Rt n d B xs) (hx : xs.length ≤ 9) (hn : n ≤ 7) (b : Option Int) (hb : Pos b) (k : Int) (hk : 0 ≤ k) (hs : slf [.d d, .d (bD b)] = .ok (.d (.int (B.top b))) [.d d, .d (bD b)]) :
    f_greatest_sum T slf [.d d, .d (bD b), .d (.int k)] = .ok (.d (.int (at_ (B.row b k.toNat) k.toNat))) [.d d, .d (bD b), .d (.int k)] := by
  have nn : D.isN (.int k) = false := rfl
  have ml := v_most T n d B xs h 7 (by omega)
  obtain ⟨rs, er, q⟩ := v_rows T n d B xs h hx hn 7 hn b hb
  have bd : b_greatest_sum T slf = sSeq (sIf (tOr' (tV (eIsN (eV 2))) (tV' (eGe (eV 2) (eCall 1 (f__most_calls T 7) (aCons (eV 0) (aNil)))))) (sSeq (sRet (eCall 2 slf (aCons (eV 0) (aCons (eV 1) (aNil))))) (sNil)) (sNil)) (sSeq (sRet (eTop1 (lcG T))) (sNil)) := rfl
  refine fn_rt (ρ := [some (.d d), some (.d (bD b)), some (.d (.int k)), none]) ?_ rfl
  rw [bd]
  by_cases c : B.len ≤ k
  · have e := (gd3 n d B (rt_rgt h)).fin b k.toNat k.toNat hb (Nat.le_refl _) (by omega)
    rw [e]
    generalize bD b = B0 at hs ⊢
    exact seq_rt (if_tr (ρ1 := [some (.d d), some (.d B0), some (.d (.int k)), none]) (by simp? [nn, ml, decide_eq_true c]) (seq_ret (by simp? [hs])))
  · have cnt : rs.length ≤ 1000 := by have := cnt_ok q; have : 2 ^ xs.length ≤ 2 ^ 9 := Nat.pow_le_pow_right (by decide) hx; omega
    have l := loopC_map (vs := [3]) (put := (gN (K := K) (κ := κ) 3).put) (t := (tYes' (K := K) (κ := κ)).ev) (e := (eCall (K := K) (κ := κ) 2 (f_sum_of_first T) (aCons (eV 3) (aCons (eV 2) (aNil)))).ev) (ρ0 := [some (.d d), some (.d (bD b)), some (.d (.int k)), none])
      rowD (fun r => some (.int (sfC r 0 k))) rs [] (fun r hr => ⟨[some (.d d), some (.d (bD b)), some (.d (.int k)), some (.d (rowD r))], [some (.d d), some (.d (bD b)), some (.d (.int k)), some (.d (rowD r))], rfl, [some (.d d), some (.d (bD b)), some (.d (.int k)), some (.d (rowD r))], rfl, call2_of rfl rfl (v_sum_first T (low_of q r hr) k), rfl⟩) (by simpa using cnt)
    rw [List.nil_append, fm_some fun r : RowL => D.int (sfC r 0 k)] at l
    have e1 : rs.map (fun r => D.int (sfC r 0 k)) = (rs.map fun r => sfC r 0 k).map .int := by rw [List.map_map]; rfl
    rw [e1] at l
    have lc : (lcG T).ev [some (.d d), some (.d (bD b)), some (.d (.int k)), none] = .ok (.d (.lst ((rs.map fun r => sfC r 0 k).map .int))) [some (.d d), some (.d (bD b)), some (.d (.int k)), none] :=
      lc_of (vs := [3]) (it := iL (eCall 2 (f_rows_of T 7) (aCons (eV 0) (aCons (eV 1) (aNil))))) (g := gN 3) (t := tYes') (e := eCall 2 (f_sum_of_first T) (aCons (eV 3) (aCons (eV 2) (aNil)))) (hv := fun _ h => h) (xs := rs.map rowD) (ρi := [some (.d d), some (.d (bD b)), some (.d (.int k)), none]) (by
        generalize bD b = B0 at er
        simp? [er]) rfl l rfl
    obtain ⟨u, r0, hr0, e0⟩ := q.max k.toNat k.toNat (Nat.le_refl _)
    have sf : ∀ r ∈ rs, sfC r 0 k = S (E r) k.toNat := fun r hr => by rw [sf_eq (q.row r hr) hk, Int.zero_add]
    obtain ⟨m, ms, e, tp⟩ := top_of (L := rs.map fun r => sfC r 0 k) (g := at_ (B.row b k.toNat) k.toNat) (List.mem_map.mpr ⟨r0, hr0, by rw [sf r0 hr0, e0]⟩) fun y hy => by
      obtain ⟨r, hr, rfl⟩ := List.mem_map.mp hy
      rw [sf r hr]
      exact u r hr
    rw [e] at lc
    have t1 := top1_of lc
    rw [tp] at t1
    generalize bD b = B0 at t1 ⊢
    refine seq_nx (if_no (ρ1 := [some (.d d), some (.d B0), some (.d (.int k)), none]) (by simp? [nn, ml, decide_eq_false c])) ?_
    exact seq_ret t1
/-- the sum of all calls is the right's top -/
theorem v_sum (T : Tx K κ mg) : ∀ (n : Nat) (d : D) (B : Beh) (xs : List Str), Rt n d B xs → xs.length ≤ 9 → n ≤ 7 → ∀ N, n ≤ N → ∀ b, Pos b → f__sum_of_all_calls T N [.d d, .d (bD b)] = .ok (.d (.int (B.top b))) [.d d, .d (bD b)]
  | 0, _, _, _, h, _, _, _, _, _, _ => h.elim
  | n + 1, d, B, xs, h, _, _, 0, hN, _, _ => by omega
  | n + 1, d, B, xs, h, hx, hn, N + 1, hN, b, hb => by
    have ih := fun d B xs (h : Rt n d B xs) (hx : xs.length ≤ 9) => v_sum T n d B xs h hx (by omega) N (by omega) b hb
    have gd := fun d B xs (h : Rt n d B xs) => good n d B (rt_rgt h)
    rw [sum_succ]
    have go : ∀ d B xs (h : Rt n d B xs) (hx : xs.length ≤ 9) (k : Int), 0 ≤ k → f_greatest_sum T (f__sum_of_all_calls T N) [.d d, .d (bD b), .d (.int k)] = .ok (.d (.int (at_ (B.row b k.toNat) k.toNat))) [.d d, .d (bD b), .d (.int k)] := fun d B xs h hx k hk => greatest_of T (f__sum_of_all_calls T N) h hx (by omega) b hb k hk (ih d B xs h hx)
    generalize f_greatest_sum T (f__sum_of_all_calls T N) = oth at go ⊢
    generalize f__sum_of_all_calls T N = slf at ih ⊢
    rcases h with ⟨rfl, rfl, rfl⟩ | ⟨x, a, t, hxn, ha, ht, rfl, rfl, rfl⟩ | ⟨k, d', B', hk, hr, rfl, rfl⟩ | ⟨k, d', B', hk, hr, rfl, rfl⟩ | ⟨ps, hl, hr, rfl, rfl, rfl⟩ | ⟨ps, hl, hr, rfl, rfl, rfl⟩
    · exact sum_none T slf oth (bD b)
    · exact sum_call T slf oth x a t b (cm (by omega) (by omega))
    · have := sum_in T slf oth "within" (.inl rfl) k (B'.top b) d' (bD b) (by rw [if_pos rfl]; exact ih d' B' xs hr hx)
      rw [if_pos rfl] at this
      exact this
    · have ne : ¬ ("calls" : Str) = "within" := by decide +kernel
      have := sum_in T slf oth "calls" (.inr rfl) k (at_ (B'.row b k.toNat) k.toNat) d' (bD b) (by rw [if_neg ne]; exact go d' B' xs hr hx k (by omega))
      rw [if_neg ne] at this
      have l0 := (gd d' B' xs hr).len0
      have g3 := gd3 n d' B' (rt_rgt hr)
      have e : at_ (B'.row b k.toNat) k.toNat = at_ (B'.row b (mn k B'.len).toNat) (mn k B'.len).toNat := by
        by_cases q : B'.len ≤ k
        · have e : mn k B'.len = B'.len := by unfold mn; split <;> omega
          rw [e, g3.fin b k.toNat k.toNat hb (Nat.le_refl _) (by omega), g3.fin b _ _ hb (Nat.le_refl _) (by omega)]
        · have e : mn k B'.len = k := by unfold mn; split <;> omega
          rw [e]
      rw [e] at this
      exact this
    · have e := sum_parts T slf oth "all" true (by kernel_rfl) (by kernel_rfl) (by kernel_rfl) (.inr rfl) (bD b) (ps.map fun p => (p.1, p.2.1.top b)) (by simp; omega) (fun q hq => by obtain ⟨p, hp, rfl⟩ := List.mem_map.mp hq; exact (gd _ _ _ (hr p hp)).top0 b hb) (fun q hq => by obtain ⟨p, hp, rfl⟩ := List.mem_map.mp hq; exact ih _ _ _ (hr p hp) (Nat.le_trans (one_name ps hp) hx))
      rw [List.map_map, List.map_map] at e
      have e2 : (ps.map fun p => p.2.1).map (fun B' => B'.top b) = ps.map (Prod.snd ∘ fun p : Pt => (p.1, p.2.1.top b)) := by rw [List.map_map]; rfl
      show _ = R.ok (W.d (D.int ((ps.map fun p => p.2.1).map (fun B' => B'.top b)).sum)) _
      rw [e2]
      exact e
    · have e := sum_parts T slf oth "one" false (by kernel_rfl) (by kernel_rfl) (by kernel_rfl) (.inl (by kernel_rfl)) (bD b) (ps.map fun p => (p.1, p.2.1.top b)) (by simp; omega) (fun q hq => by obtain ⟨p, hp, rfl⟩ := List.mem_map.mp hq; exact (gd _ _ _ (hr p hp)).top0 b hb) (fun q hq => by obtain ⟨p, hp, rfl⟩ := List.mem_map.mp hq; exact ih _ _ _ (hr p hp) (Nat.le_trans (one_name ps hp) hx))
      rw [List.map_map, List.map_map] at e
      have e2 : (ps.map fun p => p.2.1).map (fun B' => B'.top b) = ps.map (Prod.snd ∘ fun p : Pt => (p.1, p.2.1.top b)) := by rw [List.map_map]; rfl
      show _ = R.ok (W.d (D.int (mxL 0 ((ps.map fun p => p.2.1).map (fun B' => B'.top b))))) _
      rw [e2]
      exact e
end
end K33
set_option maxRecDepth 100000
set_option maxHeartbeats 4000000
namespace K33
open PySem PySem.Spec PyProof.Rows L2 Pv P25 P66 P46 P27 P50 P54 P55
section
variable {K : PySem.W.Frag} {κ : Cls} {mg : Str → Option Value}
def lcP (T : Tx K κ mg) (slf : Fn) : SE K κ := eLc (iT (eCall 1 (f_straight_within T) (aCons (eV 0) (aNil)))) (gN 1) (tYes') (eCall 1 slf (aCons (eV 1) (aNil))) [1] (fun _ h => h)
theorem lcP_ev (T : Tx K κ mg) (slf : Fn) (x : D) (ps : List (D × D)) (hl : ps.length ≤ 1000) (hx : f_straight_within T [.d x] = .ok (.d (.tup (ps.map Prod.fst))) [.d x]) (hv : ∀ p ∈ ps, slf [.d p.1] = .ok (.d p.2) [.d p.1]) :
    (lcP T slf).ev [some (.d x), none] = .ok (.d (.lst (ps.map Prod.snd))) [some (.d x), none] := by
  have l := loopC_map (vs := [1]) (put := (gN (K := K) (κ := κ) 1).put) (t := (tYes' (K := K) (κ := κ)).ev) (e := (eCall (K := K) (κ := κ) 1 slf (aCons (eV 1) (aNil))).ev) (ρ0 := [some (.d x), none])
    Prod.fst (fun p => some p.2) ps [] (fun p hp => ⟨[some (.d x), some (.d p.1)], [some (.d x), some (.d p.1)], rfl, [some (.d x), some (.d p.1)], rfl, call1_of rfl (hv p hp), rfl⟩) (by simpa using hl)
  rw [List.nil_append, fm_some fun p : D × D => p.2] at l
  exact lc_of (vs := [1]) (it := iT (eCall 1 (f_straight_within T) (aCons (eV 0) (aNil)))) (g := gN 1) (t := tYes') (e := eCall 1 slf (aCons (eV 1) (aNil))) (hv := fun _ h => h) (xs := ps.map Prod.fst) (ρi := [some (.d x), none]) (by simp? [hx]) rfl l rfl
theorem top_parts (T : Tx K κ mg) (slf : Fn) (X : D) (w : Str) (i0 : gIxT X (.int 0) = some (.str w)) (g1 : gEq (.str w) (.str "call") = some (.bl false)) (ps : List (D × Int)) (hl : ps.length ≤ 1000) (h0 : ∀ p ∈ ps, 0 ≤ p.2) (hx : f_straight_within T [.d X] = .ok (.d (.tup (ps.map Prod.fst))) [.d X]) (hv : ∀ p ∈ ps, slf [.d p.1] = .ok (.d (.int p.2)) [.d p.1]) :
    Pv.fnOf 2 (b_greatest_call T slf).asg (b_greatest_call T slf).sv [.d X] = .ok (.d (.int (mxL 0 (ps.map Prod.snd)))) [.d X] := by
  have lc := lcP_ev T slf X (ps.map fun p => (p.1, D.int p.2)) (by simpa using hl) (by rw [List.map_map]; exact hx) (fun q hq => by obtain ⟨p, hp, rfl⟩ := List.mem_map.mp hq; exact hv p hp)
  rw [List.map_map] at lc
  have e : ps.map (Prod.snd ∘ fun p => (p.1, D.int p.2)) = (ps.map Prod.snd).map .int := by rw [List.map_map]; rfl
  rw [e] at lc
  have nm := numsOf_map (ps.map Prod.snd)
  have td := topD_mx (ns := ps.map Prod.snd) fun x hx => by obtain ⟨p, hp, rfl⟩ := List.mem_map.mp hx; exact h0 p hp
  have b : b_greatest_call T slf = sSeq (sIf (tV' (eEq (eIxT (eV 0) (eInt 0)) (eStr "call"))) (sSeq (sRet (eIxT (eV 0) (eInt 2))) (sNil)) (sNil)) (sSeq (sRet (eTopDf (lcP T slf) (eInt 0))) (sNil)) := rfl
  refine fn_rt (ρ := [some (.d X), none]) ?_ rfl
  rw [b]
  generalize lcP T slf = LC at lc ⊢
  refine seq_nx (if_no (ρ1 := [some (.d X), none]) (by simp? [i0, g1])) ?_
  exact seq_ret (by simp? [lc, eTopDf_ev, nm, td])
theorem small_parts (T : Tx K κ mg) (slf : Fn) (X : D) (w : Str) (i0 : gIxT X (.int 0) = some (.str w)) (g1 : gEq (.str w) (.str "call") = some (.bl false))
    (g2 : gEq (.str w) (.str "within") = some (.bl false) ∨ (gEq (.str w) (.str "within") = some (.bl true) ∧ ∃ k : Int, k ≤ 200 ∧ gIxT X (.int 1) = some (.int k)))
    (ds : List D) (hl : ds.length ≤ 1000) (hx : f_straight_within T [.d X] = .ok (.d (.tup ds)) [.d X]) (hv : ∀ p ∈ ds, slf [.d p] = .ok (.d (.bl true)) [.d p]) :
    Pv.fnOf 2 (b__has_small_mosts T slf).asg (b__has_small_mosts T slf).sv [.d X] = .ok (.d (.bl true)) [.d X] := by
  have em : ds.map (Prod.fst ∘ fun p : D => (p, D.bl true)) = ds := by
    have : (Prod.fst ∘ fun p : D => (p, D.bl true)) = id := rfl
    rw [this, List.map_id]
  have lc := lcP_ev T slf X (ds.map fun p => (p, D.bl true)) (by simpa using hl) (by rw [List.map_map, em]; exact hx) (fun q hq => by obtain ⟨p, hp, rfl⟩ := List.mem_map.mp hq; exact hv p hp)
  rw [List.map_map] at lc
  have ga := gAll_yes ds
  have e : ds.map (Prod.snd ∘ fun p : D => (p, D.bl true)) = ds.map fun _ => D.bl true := rfl
  rw [e] at lc
  have b : b__has_small_mosts T slf = sSeq (sIf (tOr' (tAnd' (tV' (eEq (eIxT (eV 0) (eInt 0)) (eStr "call"))) (tV' (eGt (eIxT (eV 0) (eInt 2)) (eInt 200)))) (tAnd' (tV' (eEq (eIxT (eV 0) (eInt 0)) (eStr "within"))) (tV' (eGt (eIxT (eV 0) (eInt 1)) (eInt 200))))) (sSeq (sRet (eBl false)) (sNil)) (sNil)) (sSeq (sRet (eAll (aCons (lcP T slf) (aNil)))) (sNil)) := rfl
  refine fn_rt (ρ := [some (.d X), none]) ?_ rfl
  rw [b]
  generalize lcP T slf = LC at lc ⊢
  refine seq_nx (if_no (ρ1 := [some (.d X), none]) ?_) (seq_ret (by simp? [lc, ga]))
  rcases g2 with g2 | ⟨g2, k, hk, i1⟩
  · simp? [i0, g1, g2]
  · have c : ¬ 200 < k := by omega
    simp? [i0, g1, g2, i1, decide_eq_false c]
theorem small_call (T : Tx K κ mg) (slf : Fn) (x : Str) (a t : Int) (h : a ≤ 200) : Pv.fnOf 2 (b__has_small_mosts T slf).asg (b__has_small_mosts T slf).sv [.d (.tup [.str "call", .str x, .int a, .int t])] = .ok (.d (.bl true)) [.d (.tup [.str "call", .str x, .int a, .int t])] := by
  obtain ⟨X, hX⟩ : ∃ X, D.tup [.str "call", .str x, .int a, .int t] = X := ⟨_, rfl⟩
  have i0 : gIxT X (.int 0) = some (.str "call") := by rw [← hX]; rfl
  have i2 : gIxT X (.int 2) = some (.int a) := by rw [← hX]; rfl
  have g1 : gEq (.str "call") (.str "call") = some (.bl true) := by kernel_rfl
  have g2 : gEq (.str "call") (.str "within") = some (.bl false) := by kernel_rfl
  have c : ¬ 200 < a := by omega
  have hs : f_straight_within T [.d X] = .ok (.d (.tup [])) [.d X] := by rw [← hX]; kernel_rfl
  have lc := lcP_ev T slf X [] (by simp) hs (fun _ hp => nomatch hp)
  have ga := gAll_yes ([] : List D)
  have b : b__has_small_mosts T slf = sSeq (sIf (tOr' (tAnd' (tV' (eEq (eIxT (eV 0) (eInt 0)) (eStr "call"))) (tV' (eGt (eIxT (eV 0) (eInt 2)) (eInt 200)))) (tAnd' (tV' (eEq (eIxT (eV 0) (eInt 0)) (eStr "within"))) (tV' (eGt (eIxT (eV 0) (eInt 1)) (eInt 200))))) (sSeq (sRet (eBl false)) (sNil)) (sNil)) (sSeq (sRet (eAll (aCons (lcP T slf) (aNil)))) (sNil)) := rfl
  rw [hX]
  refine fn_rt (ρ := [some (.d X), none]) ?_ rfl
  rw [b]
  generalize lcP T slf = LC at lc ⊢
  refine seq_nx (if_no (ρ1 := [some (.d X), none]) (by simp? [i0, g1, i2, decide_eq_false c, g2])) (seq_ret (by have ga : gAll [.lst []] = some (.bl true) := ga; simp? [lc, ga]))
theorem call_succ (T : Tx K κ mg) (n : Nat) : f_greatest_call T (n + 1) = Pv.fnOf 2 (b_greatest_call T (f_greatest_call T n)).asg (b_greatest_call T (f_greatest_call T n)).sv := rfl
theorem small_succ (T : Tx K κ mg) (n : Nat) : f__has_small_mosts T (n + 1) = Pv.fnOf 2 (b__has_small_mosts T (f__has_small_mosts T n)).asg (b__has_small_mosts T (f__has_small_mosts T n)).sv := rfl
/-- parts with their greatest calls -/
theorem pick_call {f : D → Int → Prop} : ∀ (ps : List Pt), (∀ p ∈ ps, ∃ g, (0 ≤ g ∧ g ≤ 200) ∧ f p.1 g ∧ Far g p.2.1) → ∃ qs : List (D × Int), qs.map Prod.fst = ps.map (fun p => p.1) ∧ (∀ q ∈ qs, (0 ≤ q.2 ∧ q.2 ≤ 200) ∧ f q.1 q.2) ∧ ∀ B ∈ ps.map (fun p => p.2.1), Far (mxL 0 (qs.map Prod.snd)) B
  | [], _ => ⟨[], rfl, fun _ h => (nomatch h), fun _ h => (nomatch h)⟩
  | p :: ps, h => by
    obtain ⟨g, h1, h2, h3⟩ := h p (by simp)
    obtain ⟨qs, q1, q2, q3⟩ := pick_call ps fun q hq => h q (List.mem_cons_of_mem _ hq)
    have ge := mxL_ge (g :: qs.map Prod.snd) 0
    refine ⟨(p.1, g) :: qs, by simp [q1], fun q hq => ?_, fun B hB => ?_⟩
    · rcases List.mem_cons.mp hq with rfl | hq
      · exact ⟨h1, h2⟩
      · exact q2 q hq
    · rcases List.mem_cons.mp hB with rfl | hB
      · exact h3.more (ge.2 g (by simp))
      · refine (q3 B hB).more (mxL_le _ 0 _ ge.1 fun x hx => ge.2 x (List.mem_cons_of_mem _ hx))
theorem v_small (T : Tx K κ mg) : ∀ (n : Nat) (d : D) (B : Beh) (xs : List Str), Rt n d B xs → ∀ N, n ≤ N → f__has_small_mosts T N [.d d] = .ok (.d (.bl true)) [.d d]
  | 0, _, _, _, h, _, _ => h.elim
  | n + 1, d, B, xs, h, 0, hN => by omega
  | n + 1, d, B, xs, h, N + 1, hN => by
    have ih := fun d B xs (h : Rt n d B xs) => v_small T n d B xs h N (by omega)
    rw [small_succ]
    generalize f__has_small_mosts T N = slf at ih ⊢
    rcases h with ⟨rfl, rfl, rfl⟩ | ⟨x, a, t, hxn, ha, ht, rfl, rfl, rfl⟩ | ⟨k, d', B', hk, hr, rfl, rfl⟩ | ⟨k, d', B', hk, hr, rfl, rfl⟩ | ⟨ps, hl, hr, rfl, rfl, rfl⟩ | ⟨ps, hl, hr, rfl, rfl, rfl⟩
    · exact small_parts T slf _ "none" rfl (by kernel_rfl) (.inl (by kernel_rfl)) [] (by simp) (by kernel_rfl) (fun _ hp => nomatch hp)
    · exact small_call T slf x a t ha.2
    · exact small_parts T slf _ "within" rfl (by kernel_rfl) (.inr ⟨by kernel_rfl, k, hk.2, rfl⟩) [d'] (by simp) (v_straight2 T k d' "within" (by kernel_rfl) (by kernel_rfl)) (fun p hp => by rw [List.mem_singleton] at hp; subst hp; exact ih _ B' xs hr)
    · exact small_parts T slf _ "calls" rfl (by kernel_rfl) (.inl (by kernel_rfl)) [d'] (by simp) (v_straight2 T k d' "calls" (by kernel_rfl) (by kernel_rfl)) (fun p hp => by rw [List.mem_singleton] at hp; subst hp; exact ih _ B' xs hr)
    · exact small_parts T slf _ "all" rfl (by kernel_rfl) (.inl (by kernel_rfl)) (ps.map fun p => p.1) (by simp; omega) (v_straight1 T _ "all" (by kernel_rfl)) (fun q hq => by obtain ⟨p, hp, rfl⟩ := List.mem_map.mp hq; exact ih p.1 p.2.1 p.2.2 (hr p hp))
    · exact small_parts T slf _ "one" rfl (by kernel_rfl) (.inl (by kernel_rfl)) (ps.map fun p => p.1) (by simp; omega) (v_straight1 T _ "one" (by kernel_rfl)) (fun q hq => by obtain ⟨p, hp, rfl⟩ := List.mem_map.mp hq; exact ih p.1 p.2.1 p.2.2 (hr p hp))
def sumsB (B : Beh) (g : Int) : List Int := 0 :: (List.range (g + 1).toNat).map fun i : Nat => B.top (some (1 + (i : Int)))
def lcSums (T : Tx K κ mg) : SE K κ := eLc (iR2 (eInt 1) (eAdd (eCall 1 (f_greatest_call T 7) (aCons (eV 0) (aNil))) (eInt 2))) (gN 1) (tYes') (eCall 3 (f_greatest_sum T (f__sum_of_all_calls T 7)) (aCons (eV 0) (aCons (eV 1) (aCons (eNon) (aNil))))) [1] (fun _ h => h)
theorem v_check_small (T : Tx K κ mg) {n : Nat} {d : D} {B : Beh} {xs : List Str} (h : Rt n d B xs) (hx : xs.length ≤ 9) (hn : n ≤ 7) (hs : B.top none ≤ 200) : f_check_small_right T [.d d] = .ok (.d .non) [.d d] := by
  have e1 := v_small T n d B xs h 7 hn
  have e2 := greatest_none T (f__sum_of_all_calls T 7) d .non _ (v_sum T n d B xs h hx hn 7 hn none (fun w e => by cases e))
  have c : ¬ 200 < B.top none := by omega
  have b : b_check_small_right T = sSeq (sIf (tOr' (tNot' (tV (eCall 1 (f__has_small_mosts T 7) (aCons (eV 0) (aNil))))) (tV' (eGt (eCall 3 (f_greatest_sum T (f__sum_of_all_calls T 7)) (aCons (eV 0) (aCons (eNon) (aCons (eNon) (aNil))))) (eInt 200)))) (sSeq (sNever) (sNil)) (sNil)) (sNil) := rfl
  unfold f_check_small_right Pv.fnOf
  rw [b]
  simp? [e1, e2, decide_eq_false c]
/-- beneath one there is nothing -/
theorem top_one : ∀ (n : Nat) (d : D) (B : Beh), Rgt n d B → B.top (some 1) ≤ 0
  | 0, _, _, h => h.elim
  | n + 1, d, B, h => by
    have ih := top_one n
    rcases h with ⟨_, rfl⟩ | ⟨x, a, t, ha, _, ht, _, _, rfl⟩ | ⟨k, d', B', hk, _, hr, _, rfl⟩ | ⟨k, d', B', hk, _, hr, _, rfl⟩ | ⟨ds, Bs, hl, hr, _, rfl⟩ | ⟨ds, Bs, hl, hr, _, rfl⟩
    · exact Int.le_refl _
    · show t * mn a (1 - 1) ≤ 0
      have : mn a (1 - 1) = 0 := by unfold mn; split <;> omega
      rw [this, Int.mul_zero]
      exact Int.le_refl _
    · exact Int.le_trans (mn_le_r _ _) (ih d' B' hr)
    · exact Int.le_trans ((gd3 n d' B' hr).le _ _ _ (fun w e => by cases e; decide) (Nat.le_refl _)) (ih d' B' hr)
    · have : ∀ {ds : List D} {Bs : List Beh}, All2 (Rgt n) ds Bs → (Bs.map fun B' => B'.top (some 1)).sum ≤ 0 := by
        intro ds
        induction ds with
        | nil => intro Bs h; cases Bs with
          | nil => exact Int.le_refl _
          | cons _ _ => exact h.elim
        | cons d ds ihd => intro Bs h; cases Bs with
          | nil => exact h.elim
          | cons B Bs =>
            have h1 := ih d B h.1
            have h2 := ihd h.2
            rw [List.map_cons, List.sum_cons]
            omega
      exact this hr
    · refine mxL_le _ 0 _ (Int.le_refl _) fun x hx => ?_
      obtain ⟨B, hB, rfl⟩ := List.mem_map.mp hx
      obtain ⟨z1, z2, z3⟩ := all2_zip hr
      rw [← z2] at hB
      obtain ⟨p, hp, rfl⟩ := List.mem_map.mp hB
      exact ih p.1 p.2 (z3 p hp)
end
end K33
set_option maxRecDepth 100000
set_option maxHeartbeats 4000000
namespace K33.G
open PySem PySem.Spec PyProof.Rows L2 Pv P25 P66
section
variable {K : PySem.W.Frag} {κ : Cls} {mg : Str → Option Value}
theorem rep_flat (x : D) : ∀ n : Nat, (List.replicate n [x]).flatten = List.replicate n x
  | 0 => rfl
  | n + 1 => by rw [List.replicate_succ, List.flatten_cons, rep_flat x n, List.replicate_succ]; rfl
end
end K33.G
set_option maxRecDepth 100000
set_option maxHeartbeats 4000000
namespace K33.G
open PySem PySem.Spec PyProof.Rows L2 Pv P25 P66 P50
section
variable {K : PySem.W.Frag} {κ : Cls} {mg : Str → Option Value}
theorem mxL_top : ∀ (xs : List Int) (m : Int), topI m xs = mxL m xs
  | [], _ => rfl
  | x :: xs, m => mxL_top xs _
theorem topI_app : ∀ (xs : List Int) (m y : Int), topI m (xs ++ [y]) = (if topI m xs < y then y else topI m xs)
  | [], _, _ => rfl
  | x :: xs, m, y => topI_app xs _ y
theorem mx_tail : ∀ (xs : List Int), (∀ x ∈ xs, 0 ≤ x) → (match xs ++ [0] with | [] => 0 | x :: ys => topI x ys) = mxL 0 xs
  | [], _ => rfl
  | x :: xs, h => by
    show topI x (xs ++ [0]) = mxL (if 0 < x then x else 0) xs
    have hx := h x (by simp)
    have ge : 0 ≤ topI x xs := by rw [mxL_top]; have := (mxL_ge xs x).1; omega
    rw [topI_app, if_neg (by omega), mxL_top]
    congr 1
    split <;> omega
theorem catL_of {ρ ρ1 ρ2 : Pv.Env} {a b : SE K κ} {xs ys : List D} (ha : a.ev ρ = .ok (.d (.lst xs)) ρ1) (hb : b.ev ρ1 = .ok (.d (.lst ys)) ρ2) (h : xs.length + ys.length ≤ 1000000) : (eCatL a b).ev ρ = .ok (.d (.lst (xs ++ ys))) ρ2 := by
  have g : gCatL (.lst xs) (.lst ys) = some (.lst (xs ++ ys)) := if_pos h
  unfold eCatL
  simp? [ha, hb, g]
/-- max(xs + [0]) -/
theorem topZ_of {ρ ρ1 : Pv.Env} {a : SE K κ} {xs : List Int} (ha : a.ev ρ = .ok (.d (.lst (xs.map .int))) ρ1) (hl : xs.length ≤ 1000) (h0 : ∀ x ∈ xs, 0 ≤ x) : (eTop1 (eCatL a (eLst (aCons (eInt 0) (aNil))))).ev ρ = .ok (.d (.int (mxL 0 xs))) ρ1 := by
  have c := catL_of (b := eLst (aCons (eInt 0) (aNil))) (ys := [.int 0]) (ρ2 := ρ1) ha rfl (by simp; omega)
  have e : xs.map D.int ++ [.int 0] = (xs ++ [0]).map .int := by rw [List.map_append]; rfl
  rw [e] at c
  have m := mx_tail xs h0
  cases hx : xs ++ [0] with
  | nil => simp at hx
  | cons n ns =>
    rw [hx] at c m
    rw [top1_of c, ← m]
theorem len_succ (T : Tx K κ mg) (n : Nat) : f_l_length T (n + 1) = Pv.fnOf 4 (b_l_length T (f_l_length T n)).asg (b_l_length T (f_l_length T n)).sv := rfl
def lcLen (slf : Fn) : SE K κ := eLc (iT (eIxT (eV 0) (eInt 1))) (gN 3) (tYes') (eCall 1 slf (aCons (eV 3) (aNil))) [3] (fun _ h => h)
theorem lcLen_ev (slf : Fn) (x : D) (w : Option W) (d : D) (ps : List (D × Beh)) (hl : ps.length ≤ 1000) (hx : gIxT x (.int 1) = some (.tup (ps.map Prod.fst))) (hv : ∀ p ∈ ps, slf [.d p.1] = .ok (.d (.int p.2.len)) [.d p.1]) :
    (lcLen (K := K) (κ := κ) slf).ev [some (.d x), w, none, none] = .ok (.d (.lst ((ps.map fun p => p.2.len).map .int))) [some (.d x), w, none, none] := by
  have l := loopC_map (vs := [3]) (put := (gN (K := K) (κ := κ) 3).put) (t := (tYes' (K := K) (κ := κ)).ev) (e := (eCall (K := K) (κ := κ) 1 slf (aCons (eV 3) (aNil))).ev) (ρ0 := [some (.d x), w, none, none])
    Prod.fst (fun p => some (.int p.2.len)) ps [] (fun p hp => ⟨[some (.d x), w, none, some (.d p.1)], [some (.d x), w, none, some (.d p.1)], rfl, [some (.d x), w, none, some (.d p.1)], rfl, call1_of rfl (hv p hp), rfl⟩) (by simpa using hl)
  rw [List.nil_append, fm_some fun p : D × Beh => D.int p.2.len] at l
  have e : ps.map (fun p => D.int p.2.len) = (ps.map fun p => p.2.len).map .int := by rw [List.map_map]; rfl
  rw [e] at l
  exact lc_of (vs := [3]) (it := iT (eIxT (eV 0) (eInt 1))) (g := gN 3) (t := tYes') (e := eCall 1 slf (aCons (eV 3) (aNil))) (hv := fun _ h => h) (xs := ps.map Prod.fst) (ρi := [some (.d x), w, none, none]) (by simp? [hx]) rfl l rfl
theorem v_len (T : Tx K κ mg) : ∀ (n : Nat) (d : D) (B : Beh), Rgt n d B → ∀ N, n ≤ N → f_l_length T N [.d d] = .ok (.d (.int B.len)) [.d d]
  | 0, _, _, h, _, _ => h.elim
  | n + 1, d, B, h, 0, hN => by omega
  | n + 1, d, B, h, N + 1, hN => by
    have ih := fun d B h => v_len T n d B h N (by omega)
    rw [len_succ]
    generalize f_l_length T N = slf at ih ⊢
    rcases h with ⟨rfl, rfl⟩ | ⟨x, a, t, _, _, _, _, rfl, rfl⟩ | ⟨k, d', B', hk, _, hr, rfl, rfl⟩ | ⟨k, d', B', hk, _, hr, rfl, rfl⟩ | ⟨ds, Bs, hl, hr, rfl, rfl⟩ | ⟨ds, Bs, hl, hr, rfl, rfl⟩
    · kernel_rfl
    · kernel_rfl
    · have v := ih d' B' hr
      obtain ⟨X, hX⟩ : ∃ X, D.tup [.str "within", .int k, d'] = X := ⟨_, rfl⟩
      have i0 : gIxT X (.int 0) = some (.str "within") := by rw [← hX]; kernel_rfl
      have i1 : gIxT X (.int 1) = some (.int k) := by rw [← hX]; kernel_rfl
      have i2 : gIxT X (.int 2) = some d' := by rw [← hX]; kernel_rfl
      have g1 : gEq (.str "within") (.str "call") = some (.bl false) := by kernel_rfl
      have g2 : gInS false (.str "within") (.tup [.str "within", .str "calls"]) = some (.bl true) := by kernel_rfl
      rw [hX]
      unfold Pv.fnOf b_l_length
      simp? [i0, i1, i2, g1, g2, v, gMin2, eInS]
      rfl
    · have v := ih d' B' hr
      obtain ⟨X, hX⟩ : ∃ X, D.tup [.str "calls", .int k, d'] = X := ⟨_, rfl⟩
      have i0 : gIxT X (.int 0) = some (.str "calls") := by rw [← hX]; kernel_rfl
      have i1 : gIxT X (.int 1) = some (.int k) := by rw [← hX]; kernel_rfl
      have i2 : gIxT X (.int 2) = some d' := by rw [← hX]; kernel_rfl
      have g1 : gEq (.str "calls") (.str "call") = some (.bl false) := by kernel_rfl
      have g2 : gInS false (.str "calls") (.tup [.str "within", .str "calls"]) = some (.bl true) := by kernel_rfl
      rw [hX]
      unfold Pv.fnOf b_l_length
      simp? [i0, i1, i2, g1, g2, v, gMin2, eInS]
      rfl
    · obtain ⟨z1, z2, z3⟩ := all2_zip hr
      obtain ⟨X, hX⟩ : ∃ X, D.tup [.str "all", .tup ds] = X := ⟨_, rfl⟩
      have i0 : gIxT X (.int 0) = some (.str "all") := by rw [← hX]; kernel_rfl
      have i1 : gIxT X (.int 1) = some (.tup ((ds.zip Bs).map Prod.fst)) := by rw [← hX, z1]; kernel_rfl
      have g1 : gEq (.str "all") (.str "call") = some (.bl false) := by kernel_rfl
      have g2 : gInS false (.str "all") (.tup [.str "within", .str "calls"]) = some (.bl false) := by kernel_rfl
      have g3 : gEq (.str "all") (.str "none") = some (.bl false) := by kernel_rfl
      have g4 : gEq (.str "all") (.str "all") = some (.bl true) := by kernel_rfl
      have zl : (ds.zip Bs).length ≤ 1000 := by rw [List.length_zip]; omega
      have lc := lcLen_ev (K := K) (κ := κ) slf X (some (.d (.str "all"))) .non (ds.zip Bs) zl i1 fun p hp => ih p.1 p.2 (z3 p hp)
      have em : (ds.zip Bs).map (fun p => p.2.len) = Bs.map Beh.len := by have e := congrArg (List.map Beh.len) z2; rw [List.map_map] at e; exact e
      rw [em] at lc
      rw [hX]
      refine fn_rt (ρ := [some (.d X), some (.d (.str "all")), some (.d (.lst ((Bs.map Beh.len).map .int))), none]) ?_ rfl
      unfold b_l_length
      refine seq_nx (ρ' := [some (.d X), some (.d (.str "all")), none, none]) (by simp? [i0]) ?_
      refine seq_nx (if_no (ρ1 := [some (.d X), some (.d (.str "all")), none, none]) (by simp? [g1])) ?_
      refine seq_nx (if_no (ρ1 := [some (.d X), some (.d (.str "all")), none, none]) (by unfold eInS; simp? [g2])) ?_
      refine seq_nx (if_no (ρ1 := [some (.d X), some (.d (.str "all")), none, none]) (by simp? [g3])) ?_
      refine seq_nx (asg_of lc (by show 2 < 4; decide)) ?_
      have gs := gSum_map (Bs.map Beh.len)
      exact seq_rt (by simp? [g4, gs])
    · obtain ⟨z1, z2, z3⟩ := all2_zip hr
      obtain ⟨X, hX⟩ : ∃ X, D.tup [.str "one", .tup ds] = X := ⟨_, rfl⟩
      have i0 : gIxT X (.int 0) = some (.str "one") := by rw [← hX]; kernel_rfl
      have i1 : gIxT X (.int 1) = some (.tup ((ds.zip Bs).map Prod.fst)) := by rw [← hX, z1]; kernel_rfl
      have g1 : gEq (.str "one") (.str "call") = some (.bl false) := by kernel_rfl
      have g2 : gInS false (.str "one") (.tup [.str "within", .str "calls"]) = some (.bl false) := by kernel_rfl
      have g3 : gEq (.str "one") (.str "none") = some (.bl false) := by kernel_rfl
      have g4 : gEq (.str "one") (.str "all") = some (.bl false) := by kernel_rfl
      have zl : (ds.zip Bs).length ≤ 1000 := by rw [List.length_zip]; omega
      have lc := lcLen_ev (K := K) (κ := κ) slf X (some (.d (.str "one"))) .non (ds.zip Bs) zl i1 fun p hp => ih p.1 p.2 (z3 p hp)
      have em : (ds.zip Bs).map (fun p => p.2.len) = Bs.map Beh.len := by have e := congrArg (List.map Beh.len) z2; rw [List.map_map] at e; exact e
      rw [em] at lc
      rw [hX]
      refine fn_rt (ρ := [some (.d X), some (.d (.str "one")), some (.d (.lst ((Bs.map Beh.len).map .int))), none]) ?_ rfl
      unfold b_l_length
      refine seq_nx (ρ' := [some (.d X), some (.d (.str "one")), none, none]) (by simp? [i0]) ?_
      refine seq_nx (if_no (ρ1 := [some (.d X), some (.d (.str "one")), none, none]) (by simp? [g1])) ?_
      refine seq_nx (if_no (ρ1 := [some (.d X), some (.d (.str "one")), none, none]) (by unfold eInS; simp? [g2])) ?_
      refine seq_nx (if_no (ρ1 := [some (.d X), some (.d (.str "one")), none, none]) (by simp? [g3])) ?_
      refine seq_nx (asg_of lc (by show 2 < 4; decide)) ?_
      have gd := all2_good (good n) hr
      have bl : Bs.length ≤ 1000 := by rw [← z2, List.length_map]; exact zl
      have tz := topZ_of (K := K) (κ := κ) (a := eV 2) (ρ := [some (.d X), some (.d (.str "one")), some (.d (.lst ((Bs.map Beh.len).map .int))), none]) (ρ1 := [some (.d X), some (.d (.str "one")), some (.d (.lst ((Bs.map Beh.len).map .int))), none]) (xs := Bs.map Beh.len) rfl (by simpa using bl) fun x hx => by
        obtain ⟨B', hB, rfl⟩ := List.mem_map.mp hx
        exact (gd B' hB).len0
      refine seq_rt ?_
      generalize eTop1 (K := K) (κ := κ) (eCatL (eV 2) (eLst (aCons (eInt 0) (aNil)))) = et at tz ⊢
      show (sRet (eIf (tV' (eEq (eV 1) (eStr "all"))) (eSum (aCons (eV 2) (aNil))) et)).sv [some (.d X), some (.d (.str "one")), some (.d (.lst ((Bs.map Beh.len).map .int))), none] = _
      simp? [g4, tz]
end
end K33.G
set_option maxRecDepth 100000
set_option maxHeartbeats 4000000
namespace K33.G
open PySem PySem.Spec PyProof.Rows L2 Pv P25 P66 P50
section
variable {K : PySem.W.Frag} {κ : Cls} {mg : Str → Option Value}
def rgD (n : Nat) : List D := (List.range n).map fun i : Nat => .int (i : Int)
theorem nums_rg (n : Nat) : nums 0 n = rgD n := List.map_congr_left fun i _ => by rw [Int.zero_add]
theorem range_z {ρ : Pv.Env} {e : SE K κ} {z : Int} (he : e.ev ρ = .ok (.d (.int z)) ρ) (hz : 0 ≤ z ∧ z ≤ 1000) : (iR1 (eAdd e (eInt 1))).ev ρ = .ok (nums 0 (z + 1).toNat) ρ := by
  have m5 : -(2 ^ 62) ≤ z + 1 ∧ z + 1 < 2 ^ 62 := by omega
  simp? [he, if_pos m5]
theorem range_it {ρ : Pv.Env} {e : SE K κ} {m : Nat} (he : e.ev ρ = .ok (.d (.int (m : Int))) ρ) (hm : m ≤ 1000) : (iR1 (eAdd e (eInt 1))).ev ρ = .ok (rgD (m + 1)) ρ := by
  have h := range_z he ⟨by omega, by omega⟩
  have tn : ((m : Int) + 1).toNat = m + 1 := by omega
  rw [tn, nums_rg] at h
  exact h
theorem cut_ev {X : D} {a : Int} (b : Option Int) {ρ : Pv.Env} (h0 : ρ[0]? = some (some (.d X))) (h1 : ρ[1]? = some (some (.d (bD b)))) (hx : gIxT X (.int 2) = some (.int a)) :
    (eIf (tV (eIsN (eV (K := K) (κ := κ) 1))) (eIxT (eV 0) (eInt 2)) (eMin2 (aCons (eIxT (eV 0) (eInt 2)) (aCons (eSub (eV 1) (eInt 1)) (aNil))))).ev ρ = .ok (.d (.int (cutA b a))) ρ := by
  cases b with
  | none =>
    have nn : D.isN .non = true := rfl
    have h1 : ρ[1]? = some (some (.d .non)) := h1
    simp? [h0, h1, hx, nn]
    rfl
  | some w =>
    have nn : D.isN (.int w) = false := rfl
    have h1 : ρ[1]? = some (some (.d (.int w))) := h1
    simp? [h0, h1, hx, nn, gMin2]
    rfl
def lcCall : SE K κ := eLc (iR1 (eAdd (eV 2) (eInt 1))) (gN 8) (tYes') (eMul (eMin2 (aCons (eIxT (eV 0) (eInt 3)) (aCons (eV 8) (aNil)))) (eV 6)) [8] (fun _ h => h)
theorem lcCall_ev (X w : D) (u1 : Option W) (m : Nat) (hm : m ≤ 500) (t c : Int) (ht : 0 ≤ t ∧ t ≤ 1000) (hx : gIxT X (.int 3) = some (.int t)) :
    (lcCall (K := K) (κ := κ)).ev [some (.d X), u1, some (.d (.int (m : Int))), some (.d w), none, none, some (.d (.int c)), none, none, none, none, none] = .ok (.d (.lst (((List.range (m + 1)).map fun j : Nat => mn t (j : Int) * c).map .int))) [some (.d X), u1, some (.d (.int (m : Int))), some (.d w), none, none, some (.d (.int c)), none, none, none, none, none] := by
  have l := loopC_map (vs := [8]) (put := (gN (K := K) (κ := κ) 8).put) (t := (tYes' (K := K) (κ := κ)).ev) (e := (eMul (K := K) (κ := κ) (eMin2 (aCons (eIxT (eV 0) (eInt 3)) (aCons (eV 8) (aNil)))) (eV 6)).ev) (ρ0 := [some (.d X), u1, some (.d (.int (m : Int))), some (.d w), none, none, some (.d (.int c)), none, none, none, none, none])
    (fun i : Nat => .int (i : Int)) (fun i => some (.int (mn t (i : Int) * c))) (List.range (m + 1)) [] (fun i hi => by
      have hi := List.mem_range.mp hi
      have cm0 : CMul (mn t (i : Int)) c := cm (mn_pos ht.1 (by omega)) (by have := mn_le_l t (i : Int); omega)
      obtain ⟨z, hz⟩ : ∃ z : Int, (i : Int) = z := ⟨_, rfl⟩
      rw [hz] at cm0 ⊢
      have mm : gMin2 [.int t, .int z] = some (.int (mn t z)) := rfl
      exact ⟨[some (.d X), u1, some (.d (.int (m : Int))), some (.d w), none, none, some (.d (.int c)), none, some (.d (.int z)), none, none, none], [some (.d X), u1, some (.d (.int (m : Int))), some (.d w), none, none, some (.d (.int c)), none, some (.d (.int z)), none, none, none], rfl, [some (.d X), u1, some (.d (.int (m : Int))), some (.d w), none, none, some (.d (.int c)), none, some (.d (.int z)), none, none, none], rfl, by simp? [hx, mm, if_pos cm0], rfl⟩) (by simp; omega)
  rw [List.nil_append, fm_some fun i : Nat => D.int (mn t (i : Int) * c)] at l
  have e : (List.range (m + 1)).map (fun i : Nat => D.int (mn t (i : Int) * c)) = ((List.range (m + 1)).map fun j : Nat => mn t (j : Int) * c).map .int := by rw [List.map_map]; rfl
  rw [e] at l
  exact lc_of (vs := [8]) (it := iR1 (eAdd (eV 2) (eInt 1))) (g := gN 8) (t := tYes') (e := eMul (eMin2 (aCons (eIxT (eV 0) (eInt 3)) (aCons (eV 8) (aNil)))) (eV 6)) (hv := fun _ h => h) (xs := rgD (m + 1)) (ρi := [some (.d X), u1, some (.d (.int (m : Int))), some (.d w), none, none, some (.d (.int c)), none, none, none, none, none]) (range_it rfl (by omega)) rfl l rfl
/-- the tail of a body is of no account once it has told -/
theorem row_call (T : Tx K κ mg) (slf : Fn) (x : Str) (a t : Int) (b : Option Int) (m : Nat) (hm : m ≤ 500) (ht : 0 ≤ t ∧ t ≤ 1000) :
    Pv.fnOf 12 (b_l_row T slf).asg (b_l_row T slf).sv [.d (.tup [.str "call", .str x, .int a, .int t]), .d (bD b), .d (.int (m : Int))] =
      .ok (.d (.lst (((List.range (m + 1)).map fun j : Nat => mn t (j : Int) * cutA b a).map .int))) [.d (.tup [.str "call", .str x, .int a, .int t]), .d (bD b), .d (.int (m : Int))] := by
  obtain ⟨X, hX⟩ : ∃ X, D.tup [.str "call", .str x, .int a, .int t] = X := ⟨_, rfl⟩
  have i0 : gIxT X (.int 0) = some (.str "call") := by rw [← hX]; kernel_rfl
  have i2 : gIxT X (.int 2) = some (.int a) := by rw [← hX]; kernel_rfl
  have i3 : gIxT X (.int 3) = some (.int t) := by rw [← hX]; kernel_rfl
  have g1 : gEq (.str "call") (.str "call") = some (.bl true) := by kernel_rfl
  have cu := cut_ev (K := K) (κ := κ) (X := X) (a := a) b (ρ := [some (.d X), some (.d (bD b)), some (.d (.int (m : Int))), some (.d (.str "call")), none, none, none, none, none, none, none, none]) rfl rfl i2
  have lc := lcCall_ev (K := K) (κ := κ) X (.str "call") (some (.d (bD b))) m hm t (cutA b a) ht i3
  rw [hX]
  refine fn_rt (ρ := [some (.d X), some (.d (bD b)), some (.d (.int (m : Int))), some (.d (.str "call")), none, none, some (.d (.int (cutA b a))), none, none, none, none, none]) ?_ rfl
  unfold b_l_row
  refine seq_nx (ρ' := [some (.d X), some (.d (bD b)), some (.d (.int (m : Int))), some (.d (.str "call")), none, none, none, none, none, none, none, none]) (by simp? [i0]) ?_
  refine seq_rt (if_tr (ρ1 := [some (.d X), some (.d (bD b)), some (.d (.int (m : Int))), some (.d (.str "call")), none, none, none, none, none, none, none, none]) (by simp? [g1]) ?_)
  exact seq_nx (asg_of cu (by show 6 < 12; decide)) (seq_ret lc)
def lcWithin (slf : Fn) : SE K κ := eLc (iL (eCall 3 slf (aCons (eIxT (eV 0) (eInt 2)) (aCons (eV 1) (aCons (eV 2) (aNil)))))) (gN 9) (tYes') (eMin2 (aCons (eIxT (eV 0) (eInt 1)) (aCons (eV 9) (aNil)))) [9] (fun _ h => h)
theorem row_within (T : Tx K κ mg) (slf : Fn) (k : Int) (d : D) (b : Option Int) (m : Nat) (r : List Int) (hr : r.length ≤ 1000) (hv : slf [.d d, .d (bD b), .d (.int (m : Int))] = .ok (.d (.lst (r.map .int))) [.d d, .d (bD b), .d (.int (m : Int))]) :
    Pv.fnOf 12 (b_l_row T slf).asg (b_l_row T slf).sv [.d (.tup [.str "within", .int k, d]), .d (bD b), .d (.int (m : Int))] =
      .ok (.d (.lst ((r.map (mn k)).map .int))) [.d (.tup [.str "within", .int k, d]), .d (bD b), .d (.int (m : Int))] := by
  obtain ⟨X, hX⟩ : ∃ X, D.tup [.str "within", .int k, d] = X := ⟨_, rfl⟩
  have i0 : gIxT X (.int 0) = some (.str "within") := by rw [← hX]; kernel_rfl
  have i1 : gIxT X (.int 1) = some (.int k) := by rw [← hX]; kernel_rfl
  have i2 : gIxT X (.int 2) = some d := by rw [← hX]; kernel_rfl
  have g1 : gEq (.str "within") (.str "call") = some (.bl false) := by kernel_rfl
  have g2 : gEq (.str "within") (.str "within") = some (.bl true) := by kernel_rfl
  obtain ⟨BD, hB⟩ : ∃ BD, bD b = BD := ⟨_, rfl⟩
  obtain ⟨M, hM⟩ : ∃ M : Int, (m : Int) = M := ⟨_, rfl⟩
  rw [hB, hM] at hv ⊢
  have l := loopC_map (vs := [9]) (put := (gN (K := K) (κ := κ) 9).put) (t := (tYes' (K := K) (κ := κ)).ev) (e := (eMin2 (K := K) (κ := κ) (aCons (eIxT (eV 0) (eInt 1)) (aCons (eV 9) (aNil)))).ev) (ρ0 := [some (.d X), some (.d BD), some (.d (.int M)), some (.d (.str "within")), none, none, none, none, none, none, none, none])
    D.int (fun z => some (.int (mn k z))) r [] (fun z hz => by
      have mm : gMin2 [.int k, .int z] = some (.int (mn k z)) := rfl
      exact ⟨[some (.d X), some (.d BD), some (.d (.int M)), some (.d (.str "within")), none, none, none, none, none, some (.d (.int z)), none, none], [some (.d X), some (.d BD), some (.d (.int M)), some (.d (.str "within")), none, none, none, none, none, some (.d (.int z)), none, none], rfl, [some (.d X), some (.d BD), some (.d (.int M)), some (.d (.str "within")), none, none, none, none, none, some (.d (.int z)), none, none], rfl, by simp? [i1, mm], rfl⟩) (by simpa using hr)
  rw [List.nil_append, fm_some fun z : Int => D.int (mn k z)] at l
  have e : r.map (fun z => D.int (mn k z)) = (r.map (mn k)).map .int := by rw [List.map_map]; rfl
  rw [e] at l
  have lc : (lcWithin (K := K) (κ := κ) slf).ev [some (.d X), some (.d BD), some (.d (.int M)), some (.d (.str "within")), none, none, none, none, none, none, none, none] = .ok (.d (.lst ((r.map (mn k)).map .int))) [some (.d X), some (.d BD), some (.d (.int M)), some (.d (.str "within")), none, none, none, none, none, none, none, none] :=
    lc_of (vs := [9]) (it := iL (eCall 3 slf (aCons (eIxT (eV 0) (eInt 2)) (aCons (eV 1) (aCons (eV 2) (aNil)))))) (g := gN 9) (t := tYes') (e := eMin2 (aCons (eIxT (eV 0) (eInt 1)) (aCons (eV 9) (aNil)))) (hv := fun _ h => h) (xs := r.map .int) (ρi := [some (.d X), some (.d BD), some (.d (.int M)), some (.d (.str "within")), none, none, none, none, none, none, none, none]) (by simp? [i2, hv]) rfl l rfl
  rw [hX]
  refine fn_rt (ρ := [some (.d X), some (.d BD), some (.d (.int M)), some (.d (.str "within")), none, none, none, none, none, none, none, none]) ?_ rfl
  unfold b_l_row
  refine seq_nx (ρ' := [some (.d X), some (.d BD), some (.d (.int M)), some (.d (.str "within")), none, none, none, none, none, none, none, none]) (by simp? [i0]) ?_
  refine seq_nx (if_no (ρ1 := [some (.d X), some (.d BD), some (.d (.int M)), some (.d (.str "within")), none, none, none, none, none, none, none, none]) (by simp? [g1])) ?_
  exact seq_rt (if_tr (ρ1 := [some (.d X), some (.d BD), some (.d (.int M)), some (.d (.str "within")), none, none, none, none, none, none, none, none]) (by simp? [g2]) (seq_ret lc))
end
end K33.G
set_option maxRecDepth 100000
set_option maxHeartbeats 4000000
namespace K33.G
open PySem PySem.Spec PyProof.Rows L2 Pv P25 P66 P50
section
variable {K : PySem.W.Frag} {κ : Cls} {mg : Str → Option Value}
theorem ix_nat (r : List Int) (j : Nat) (h : j < r.length) : gIxL (.lst (r.map .int)) (.int (j : Int)) = some (.int (at_ r j)) := by
  show L2.atI (r.map D.int) (j : Int) = _
  unfold L2.atI L2.ixN
  rw [if_pos (by omega), if_pos (by simp only [List.length_map]; omega)]
  unfold at_
  simp [List.getD_eq_getElem?_getD, h]
theorem ix_int (r : List Int) (z : Int) (h0 : 0 ≤ z) (h : z.toNat < r.length) : gIxL (.lst (r.map .int)) (.int z) = some (.int (at_ r z.toNat)) := by
  have := ix_nat r z.toNat h
  rw [Int.toNat_of_nonneg h0] at this
  exact this
def lcCalls : SE K κ := eLc (iR1 (eAdd (eV 2) (eInt 1))) (gN 8) (tYes') (eIxL (eV 4) (eMin2 (aCons (eV 8) (aCons (eIxT (eV 0) (eInt 1)) (aNil))))) [8] (fun _ h => h)
theorem row_calls (T : Tx K κ mg) (slf : Fn) (k : Int) (hk : 0 ≤ k) (d : D) (b : Option Int) (m : Nat) (hm : m ≤ 500) (r : List Int) (hr : r.length = m + 1) (hv : slf [.d d, .d (bD b), .d (.int (m : Int))] = .ok (.d (.lst (r.map .int))) [.d d, .d (bD b), .d (.int (m : Int))]) :
    Pv.fnOf 12 (b_l_row T slf).asg (b_l_row T slf).sv [.d (.tup [.str "calls", .int k, d]), .d (bD b), .d (.int (m : Int))] =
      .ok (.d (.lst (((List.range (m + 1)).map fun j : Nat => at_ r (mn (j : Int) k).toNat).map .int))) [.d (.tup [.str "calls", .int k, d]), .d (bD b), .d (.int (m : Int))] := by
  obtain ⟨X, hX⟩ : ∃ X, D.tup [.str "calls", .int k, d] = X := ⟨_, rfl⟩
  have i0 : gIxT X (.int 0) = some (.str "calls") := by rw [← hX]; kernel_rfl
  have i1 : gIxT X (.int 1) = some (.int k) := by rw [← hX]; kernel_rfl
  have i2 : gIxT X (.int 2) = some d := by rw [← hX]; kernel_rfl
  have g1 : gEq (.str "calls") (.str "call") = some (.bl false) := by kernel_rfl
  have g2 : gEq (.str "calls") (.str "within") = some (.bl false) := by kernel_rfl
  have g3 : gEq (.str "calls") (.str "calls") = some (.bl true) := by kernel_rfl
  obtain ⟨BD, hB⟩ : ∃ BD, bD b = BD := ⟨_, rfl⟩
  rw [hB] at hv ⊢
  obtain ⟨RD, hRD⟩ : ∃ RD, D.lst (r.map .int) = RD := ⟨_, rfl⟩
  rw [hRD] at hv
  have l := loopC_map (vs := [8]) (put := (gN (K := K) (κ := κ) 8).put) (t := (tYes' (K := K) (κ := κ)).ev) (e := (eIxL (K := K) (κ := κ) (eV 4) (eMin2 (aCons (eV 8) (aCons (eIxT (eV 0) (eInt 1)) (aNil))))).ev) (ρ0 := [some (.d X), some (.d BD), some (.d (.int (m : Int))), some (.d (.str "calls")), some (.d RD), none, none, none, none, none, none, none])
    (fun i : Nat => .int (i : Int)) (fun i => some (.int (at_ r (mn (i : Int) k).toNat))) (List.range (m + 1)) [] (fun i hi => by
      have hi := List.mem_range.mp hi
      have z0 : 0 ≤ mn (i : Int) k := by unfold mn; split <;> omega
      have z1 : mn (i : Int) k ≤ (i : Int) := mn_le_l _ _
      have ix := ix_int r (mn (i : Int) k) z0 (by omega)
      rw [hRD] at ix
      obtain ⟨z, hz⟩ : ∃ z : Int, (i : Int) = z := ⟨_, rfl⟩
      rw [hz] at ix ⊢
      have mm : gMin2 [.int z, .int k] = some (.int (mn z k)) := rfl
      exact ⟨[some (.d X), some (.d BD), some (.d (.int (m : Int))), some (.d (.str "calls")), some (.d RD), none, none, none, some (.d (.int z)), none, none, none], [some (.d X), some (.d BD), some (.d (.int (m : Int))), some (.d (.str "calls")), some (.d RD), none, none, none, some (.d (.int z)), none, none, none], rfl, [some (.d X), some (.d BD), some (.d (.int (m : Int))), some (.d (.str "calls")), some (.d RD), none, none, none, some (.d (.int z)), none, none, none], rfl, by simp? [i1, mm, ix], rfl⟩) (by simp; omega)
  rw [List.nil_append, fm_some fun i : Nat => D.int (at_ r (mn (i : Int) k).toNat)] at l
  have e : (List.range (m + 1)).map (fun i : Nat => D.int (at_ r (mn (i : Int) k).toNat)) = ((List.range (m + 1)).map fun j : Nat => at_ r (mn (j : Int) k).toNat).map .int := by rw [List.map_map]; rfl
  rw [e] at l
  have lc : (lcCalls (K := K) (κ := κ)).ev [some (.d X), some (.d BD), some (.d (.int (m : Int))), some (.d (.str "calls")), some (.d RD), none, none, none, none, none, none, none] = _ :=
    lc_of (vs := [8]) (it := iR1 (eAdd (eV 2) (eInt 1))) (g := gN 8) (t := tYes') (e := eIxL (eV 4) (eMin2 (aCons (eV 8) (aCons (eIxT (eV 0) (eInt 1)) (aNil))))) (hv := fun _ h => h) (xs := rgD (m + 1)) (ρi := [some (.d X), some (.d BD), some (.d (.int (m : Int))), some (.d (.str "calls")), some (.d RD), none, none, none, none, none, none, none]) (range_it rfl (by omega)) rfl l rfl
  rw [hX]
  obtain ⟨M, hM⟩ : ∃ M : Int, (m : Int) = M := ⟨_, rfl⟩
  rw [hM] at hv lc ⊢
  refine fn_rt (ρ := [some (.d X), some (.d BD), some (.d (.int M)), some (.d (.str "calls")), some (.d RD), none, none, none, none, none, none, none]) ?_ rfl
  unfold b_l_row
  refine seq_nx (ρ' := [some (.d X), some (.d BD), some (.d (.int M)), some (.d (.str "calls")), none, none, none, none, none, none, none, none]) (by simp? [i0]) ?_
  refine seq_nx (if_no (ρ1 := [some (.d X), some (.d BD), some (.d (.int M)), some (.d (.str "calls")), none, none, none, none, none, none, none, none]) (by simp? [g1])) ?_
  refine seq_nx (if_no (ρ1 := [some (.d X), some (.d BD), some (.d (.int M)), some (.d (.str "calls")), none, none, none, none, none, none, none, none]) (by simp? [g2])) ?_
  refine seq_rt (if_tr (ρ1 := [some (.d X), some (.d BD), some (.d (.int M)), some (.d (.str "calls")), none, none, none, none, none, none, none, none]) (by simp? [g3]) ?_)
  refine seq_nx (ρ' := [some (.d X), some (.d BD), some (.d (.int M)), some (.d (.str "calls")), some (.d RD), none, none, none, none, none, none, none]) (by simp? [i2, hv]) ?_
  exact seq_ret lc
theorem row_none (T : Tx K κ mg) (slf : Fn) (b : Option Int) (m : Nat) (hm : m ≤ 500) :
    Pv.fnOf 12 (b_l_row T slf).asg (b_l_row T slf).sv [.d (.tup [.str "none"]), .d (bD b), .d (.int (m : Int))] =
      .ok (.d (.lst ((zeroR m).map .int))) [.d (.tup [.str "none"]), .d (bD b), .d (.int (m : Int))] := by
  obtain ⟨X, hX⟩ : ∃ X, D.tup [.str "none"] = X := ⟨_, rfl⟩
  have i0 : gIxT X (.int 0) = some (.str "none") := by rw [← hX]; kernel_rfl
  have g1 : gEq (.str "none") (.str "call") = some (.bl false) := by kernel_rfl
  have g2 : gEq (.str "none") (.str "within") = some (.bl false) := by kernel_rfl
  have g3 : gEq (.str "none") (.str "calls") = some (.bl false) := by kernel_rfl
  have g4 : gEq (.str "none") (.str "none") = some (.bl true) := by kernel_rfl
  obtain ⟨BD, hB⟩ : ∃ BD, bD b = BD := ⟨_, rfl⟩
  rw [hB, hX]
  have ze : (zeroR m).map D.int = List.replicate (m + 1) (.int 0) := by simp [zeroR]
  rw [ze]
  obtain ⟨M, hM⟩ : ∃ M : Int, (m : Int) = M := ⟨_, rfl⟩
  have o : 0 ≤ M + 1 ∧ M + 1 ≤ 1000 := by omega
  have tn : (M + 1).toNat = m + 1 := by omega
  rw [hM]
  refine fn_rt (ρ := [some (.d X), some (.d BD), some (.d (.int M)), some (.d (.str "none")), some (.d (.lst (List.replicate (m + 1) (.int 0)))), none, none, none, none, none, none, none]) ?_ rfl
  unfold b_l_row
  refine seq_nx (ρ' := [some (.d X), some (.d BD), some (.d (.int M)), some (.d (.str "none")), none, none, none, none, none, none, none, none]) (by simp? [i0]) ?_
  refine seq_nx (if_no (ρ1 := [some (.d X), some (.d BD), some (.d (.int M)), some (.d (.str "none")), none, none, none, none, none, none, none, none]) (by simp? [g1])) ?_
  refine seq_nx (if_no (ρ1 := [some (.d X), some (.d BD), some (.d (.int M)), some (.d (.str "none")), none, none, none, none, none, none, none, none]) (by simp? [g2])) ?_
  refine seq_nx (if_no (ρ1 := [some (.d X), some (.d BD), some (.d (.int M)), some (.d (.str "none")), none, none, none, none, none, none, none, none]) (by simp? [g3])) ?_
  refine seq_nx (ρ' := [some (.d X), some (.d BD), some (.d (.int M)), some (.d (.str "none")), some (.d (.lst (List.replicate (m + 1) (.int 0)))), none, none, none, none, none, none, none]) (by
    rw [← tn]
    have fl : ∀ n : Nat, (List.replicate n [D.int 0]).flatten = List.replicate n (D.int 0) := rep_flat (.int 0)
    simp? [eRepL_ev, if_pos o, fl]) ?_
  exact seq_rt (if_tr (ρ1 := [some (.d X), some (.d BD), some (.d (.int M)), some (.d (.str "none")), some (.d (.lst (List.replicate (m + 1) (.int 0)))), none, none, none, none, none, none, none]) (by simp? [g4]) (seq_ret rfl))
end
end K33.G
set_option maxRecDepth 100000
set_option maxHeartbeats 4000000
namespace K33.G
open PySem PySem.Spec PyProof.Rows L2 Pv P25 P66 P50
section
variable {K : PySem.W.Frag} {κ : Cls} {mg : Str → Option Value}
def lcMax : SE K κ := eLc (iZipN (eV 4) (eV 7)) (gN 10) (tYes') (eTopT (eV 10)) [10] (fun _ h => h)
theorem lcMax_ev (X BD M w : D) (u5 u6 u8 u9 u11 : Option W) (u10 : Option W) (r s : List Int) (hl : r.length = s.length) (h1 : r.length ≤ 1000) :
    (lcMax (K := K) (κ := κ)).ev [some (.d X), some (.d BD), some (.d M), some (.d w), some (.d (inD r)), u5, u6, some (.d (inD s)), u8, u9, u10, u11] = .ok (.d (inD (maxR r s))) [some (.d X), some (.d BD), some (.d M), some (.d w), some (.d (inD r)), u5, u6, some (.d (inD s)), u8, u9, none, u11] := by
  have zz : ((r.map D.int).zip (s.map D.int)).map Pv.pairD = (r.zip s).map fun p => D.tupW [.int p.1, .int p.2] := by
    rw [List.zip_map, List.map_map]
    rfl
  obtain ⟨RD, hRD⟩ : ∃ RD, inD r = RD := ⟨_, rfl⟩
  obtain ⟨SD, hSD⟩ : ∃ SD, inD s = SD := ⟨_, rfl⟩
  have it : (iZipN (K := K) (κ := κ) (eV 4) (eV 7)).ev [some (.d X), some (.d BD), some (.d M), some (.d w), some (.d RD), u5, u6, some (.d SD), u8, u9, u10, u11] = .ok ((r.zip s).map fun p => D.tupW [.int p.1, .int p.2]) [some (.d X), some (.d BD), some (.d M), some (.d w), some (.d RD), u5, u6, some (.d SD), u8, u9, u10, u11] := by
    rw [← hRD, ← hSD, ← zz]
    show (if (r.map D.int).length = (s.map D.int).length then R.ok (((r.map D.int).zip (s.map D.int)).map Pv.pairD) _ else .bad) = _
    rw [if_pos (by simpa using hl)]
  rw [hRD, hSD]
  have l := loopC_map (vs := [10]) (put := (gN (K := K) (κ := κ) 10).put) (t := (tYes' (K := K) (κ := κ)).ev) (e := (eTopT (K := K) (κ := κ) (eV 10)).ev) (ρ0 := [some (.d X), some (.d BD), some (.d M), some (.d w), some (.d RD), u5, u6, some (.d SD), u8, u9, none, u11])
    (fun p : Int × Int => D.tupW [.int p.1, .int p.2]) (fun p => some (.int (if p.1 < p.2 then p.2 else p.1))) (r.zip s) [] (fun p hp =>
      ⟨[some (.d X), some (.d BD), some (.d M), some (.d w), some (.d RD), u5, u6, some (.d SD), u8, u9, some (.d (.tupW [.int p.1, .int p.2])), u11], [some (.d X), some (.d BD), some (.d M), some (.d w), some (.d RD), u5, u6, some (.d SD), u8, u9, some (.d (.tupW [.int p.1, .int p.2])), u11], rfl, [some (.d X), some (.d BD), some (.d M), some (.d w), some (.d RD), u5, u6, some (.d SD), u8, u9, some (.d (.tupW [.int p.1, .int p.2])), u11], rfl, rfl, rfl⟩) (by rw [List.length_zip]; simp; omega)
  rw [List.nil_append, fm_some fun p : Int × Int => D.int (if p.1 < p.2 then p.2 else p.1)] at l
  have e : (r.zip s).map (fun p : Int × Int => D.int (if p.1 < p.2 then p.2 else p.1)) = (maxR r s).map .int := by unfold maxR; rw [List.map_map]; rfl
  rw [e] at l
  exact lc_of (vs := [10]) (it := iZipN (eV 4) (eV 7)) (g := gN 10) (t := tYes') (e := eTopT (eV 10)) (hv := fun _ h => h) (ρi := [some (.d X), some (.d BD), some (.d M), some (.d w), some (.d RD), u5, u6, some (.d SD), u8, u9, u10, u11]) it rfl l rfl
def lcIn : SE K κ := eLc (iR1 (eAdd (eV 8) (eInt 1))) (gN 11) (tYes') (eAdd (eIxL (eV 4) (eV 11)) (eIxL (eV 7) (eSub (eV 8) (eV 11)))) [11] (fun _ h => h)
theorem lcIn_ev (X BD M w : D) (u5 u6 u9 u10 u11 : Option W) (r s : List Int) (j : Nat) (hr : j < r.length) (hs : j < s.length) (hj : j ≤ 500) :
    (lcIn (K := K) (κ := κ)).ev [some (.d X), some (.d BD), some (.d M), some (.d w), some (.d (inD r)), u5, u6, some (.d (inD s)), some (.d (.int (j : Int))), u9, u10, u11] = .ok (.d (inD ((List.range (j + 1)).map fun i => at_ r i + at_ s (j - i)))) [some (.d X), some (.d BD), some (.d M), some (.d w), some (.d (inD r)), u5, u6, some (.d (inD s)), some (.d (.int (j : Int))), u9, u10, none] := by
  obtain ⟨RD, hRD⟩ : ∃ RD, inD r = RD := ⟨_, rfl⟩
  obtain ⟨SD, hSD⟩ : ∃ SD, inD s = SD := ⟨_, rfl⟩
  rw [hRD, hSD]
  have l := loopC_map (vs := [11]) (put := (gN (K := K) (κ := κ) 11).put) (t := (tYes' (K := K) (κ := κ)).ev) (e := (eAdd (K := K) (κ := κ) (eIxL (eV 4) (eV 11)) (eIxL (eV 7) (eSub (eV 8) (eV 11)))).ev) (ρ0 := [some (.d X), some (.d BD), some (.d M), some (.d w), some (.d RD), u5, u6, some (.d SD), some (.d (.int (j : Int))), u9, u10, none])
    (fun i : Nat => .int (i : Int)) (fun i => some (.int (at_ r i + at_ s (j - i)))) (List.range (j + 1)) [] (fun i hi => by
      have hi := List.mem_range.mp hi
      have ix := ix_nat r i (by omega)
      have iy := ix_nat s (j - i) (by omega)
      have sub : ((j - i : Nat) : Int) = (j : Int) - (i : Int) := by omega
      rw [sub] at iy
      have hRD' : D.lst (r.map .int) = RD := hRD
      have hSD' : D.lst (s.map .int) = SD := hSD
      rw [hRD'] at ix
      rw [hSD'] at iy
      obtain ⟨z, hz⟩ : ∃ z : Int, (i : Int) = z := ⟨_, rfl⟩
      obtain ⟨y, hy⟩ : ∃ y : Int, (j : Int) = y := ⟨_, rfl⟩
      rw [hz] at ix iy ⊢
      rw [hy] at iy ⊢
      exact ⟨[some (.d X), some (.d BD), some (.d M), some (.d w), some (.d RD), u5, u6, some (.d SD), some (.d (.int y)), u9, u10, some (.d (.int z))], [some (.d X), some (.d BD), some (.d M), some (.d w), some (.d RD), u5, u6, some (.d SD), some (.d (.int y)), u9, u10, some (.d (.int z))], rfl, [some (.d X), some (.d BD), some (.d M), some (.d w), some (.d RD), u5, u6, some (.d SD), some (.d (.int y)), u9, u10, some (.d (.int z))], rfl, by simp? [ix, iy], rfl⟩) (by simp; omega)
  rw [List.nil_append, fm_some fun i : Nat => D.int (at_ r i + at_ s (j - i))] at l
  have e : (List.range (j + 1)).map (fun i : Nat => D.int (at_ r i + at_ s (j - i))) = ((List.range (j + 1)).map fun i => at_ r i + at_ s (j - i)).map .int := by rw [List.map_map]; rfl
  rw [e] at l
  exact lc_of (vs := [11]) (it := iR1 (eAdd (eV 8) (eInt 1))) (g := gN 11) (t := tYes') (e := eAdd (eIxL (eV 4) (eV 11)) (eIxL (eV 7) (eSub (eV 8) (eV 11)))) (hv := fun _ h => h) (xs := rgD (j + 1)) (ρi := [some (.d X), some (.d BD), some (.d M), some (.d w), some (.d RD), u5, u6, some (.d SD), some (.d (.int (j : Int))), u9, u10, u11]) (range_it rfl (by omega)) rfl l rfl
def lcConv : SE K κ := eLc (iR1 (eAdd (eV 2) (eInt 1))) (gN 8) (tYes') (eTop1 lcIn) [8] (fun _ h => h)
theorem lcConv_ev (X BD w : D) (m : Nat) (hm : m ≤ 500) (u5 u6 u8 u9 u10 : Option W) (r s : List Int) (hr : r.length = m + 1) (hs : s.length = m + 1) :
    (lcConv (K := K) (κ := κ)).ev [some (.d X), some (.d BD), some (.d (.int (m : Int))), some (.d w), some (.d (inD r)), u5, u6, some (.d (inD s)), u8, u9, u10, none] = .ok (.d (inD (convR m r s))) [some (.d X), some (.d BD), some (.d (.int (m : Int))), some (.d w), some (.d (inD r)), u5, u6, some (.d (inD s)), none, u9, u10, none] := by
  have inn := fun (j : Nat) (hj : j < m + 1) => lcIn_ev (K := K) (κ := κ) X BD (.int (m : Int)) w u5 u6 u9 u10 none r s j (by omega) (by omega) (by omega)
  obtain ⟨RD, hRD⟩ : ∃ RD, inD r = RD := ⟨_, rfl⟩
  obtain ⟨SD, hSD⟩ : ∃ SD, inD s = SD := ⟨_, rfl⟩
  rw [hRD, hSD] at inn ⊢
  have l := loopC_map (vs := [8]) (put := (gN (K := K) (κ := κ) 8).put) (t := (tYes' (K := K) (κ := κ)).ev) (e := (eTop1 (K := K) (κ := κ) lcIn).ev) (ρ0 := [some (.d X), some (.d BD), some (.d (.int (m : Int))), some (.d w), some (.d RD), u5, u6, some (.d SD), none, u9, u10, none])
    (fun j : Nat => .int (j : Int)) (fun j => some (.int (match (List.range (j + 1)).map fun i => at_ r i + at_ s (j - i) with | [] => 0 | x :: xs => mxL x xs))) (List.range (m + 1)) [] (fun j hj => by
      have v := inn j (List.mem_range.mp hj)
      refine ⟨[some (.d X), some (.d BD), some (.d (.int (m : Int))), some (.d w), some (.d RD), u5, u6, some (.d SD), some (.d (.int (j : Int))), u9, u10, none], [some (.d X), some (.d BD), some (.d (.int (m : Int))), some (.d w), some (.d RD), u5, u6, some (.d SD), some (.d (.int (j : Int))), u9, u10, none], rfl, [some (.d X), some (.d BD), some (.d (.int (m : Int))), some (.d w), some (.d RD), u5, u6, some (.d SD), some (.d (.int (j : Int))), u9, u10, none], rfl, ?_, rfl⟩
      cases hc : (List.range (j + 1)).map fun i => at_ r i + at_ s (j - i) with
      | nil => simp at hc
      | cons x xs =>
        rw [hc] at v
        have t := top1_of (K := K) (κ := κ) (a := lcIn) (n := x) (ns := xs) v
        rw [mxL_top] at t
        exact t) (by simp; omega)
  rw [List.nil_append, fm_some fun j : Nat => D.int (match (List.range (j + 1)).map fun i => at_ r i + at_ s (j - i) with | [] => 0 | x :: xs => mxL x xs)] at l
  have e : (List.range (m + 1)).map (fun j : Nat => D.int (match (List.range (j + 1)).map fun i => at_ r i + at_ s (j - i) with | [] => 0 | x :: xs => mxL x xs)) = (convR m r s).map .int := by unfold convR; rw [List.map_map]; rfl
  rw [e] at l
  exact lc_of (vs := [8]) (it := iR1 (eAdd (eV 2) (eInt 1))) (g := gN 8) (t := tYes') (e := eTop1 lcIn) (hv := fun _ h => h) (xs := rgD (m + 1)) (ρi := [some (.d X), some (.d BD), some (.d (.int (m : Int))), some (.d w), some (.d RD), u5, u6, some (.d SD), u8, u9, u10, none]) (range_it rfl (by omega)) rfl l rfl
end
end K33.G
set_option maxRecDepth 100000
set_option maxHeartbeats 4000000
namespace K33.G
open PySem PySem.Spec PyProof.Rows L2 Pv P25 P66 P50
section
variable {K : PySem.W.Frag} {κ : Cls} {mg : Str → Option Value}
def bdR (slf : Fn) : SS K κ := (sSeq (sAsg 7 (eCall 3 slf (aCons (eV 5) (aCons (eV 1) (aCons (eV 2) (aNil))))))
    (sSeq (sIf (tV' (eEq (eV 3) (eStr "one"))) (sSeq (sAsg 4 lcMax) (sNil)) (sSeq (sAsg 4 lcConv) (sNil)))
    (sNil)))
/-- one part taken in: o tells whether it is a choice -/
def stepR (o : Bool) (m : Nat) (r s : List Int) : List Int := if o then maxR r s else convR m r s
theorem step_len {o : Bool} {m : Nat} {r s : List Int} (hr : r.length = m + 1) (hs : s.length = m + 1) : (stepR o m r s).length = m + 1 := by
  unfold stepR
  split
  · rw [max_len (by omega)]; exact hr
  · exact conv_len m r s
theorem part_step (slf : Fn) (X BD d : D) (w : Str) (o : Bool) (hw : gEq (.str w) (.str "one") = some (.bl o)) (m : Nat) (hm : m ≤ 500) (u6 u7 : Option W) (r s : List Int) (hr : r.length = m + 1) (hs : s.length = m + 1) (hv : slf [.d d, .d BD, .d (.int (m : Int))] = .ok (.d (inD s)) [.d d, .d BD, .d (.int (m : Int))]) :
    (bdR (K := K) (κ := κ) slf).sv [some (.d X), some (.d BD), some (.d (.int (m : Int))), some (.d (.str w)), some (.d (inD r)), some (.d d), u6, u7, none, none, none, none] =
      .ok .nx [some (.d X), some (.d BD), some (.d (.int (m : Int))), some (.d (.str w)), some (.d (inD (stepR o m r s))), some (.d d), u6, some (.d (inD s)), none, none, none, none] := by
  have a := lcMax_ev (K := K) (κ := κ) X BD (.int (m : Int)) (.str w) (some (.d d)) u6 none none none none r s (by omega) (by omega)
  have c := lcConv_ev (K := K) (κ := κ) X BD (.str w) m hm (some (.d d)) u6 none none none r s hr hs
  unfold bdR
  refine seq_nx (ρ' := [some (.d X), some (.d BD), some (.d (.int (m : Int))), some (.d (.str w)), some (.d (inD r)), some (.d d), u6, some (.d (inD s)), none, none, none, none]) ?_ ?_
  · generalize inD s = SD at hv ⊢
    generalize (m : Int) = M at hv ⊢
    simp? [hv]
  · generalize inD s = SD at a c ⊢
    cases o with
    | true =>
      show _ = R.ok Flow.nx [some (.d X), some (.d BD), some (.d (.int (m : Int))), some (.d (.str w)), some (.d (inD (maxR r s))), some (.d d), u6, some (.d SD), none, none, none, none]
      refine seq_nx (if_tr (ρ1 := [some (.d X), some (.d BD), some (.d (.int (m : Int))), some (.d (.str w)), some (.d (inD r)), some (.d d), u6, some (.d SD), none, none, none, none]) (by simp? [hw]) (seq_nx (asg_of a (by show 4 < 12; decide)) rfl)) rfl
    | false =>
      show _ = R.ok Flow.nx [some (.d X), some (.d BD), some (.d (.int (m : Int))), some (.d (.str w)), some (.d (inD (convR m r s))), some (.d d), u6, some (.d SD), none, none, none, none]
      refine seq_nx (if_fa (ρ1 := [some (.d X), some (.d BD), some (.d (.int (m : Int))), some (.d (.str w)), some (.d (inD r)), some (.d d), u6, some (.d SD), none, none, none, none]) (by simp? [hw]) (seq_nx (asg_of c (by show 4 < 12; decide)) rfl)) rfl
theorem part_loop (slf : Fn) (X BD : D) (w : Str) (o : Bool) (hw : gEq (.str w) (.str "one") = some (.bl o)) (m : Nat) (hm : m ≤ 500) (u6 : Option W) (row : Beh → List Int) : ∀ (ps : List (D × Beh)) (r : List Int) (u5 u7 : Option W), r.length = m + 1 →
    (∀ p ∈ ps, (row p.2).length = m + 1 ∧ slf [.d p.1, .d BD, .d (.int (m : Int))] = .ok (.d (inD (row p.2))) [.d p.1, .d BD, .d (.int (m : Int))]) →
    ∃ v5 v7, loopS (gN (K := K) (κ := κ) 5).put (bdR (K := K) (κ := κ) slf).sv (ps.map Prod.fst) [some (.d X), some (.d BD), some (.d (.int (m : Int))), some (.d (.str w)), some (.d (inD r)), u5, u6, u7, none, none, none, none] =
      .ok .nx [some (.d X), some (.d BD), some (.d (.int (m : Int))), some (.d (.str w)), some (.d (inD (ps.foldl (fun r p => stepR o m r (row p.2)) r))), v5, u6, v7, none, none, none, none]
  | [], r, u5, u7, _, _ => ⟨u5, u7, rfl⟩
  | p :: ps, r, u5, u7, hr, h => by
    obtain ⟨h1, h2⟩ := h p (by simp)
    have e := part_step (K := K) (κ := κ) slf X BD p.1 w o hw m hm u6 u7 r (row p.2) hr h1 h2
    obtain ⟨v5, v7, f⟩ := part_loop slf X BD w o hw m hm u6 row ps (stepR o m r (row p.2)) (some (.d p.1)) (some (.d (inD (row p.2)))) (step_len hr h1) fun q hq => h q (by simp [hq])
    exact ⟨v5, v7, (loop_nx (ρ1 := [some (.d X), some (.d BD), some (.d (.int (m : Int))), some (.d (.str w)), some (.d (inD r)), some (.d p.1), u6, u7, none, none, none, none]) rfl e).trans f⟩
theorem row_parts (T : Tx K κ mg) (slf : Fn) (w : Str) (o : Bool) (g1 : gEq (.str w) (.str "call") = some (.bl false)) (g2 : gEq (.str w) (.str "within") = some (.bl false)) (g3 : gEq (.str w) (.str "calls") = some (.bl false)) (g4 : gEq (.str w) (.str "none") = some (.bl false)) (g5 : gEq (.str w) (.str "one") = some (.bl o))
    (b : Option Int) (m : Nat) (hm : m ≤ 500) (ps : List (D × Beh)) (hv : ∀ p ∈ ps, (p.2.row b m).length = m + 1 ∧ slf [.d p.1, .d (bD b), .d (.int (m : Int))] = .ok (.d (inD (p.2.row b m))) [.d p.1, .d (bD b), .d (.int (m : Int))]) :
    Pv.fnOf 12 (b_l_row T slf).asg (b_l_row T slf).sv [.d (.tup [.str w, .tup (ps.map Prod.fst)]), .d (bD b), .d (.int (m : Int))] =
      .ok (.d (inD (ps.foldl (fun r p => stepR o m r (p.2.row b m)) (zeroR m)))) [.d (.tup [.str w, .tup (ps.map Prod.fst)]), .d (bD b), .d (.int (m : Int))] := by
  obtain ⟨X, hX⟩ : ∃ X, D.tup [.str w, .tup (ps.map Prod.fst)] = X := ⟨_, rfl⟩
  have i0 : gIxT X (.int 0) = some (.str w) := by rw [← hX]; kernel_rfl
  have i1 : gIxT X (.int 1) = some (.tup (ps.map Prod.fst)) := by rw [← hX]; kernel_rfl
  obtain ⟨BD, hB⟩ : ∃ BD, bD b = BD := ⟨_, rfl⟩
  rw [hB] at hv ⊢
  obtain ⟨v5, v7, lo⟩ := part_loop (K := K) (κ := κ) slf X BD w o g5 m hm none (fun B => B.row b m) ps (zeroR m) none none (by simp [zeroR]) hv
  rw [hX]
  have ze : inD (zeroR m) = .lst (List.replicate (m + 1) (.int 0)) := by simp [zeroR, inD]
  rw [ze] at lo
  obtain ⟨Z, hZ⟩ : ∃ Z, D.lst (List.replicate (m + 1) (D.int 0)) = Z := ⟨_, rfl⟩
  rw [hZ] at lo
  generalize inD (ps.foldl (fun r p => stepR o m r (p.2.row b m)) (zeroR m)) = RES at lo ⊢
  obtain ⟨M, hM⟩ : ∃ M : Int, (m : Int) = M := ⟨_, rfl⟩
  have oo : 0 ≤ M + 1 ∧ M + 1 ≤ 1000 := by omega
  have tn : (M + 1).toNat = m + 1 := by omega
  rw [hM] at lo ⊢
  have f := for_of (it := iT (eIxT (eV 0) (eInt 1))) (g := gN 5) (b := bdR (K := K) (κ := κ) slf) (ρ := [some (.d X), some (.d BD), some (.d (.int M)), some (.d (.str w)), some (.d Z), none, none, none, none, none, none, none]) (by simp? [i1]) lo
  refine fn_rt (ρ := [some (.d X), some (.d BD), some (.d (.int M)), some (.d (.str w)), some (.d RES), v5, none, v7, none, none, none, none]) ?_ rfl
  unfold b_l_row
  refine seq_nx (ρ' := [some (.d X), some (.d BD), some (.d (.int M)), some (.d (.str w)), none, none, none, none, none, none, none, none]) (by simp? [i0]) ?_
  refine seq_nx (if_no (ρ1 := [some (.d X), some (.d BD), some (.d (.int M)), some (.d (.str w)), none, none, none, none, none, none, none, none]) (by simp? [g1])) ?_
  refine seq_nx (if_no (ρ1 := [some (.d X), some (.d BD), some (.d (.int M)), some (.d (.str w)), none, none, none, none, none, none, none, none]) (by simp? [g2])) ?_
  refine seq_nx (if_no (ρ1 := [some (.d X), some (.d BD), some (.d (.int M)), some (.d (.str w)), none, none, none, none, none, none, none, none]) (by simp? [g3])) ?_
  refine seq_nx (ρ' := [some (.d X), some (.d BD), some (.d (.int M)), some (.d (.str w)), some (.d Z), none, none, none, none, none, none, none]) (by
    rw [← hZ, ← tn]
    have fl : ∀ n : Nat, (List.replicate n [D.int 0]).flatten = List.replicate n (D.int 0) := rep_flat (.int 0)
    simp? [eRepL_ev, if_pos oo, fl]) ?_
  refine seq_nx (if_no (ρ1 := [some (.d X), some (.d BD), some (.d (.int M)), some (.d (.str w)), some (.d Z), none, none, none, none, none, none, none]) (by simp? [g4])) ?_
  refine seq_nx f ?_
  exact seq_ret rfl
theorem row_succ (T : Tx K κ mg) (n : Nat) : f_l_row T (n + 1) = Pv.fnOf 12 (b_l_row T (f_l_row T n)).asg (b_l_row T (f_l_row T n)).sv := rfl
theorem foldl_snd {β : Type} (f : List Int → Beh → List Int) : ∀ (ps : List (β × Beh)) (r : List Int), ps.foldl (fun r p => f r p.2) r = (ps.map Prod.snd).foldl f r
  | [], _ => rfl
  | p :: ps, r => foldl_snd f ps _
theorem v_row (T : Tx K κ mg) : ∀ (n : Nat) (d : D) (B : Beh), Rgt n d B → ∀ N, n ≤ N → ∀ (b : Option Int) (m : Nat), m ≤ 500 → f_l_row T N [.d d, .d (bD b), .d (.int (m : Int))] = .ok (.d (inD (B.row b m))) [.d d, .d (bD b), .d (.int (m : Int))]
  | 0, _, _, h, _, _, _, _, _ => h.elim
  | n + 1, d, B, h, 0, hN, _, _, _ => by omega
  | n + 1, d, B, h, N + 1, hN, b, m, hm => by
    have ih := fun d B h => v_row T n d B h N (by omega) b m hm
    have gd := good n
    rw [row_succ]
    generalize f_l_row T N = slf at ih ⊢
    rcases h with ⟨rfl, rfl⟩ | ⟨x, a, t, _, _, ht, ht', rfl, rfl⟩ | ⟨k, d', B', hk, _, hr, rfl, rfl⟩ | ⟨k, d', B', hk, _, hr, rfl, rfl⟩ | ⟨ds, Bs, hl, hr, rfl, rfl⟩ | ⟨ds, Bs, hl, hr, rfl, rfl⟩
    · exact row_none T slf b m hm
    · exact row_call T slf x a t b m hm ⟨by omega, ht'⟩
    · exact row_within T slf k d' b m (B'.row b m) (by rw [(gd d' B' hr).rlen b m]; omega) (ih d' B' hr)
    · exact row_calls T slf k (by omega) d' b m hm (B'.row b m) ((gd d' B' hr).rlen b m) (ih d' B' hr)
    · obtain ⟨z1, z2, z3⟩ := all2_zip hr
      have e := row_parts T slf "all" false (by kernel_rfl) (by kernel_rfl) (by kernel_rfl) (by kernel_rfl) (by kernel_rfl) b m hm (ds.zip Bs) fun p hp => ⟨(gd p.1 p.2 (z3 p hp)).rlen b m, ih p.1 p.2 (z3 p hp)⟩
      rw [z1, foldl_snd (fun r B => stepR false m r (B.row b m)), z2] at e
      exact e
    · obtain ⟨z1, z2, z3⟩ := all2_zip hr
      have e := row_parts T slf "one" true (by kernel_rfl) (by kernel_rfl) (by kernel_rfl) (by kernel_rfl) (by kernel_rfl) b m hm (ds.zip Bs) fun p hp => ⟨(gd p.1 p.2 (z3 p hp)).rlen b m, ih p.1 p.2 (z3 p hp)⟩
      rw [z1, foldl_snd (fun r B => stepR true m r (B.row b m)), z2] at e
      exact e
end
end K33.G
set_option maxRecDepth 100000
set_option maxHeartbeats 4000000
namespace K33.G
open PySem PySem.Spec PyProof.Rows L2 Pv P25 P66 P50
section
variable {K : PySem.W.Frag} {κ : Cls} {mg : Str → Option Value}
theorem ix_last (r : List Int) (m : Nat) (h : r.length = m + 1) : gIxL (inD r) (.int (-1)) = some (.int (at_ r m)) := by
  show L2.atI (r.map D.int) (-1) = _
  unfold L2.atI L2.ixN
  rw [if_neg (by omega), if_pos (by simp only [List.length_map]; omega)]
  have e : ((-1 : Int) + ((r.map D.int).length : Nat)).toNat = m := by simp only [List.length_map]; omega
  rw [e]
  unfold at_
  have : m < r.length := by omega
  simp [List.getD_eq_getElem?_getD, this]
theorem top_succ (T : Tx K κ mg) (n : Nat) : f_l_top T (n + 1) = Pv.fnOf 5 (b_l_top T (f_l_top T n)).asg (b_l_top T (f_l_top T n)).sv := rfl
theorem top_none (T : Tx K κ mg) (slf : Fn) (b : D) : Pv.fnOf 5 (b_l_top T slf).asg (b_l_top T slf).sv [.d (.tup [.str "none"]), .d b] = .ok (.d (.int 0)) [.d (.tup [.str "none"]), .d b] := by kernel_rfl
theorem top_call (T : Tx K κ mg) (slf : Fn) (x : Str) (a t : Int) (b : Option Int) (ht : 0 ≤ t ∧ t ≤ 1000) :
    Pv.fnOf 5 (b_l_top T slf).asg (b_l_top T slf).sv [.d (.tup [.str "call", .str x, .int a, .int t]), .d (bD b)] = .ok (.d (.int (t * cutA b a))) [.d (.tup [.str "call", .str x, .int a, .int t]), .d (bD b)] := by
  obtain ⟨X, hX⟩ : ∃ X, D.tup [.str "call", .str x, .int a, .int t] = X := ⟨_, rfl⟩
  have i0 : gIxT X (.int 0) = some (.str "call") := by rw [← hX]; kernel_rfl
  have i2 : gIxT X (.int 2) = some (.int a) := by rw [← hX]; kernel_rfl
  have i3 : gIxT X (.int 3) = some (.int t) := by rw [← hX]; kernel_rfl
  have g1 : gEq (.str "call") (.str "call") = some (.bl true) := by kernel_rfl
  have cu := cut_ev (K := K) (κ := κ) (X := X) (a := a) b (ρ := [some (.d X), some (.d (bD b)), some (.d (.str "call")), none, none]) rfl rfl i2
  have cc : CMul t (cutA b a) := cm ht.1 (by omega)
  rw [hX]
  generalize cutA b a = c at cu cc ⊢
  refine fn_rt (ρ := [some (.d X), some (.d (bD b)), some (.d (.str "call")), none, none]) ?_ rfl
  unfold b_l_top
  generalize (eIf (tV (eIsN (eV (K := K) (κ := κ) 1))) (eIxT (eV 0) (eInt 2)) (eMin2 (aCons (eIxT (eV 0) (eInt 2)) (aCons (eSub (eV 1) (eInt 1)) (aNil))))) = ce at cu ⊢
  generalize bD b = BD at cu ⊢
  refine seq_nx (ρ' := [some (.d X), some (.d BD), some (.d (.str "call")), none, none]) (by simp? [i0]) ?_
  exact seq_rt (if_tr (ρ1 := [some (.d X), some (.d BD), some (.d (.str "call")), none, none]) (by simp? [g1]) (seq_ret (by simp? [i3, cu, if_pos cc])))
theorem top_within (T : Tx K κ mg) (slf : Fn) (k : Int) (d b : D) (z : Int) (hv : slf [.d d, .d b] = .ok (.d (.int z)) [.d d, .d b]) :
    Pv.fnOf 5 (b_l_top T slf).asg (b_l_top T slf).sv [.d (.tup [.str "within", .int k, d]), .d b] = .ok (.d (.int (mn k z))) [.d (.tup [.str "within", .int k, d]), .d b] := by
  obtain ⟨X, hX⟩ : ∃ X, D.tup [.str "within", .int k, d] = X := ⟨_, rfl⟩
  have i0 : gIxT X (.int 0) = some (.str "within") := by rw [← hX]; kernel_rfl
  have i1 : gIxT X (.int 1) = some (.int k) := by rw [← hX]; kernel_rfl
  have i2 : gIxT X (.int 2) = some d := by rw [← hX]; kernel_rfl
  have g1 : gEq (.str "within") (.str "call") = some (.bl false) := by kernel_rfl
  have g2 : gEq (.str "within") (.str "within") = some (.bl true) := by kernel_rfl
  have mm : gMin2 [.int k, .int z] = some (.int (mn k z)) := rfl
  rw [hX]
  refine fn_rt (ρ := [some (.d X), some (.d b), some (.d (.str "within")), none, none]) ?_ rfl
  unfold b_l_top
  refine seq_nx (ρ' := [some (.d X), some (.d b), some (.d (.str "within")), none, none]) (by simp? [i0]) ?_
  refine seq_nx (if_no (ρ1 := [some (.d X), some (.d b), some (.d (.str "within")), none, none]) (by simp? [g1])) ?_
  exact seq_rt (if_tr (ρ1 := [some (.d X), some (.d b), some (.d (.str "within")), none, none]) (by simp? [g2]) (seq_ret (by simp? [i1, i2, hv, mm])))
theorem top_calls (T : Tx K κ mg) (slf : Fn) (k : Int) (d b : D) (len : Int) (m : Nat) (hm : mn k len = (m : Int)) (r : List Int) (hr : r.length = m + 1) (hl : f_l_length T 7 [.d d] = .ok (.d (.int len)) [.d d]) (hv : f_l_row T 7 [.d d, .d b, .d (.int (m : Int))] = .ok (.d (inD r)) [.d d, .d b, .d (.int (m : Int))]) :
    Pv.fnOf 5 (b_l_top T slf).asg (b_l_top T slf).sv [.d (.tup [.str "calls", .int k, d]), .d b] = .ok (.d (.int (at_ r m))) [.d (.tup [.str "calls", .int k, d]), .d b] := by
  obtain ⟨X, hX⟩ : ∃ X, D.tup [.str "calls", .int k, d] = X := ⟨_, rfl⟩
  have i0 : gIxT X (.int 0) = some (.str "calls") := by rw [← hX]; kernel_rfl
  have i1 : gIxT X (.int 1) = some (.int k) := by rw [← hX]; kernel_rfl
  have i2 : gIxT X (.int 2) = some d := by rw [← hX]; kernel_rfl
  have g1 : gEq (.str "calls") (.str "call") = some (.bl false) := by kernel_rfl
  have g2 : gEq (.str "calls") (.str "within") = some (.bl false) := by kernel_rfl
  have g3 : gEq (.str "calls") (.str "calls") = some (.bl true) := by kernel_rfl
  have mm : gMin2 [.int k, .int len] = some (.int (m : Int)) := by rw [← hm]; rfl
  have la := ix_last r m hr
  generalize at_ r m = res at la ⊢
  generalize inD r = RD at la hv
  generalize (m : Int) = M at mm hv
  rw [hX]
  refine fn_rt (ρ := [some (.d X), some (.d b), some (.d (.str "calls")), none, none]) ?_ rfl
  unfold b_l_top
  generalize f_l_row T 7 = fr at hv ⊢
  generalize f_l_length T 7 = fl at hl ⊢
  refine seq_nx (ρ' := [some (.d X), some (.d b), some (.d (.str "calls")), none, none]) (by simp? [i0]) ?_
  refine seq_nx (if_no (ρ1 := [some (.d X), some (.d b), some (.d (.str "calls")), none, none]) (by simp? [g1])) ?_
  refine seq_nx (if_no (ρ1 := [some (.d X), some (.d b), some (.d (.str "calls")), none, none]) (by simp? [g2])) ?_
  exact seq_rt (if_tr (ρ1 := [some (.d X), some (.d b), some (.d (.str "calls")), none, none]) (by simp? [g3]) (seq_ret (by simp? [i1, i2, hl, mm, hv, la])))
def lcTop (slf : Fn) : SE K κ := eLc (iT (eIxT (eV 0) (eInt 1))) (gN 4) (tYes') (eCall 2 slf (aCons (eV 4) (aCons (eV 1) (aNil)))) [4] (fun _ h => h)
theorem lcTop_ev (slf : Fn) (x b w : D) (f : Beh → Int) (ps : List (D × Beh)) (hl : ps.length ≤ 1000) (hx : gIxT x (.int 1) = some (.tup (ps.map Prod.fst))) (hv : ∀ p ∈ ps, slf [.d p.1, .d b] = .ok (.d (.int (f p.2))) [.d p.1, .d b]) :
    (lcTop (K := K) (κ := κ) slf).ev [some (.d x), some (.d b), some (.d w), none, none] = .ok (.d (inD (ps.map fun p => f p.2))) [some (.d x), some (.d b), some (.d w), none, none] := by
  have l := loopC_map (vs := [4]) (put := (gN (K := K) (κ := κ) 4).put) (t := (tYes' (K := K) (κ := κ)).ev) (e := (eCall (K := K) (κ := κ) 2 slf (aCons (eV 4) (aCons (eV 1) (aNil)))).ev) (ρ0 := [some (.d x), some (.d b), some (.d w), none, none])
    Prod.fst (fun p => some (.int (f p.2))) ps [] (fun p hp => ⟨[some (.d x), some (.d b), some (.d w), none, some (.d p.1)], [some (.d x), some (.d b), some (.d w), none, some (.d p.1)], rfl, [some (.d x), some (.d b), some (.d w), none, some (.d p.1)], rfl, call2_of rfl rfl (hv p hp), rfl⟩) (by simpa using hl)
  rw [List.nil_append, fm_some fun p : D × Beh => D.int (f p.2)] at l
  have e : ps.map (fun p => D.int (f p.2)) = (ps.map fun p => f p.2).map .int := by rw [List.map_map]; rfl
  rw [e] at l
  exact lc_of (vs := [4]) (it := iT (eIxT (eV 0) (eInt 1))) (g := gN 4) (t := tYes') (e := eCall 2 slf (aCons (eV 4) (aCons (eV 1) (aNil)))) (hv := fun _ h => h) (xs := ps.map Prod.fst) (ρi := [some (.d x), some (.d b), some (.d w), none, none]) (by simp? [hx]) rfl l rfl
theorem top_parts (T : Tx K κ mg) (slf : Fn) (w : Str) (o : Bool) (g1 : gEq (.str w) (.str "call") = some (.bl false)) (g2 : gEq (.str w) (.str "within") = some (.bl false)) (g3 : gEq (.str w) (.str "calls") = some (.bl false)) (g4 : gEq (.str w) (.str "none") = some (.bl false)) (g5 : gEq (.str w) (.str "all") = some (.bl o))
    (b : D) (f : Beh → Int) (ps : List (D × Beh)) (hl : ps.length ≤ 1000) (h0 : ∀ p ∈ ps, 0 ≤ f p.2) (hv : ∀ p ∈ ps, slf [.d p.1, .d b] = .ok (.d (.int (f p.2))) [.d p.1, .d b]) :
    Pv.fnOf 5 (b_l_top T slf).asg (b_l_top T slf).sv [.d (.tup [.str w, .tup (ps.map Prod.fst)]), .d b] =
      .ok (.d (.int (if o then (ps.map fun p => f p.2).sum else mxL 0 (ps.map fun p => f p.2)))) [.d (.tup [.str w, .tup (ps.map Prod.fst)]), .d b] := by
  obtain ⟨X, hX⟩ : ∃ X, D.tup [.str w, .tup (ps.map Prod.fst)] = X := ⟨_, rfl⟩
  have i0 : gIxT X (.int 0) = some (.str w) := by rw [← hX]; kernel_rfl
  have i1 : gIxT X (.int 1) = some (.tup (ps.map Prod.fst)) := by rw [← hX]; kernel_rfl
  have lc := lcTop_ev (K := K) (κ := κ) slf X b (.str w) f ps hl i1 hv
  have tz := topZ_of (K := K) (κ := κ) (a := eV 3) (ρ := [some (.d X), some (.d b), some (.d (.str w)), some (.d (inD (ps.map fun p => f p.2))), none]) (ρ1 := [some (.d X), some (.d b), some (.d (.str w)), some (.d (inD (ps.map fun p => f p.2))), none]) (xs := ps.map fun p => f p.2) rfl (by simpa using hl) fun x hx => by
    obtain ⟨p, hp, rfl⟩ := List.mem_map.mp hx
    exact h0 p hp
  have gs : gSum [inD (ps.map fun p => f p.2)] = some (.int (ps.map fun p => f p.2).sum) := gSum_map _
  rw [hX]
  generalize inD (ps.map fun p => f p.2) = L at lc tz gs
  refine fn_rt (ρ := [some (.d X), some (.d b), some (.d (.str w)), some (.d L), none]) ?_ rfl
  unfold b_l_top
  refine seq_nx (ρ' := [some (.d X), some (.d b), some (.d (.str w)), none, none]) (by simp? [i0]) ?_
  refine seq_nx (if_no (ρ1 := [some (.d X), some (.d b), some (.d (.str w)), none, none]) (by simp? [g1])) ?_
  refine seq_nx (if_no (ρ1 := [some (.d X), some (.d b), some (.d (.str w)), none, none]) (by simp? [g2])) ?_
  refine seq_nx (if_no (ρ1 := [some (.d X), some (.d b), some (.d (.str w)), none, none]) (by simp? [g3])) ?_
  refine seq_nx (if_no (ρ1 := [some (.d X), some (.d b), some (.d (.str w)), none, none]) (by simp? [g4])) ?_
  refine seq_nx (asg_of lc (by show 3 < 5; decide)) ?_
  refine seq_rt ?_
  generalize eTop1 (K := K) (κ := κ) (eCatL (eV 3) (eLst (aCons (eInt 0) (aNil)))) = et at tz ⊢
  show (sRet (eIf (tV' (eEq (eV 2) (eStr "all"))) (eSum (aCons (eV 3) (aNil))) et)).sv [some (.d X), some (.d b), some (.d (.str w)), some (.d L), none] = _
  cases o with
  | true => simp? [g5, gs]
  | false => simp? [g5, tz]
theorem v_top (T : Tx K κ mg) : ∀ (n : Nat) (d : D) (B : Beh), n ≤ 7 → Rgt n d B → ∀ N, n ≤ N → ∀ (b : Option Int), Pos b → f_l_top T N [.d d, .d (bD b)] = .ok (.d (.int (B.top b))) [.d d, .d (bD b)]
  | 0, _, _, _, h, _, _, _, _ => h.elim
  | n + 1, d, B, _, h, 0, hN, _, _ => by omega
  | n + 1, d, B, h5, h, N + 1, hN, b, hb => by
    have ih := fun d B h => v_top T n d B (by omega) h N (by omega) b hb
    have gd := good n
    rw [top_succ]
    generalize f_l_top T N = slf at ih ⊢
    rcases h with ⟨rfl, rfl⟩ | ⟨x, a, t, _, _, ht, ht', rfl, rfl⟩ | ⟨k, d', B', hk, _, hr, rfl, rfl⟩ | ⟨k, d', B', hk, hk', hr, rfl, rfl⟩ | ⟨ds, Bs, hl, hr, rfl, rfl⟩ | ⟨ds, Bs, hl, hr, rfl, rfl⟩
    · exact top_none T slf (bD b)
    · exact top_call T slf x a t b ⟨by omega, ht'⟩
    · exact top_within T slf k d' (bD b) (B'.top b) (ih d' B' hr)
    · have l0 := (gd d' B' hr).len0
      have z0 : 0 ≤ mn k B'.len := mn_pos (by omega) l0
      have z1 : mn k B'.len ≤ k := mn_le_l _ _
      have e := top_calls T slf k d' (bD b) B'.len (mn k B'.len).toNat (Int.toNat_of_nonneg z0).symm (B'.row b (mn k B'.len).toNat) ((gd d' B' hr).rlen b _) (v_len T n d' B' hr 7 (by omega)) (v_row T n d' B' hr 7 (by omega) b _ (by omega))
      exact e
    · obtain ⟨z1, z2, z3⟩ := all2_zip hr
      have zl : (ds.zip Bs).length ≤ 1000 := by rw [List.length_zip]; omega
      have e := top_parts T slf "all" true (by kernel_rfl) (by kernel_rfl) (by kernel_rfl) (by kernel_rfl) (by kernel_rfl) (bD b) (fun B => B.top b) (ds.zip Bs) zl (fun p hp => (gd p.1 p.2 (z3 p hp)).top0 b hb) fun p hp => ih p.1 p.2 (z3 p hp)
      have em : (ds.zip Bs).map (fun p => p.2.top b) = Bs.map fun B => B.top b := by have e := congrArg (List.map fun B : Beh => B.top b) z2; rw [List.map_map] at e; exact e
      rw [z1, em] at e
      exact e
    · obtain ⟨z1, z2, z3⟩ := all2_zip hr
      have zl : (ds.zip Bs).length ≤ 1000 := by rw [List.length_zip]; omega
      have e := top_parts T slf "one" false (by kernel_rfl) (by kernel_rfl) (by kernel_rfl) (by kernel_rfl) (by kernel_rfl) (bD b) (fun B => B.top b) (ds.zip Bs) zl (fun p hp => (gd p.1 p.2 (z3 p hp)).top0 b hb) fun p hp => ih p.1 p.2 (z3 p hp)
      have em : (ds.zip Bs).map (fun p => p.2.top b) = Bs.map fun B => B.top b := by have e := congrArg (List.map fun B : Beh => B.top b) z2; rw [List.map_map] at e; exact e
      rw [z1, em] at e
      exact e
end
end K33.G
namespace P57
open Pv P25 P50 P46 P27 P54 P55 PySem.Spec PyProof.Rows L2
open PySem (Str PyData)
/-- as Rt, with no amount above A and no call more than twice -/
def RtB (A : Int) : Nat → D → Beh → List Str → Prop
  | 0, _, _, _ => False
  | n + 1, d, B, xs =>
    (d = .tup [.str "none"] ∧ B = noneB ∧ xs = []) ∨
    (∃ x a t, (NameOk x ∧ PyData.strOk x = true) ∧ (1 ≤ a ∧ a ≤ A) ∧ (1 ≤ t ∧ t ≤ 2) ∧ d = .tup [.str "call", .str x, .int a, .int t] ∧ B = callB a t ∧ xs = [x]) ∨
    (∃ k d' B', (1 ≤ k ∧ k ≤ 2 * A) ∧ RtB A n d' B' xs ∧ d = .tup [.str "within", .int k, d'] ∧ B = withinB k B') ∨
    (∃ k d' B', (1 ≤ k ∧ k ≤ 10) ∧ RtB A n d' B' xs ∧ d = .tup [.str "calls", .int k, d'] ∧ B = callsB k B') ∨
    (∃ ps : List Pt, ps.length ≤ 10 ∧ (∀ p ∈ ps, RtB A n p.1 p.2.1 p.2.2) ∧ d = .tup [.str "all", .tup (ps.map fun p => p.1)] ∧ B = allB (ps.map fun p => p.2.1) ∧ xs = (ps.map fun p => p.2.2).flatten) ∨
    (∃ ps : List Pt, ps.length ≤ 10 ∧ (∀ p ∈ ps, RtB A n p.1 p.2.1 p.2.2) ∧ d = .tup [.str "one", .tup (ps.map fun p => p.1)] ∧ B = oneB (ps.map fun p => p.2.1) ∧ xs = (ps.map fun p => p.2.2).flatten)
theorem rtb_rt {A : Int} (hA : A ≤ 50) : ∀ {n : Nat} {d : D} {B : Beh} {xs : List Str}, RtB A n d B xs → Rt n d B xs
  | 0, _, _, _, h => h.elim
  | n + 1, d, B, xs, h => by
    rcases h with h | ⟨x, a, t, hx, ha, ht, h1, h2, h3⟩ | ⟨k, d', B', hk, hr, h1, h2⟩ | ⟨k, d', B', hk, hr, h1, h2⟩ | ⟨ps, hl, hr, h1, h2, h3⟩ | ⟨ps, hl, hr, h1, h2, h3⟩
    · exact .inl h
    · exact .inr (.inl ⟨x, a, t, hx, by omega, by omega, h1, h2, h3⟩)
    · exact .inr (.inr (.inl ⟨k, d', B', by omega, rtb_rt hA hr, h1, h2⟩))
    · exact .inr (.inr (.inr (.inl ⟨k, d', B', by omega, rtb_rt hA hr, h1, h2⟩)))
    · exact .inr (.inr (.inr (.inr (.inl ⟨ps, hl, fun p hp => rtb_rt hA (hr p hp), h1, h2, h3⟩))))
    · exact .inr (.inr (.inr (.inr (.inr ⟨ps, hl, fun p hp => rtb_rt hA (hr p hp), h1, h2, h3⟩))))
theorem _root_.P50.BndAll.more : ∀ {Bs : List Beh} {c c' : Int}, BndAll Bs c → c ≤ c' → BndAll Bs c'
  | [], c, c', h, hc => by have h : 0 ≤ c := h; show 0 ≤ c'; omega
  | B :: Bs, c, c', ⟨c1, c2, h0, h1, h2, h3⟩, hc => ⟨c1, c2, h0, h1, h2, by omega⟩
end P57
set_option maxRecDepth 100000
set_option maxHeartbeats 4000000
namespace K33
open PySem PySem.Spec PyProof.Rows L2 Pv P25 P66 P46 P27 P50 P54 P55 P57
section
variable {K : PySem.W.Frag} {κ : Cls} {mg : Str → Option Value}
def nmD (xs : List Str) : List D := xs.map .str
def Names (xs : List Str) : Prop := xs.length ≤ 9 ∧ ∀ s ∈ xs, NameOk s ∧ PyData.strOk s = true
theorem Names.rest {us xs : List Str} (h : Names (us ++ xs)) : Names xs := ⟨by have := h.1; simp only [List.length_append] at this; omega, fun s hs => h.2 s (List.mem_append_right _ hs)⟩
theorem flats_nm : ∀ xs : List Str, (∀ s ∈ xs, PyData.strOk s = true) → D.flats 59 (nmD xs) = true
  | [], _ => rfl
  | s :: xs, h => by
    have h1 := h s (by simp)
    show D.flats 59 (D.str s :: nmD xs) = true
    unfold D.flats
    rw [flats_nm xs fun t ht => h t (by simp [ht])]
    have : D.flat 59 (.str s) = true := h1
    rw [this]
    rfl
theorem spare_eq (xs : List Str) (h : Names xs) : gEq (.lst (nmD xs)) (.lst []) = some (.bl xs.isEmpty) := by
  cases xs with
  | nil => kernel_rfl
  | cons s xs =>
    have f : D.flat 60 (.lst (nmD (s :: xs))) = true := flats_nm _ fun t ht => (h.2 t ht).2
    have e : D.eqv (.lst (nmD (s :: xs))) (.lst []) = false := by
      show D.eqv (.lst (D.str s :: nmD xs)) (.lst []) = false
      unfold D.eqv
      rw [D.py, D.py, D.pys, D.pys]
      rfl
    unfold gEq
    rw [if_pos ⟨f, rfl⟩, e]
    rfl
/-- what the law makes of names that are left -/
def GenOk (K : PySem.W.Frag) (f : Fn) (A : Int) (δ : Nat) : Prop := ∀ (dg : Int) (xs : List Str), Names xs → ∃ (dg' : Int) (us xs' : List Str) (d : D) (B : Beh), xs = us ++ xs' ∧ f [.ml [.int dg], .d (.int (δ : Int)), .ml (nmD xs), .d (.int A)] = .ok (.d d) [.ml [.int dg'], .d (.int (δ : Int)), .ml (nmD xs'), .d (.int A)] ∧ RtB A (δ + 1) d B us ∧ Bnd B (2 * A * (us.length : Int))
theorem right_succ (T : Tx K κ mg) (n : Nat) : f_l_right T (n + 1) = Pv.fnOf 7 (b_l_right T (f_l_right T n)).asg (b_l_right T (f_l_right T n)).sv := rfl
def callE (T : Tx K κ mg) : SE K κ := (eTup (aCons (eStr "call") (aCons (ePopAt 2 (eInt 0)) (aCons (eAdd (eInt 1) (eCall 2 (f_l_take T) (aM 0 (aCons (eV 3) (aNil))))) (aCons (eAdd (eInt 1) (eMul (eCall 2 (f_l_take T) (aM 0 (aCons (eInt 2) (aNil)))) (eIntOf (aCons (eEq (eV 4) (eInt 1)) (aNil))))) (aNil))))))
theorem callE_ev (T : Tx K κ mg) (d w δ A : Int) (hA : 1 ≤ A ∧ A ≤ 50) (s : Str) (xs : List Str) : ∃ d' a t : Int, (callE T).ev [some (.ml [.int d]), some (.d (.int δ)), some (.ml (nmD (s :: xs))), some (.d (.int A)), some (.d (.int w)), none, none] =
    .ok (.d (.tup [.str "call", .str s, .int a, .int t])) [some (.ml [.int d']), some (.d (.int δ)), some (.ml (nmD xs)), some (.d (.int A)), some (.d (.int w)), none, none] ∧ 1 ≤ a ∧ a ≤ A ∧ 1 ≤ t ∧ t ≤ 2 := by
  have t5 := v_take T d A (by omega) (by omega)
  have a0 := Int.emod_nonneg d (show A ≠ 0 by omega)
  have a1 := Int.emod_lt_of_pos d (show (0 : Int) < A by omega)
  obtain ⟨d1, hd1⟩ : ∃ d1, d / A = d1 := ⟨_, rfl⟩
  obtain ⟨m1, hm1⟩ : ∃ m1, d % A = m1 := ⟨_, rfl⟩
  rw [hd1, hm1] at t5
  rw [hm1] at a0 a1
  have t2 := v_take T d1 2 (by decide) (by decide)
  have b0 := Int.emod_nonneg d1 (show (2 : Int) ≠ 0 by decide)
  have b1 := Int.emod_lt_of_pos d1 (show (0 : Int) < 2 by decide)
  obtain ⟨d2, hd2⟩ : ∃ d2, d1 / 2 = d2 := ⟨_, rfl⟩
  obtain ⟨m2, hm2⟩ : ∃ m2, d1 % 2 = m2 := ⟨_, rfl⟩
  rw [hd2, hm2] at t2
  rw [hm2] at b0 b1
  have g := gEq_int w 1
  obtain ⟨o, ho⟩ : ∃ o, (w == 1) = o := ⟨_, rfl⟩
  rw [ho] at g
  have gi : gIntOf [.bl o] = some (.int (if o then 1 else 0)) := rfl
  obtain ⟨q, hq⟩ : ∃ q : Int, (if o then 1 else 0) = q := ⟨_, rfl⟩
  have q01 : 0 ≤ q ∧ q ≤ 1 := by rw [← hq]; cases o <;> decide
  rw [hq] at gi
  have cc : CMul m2 q := cm b0 (by omega)
  have p0 : 0 ≤ m2 * q := Int.mul_nonneg b0 q01.1
  have p1 : m2 * q ≤ 1 * 1 := Int.le_trans (Int.mul_le_mul_of_nonneg_right (by omega : m2 ≤ 1) q01.1) (Int.mul_le_mul_of_nonneg_left q01.2 (by decide))
  refine ⟨d2, 1 + m1, 1 + m2 * q, ?_, by omega, by omega, by omega, by omega⟩
  have h0 : (0 : Int) ≤ 0 ∧ (0 : Int) < 1000000 := by decide
  have hx : (nmD (s :: xs))[(0 : Int).toNat]? = some (.str s) := rfl
  have he : (nmD (s :: xs)).eraseIdx (0 : Int).toNat = nmD xs := rfl
  unfold callE
  generalize f_l_take T = f at t5 t2 ⊢
  generalize nmD (s :: xs) = NM at hx he ⊢
  simp? [ePopAt_ev, if_pos h0, hx, he, t5, t2, g, gi, if_pos cc]
def withinE (T : Tx K κ mg) (slf : Fn) : SE K κ := (eTup (aCons (eStr "within") (aCons (eAdd (eInt 1) (eCall 2 (f_l_take T) (aM 0 (aCons (eMul (eInt 2) (eV 3)) (aNil))))) (aCons (eCall 4 slf (aM 0 (aCons (eSub (eV 1) (eInt 1)) (aM 2 (aCons (eV 3) (aNil)))))) (aNil)))))
def callsE (T : Tx K κ mg) (slf : Fn) : SE K κ := (eTup (aCons (eStr "calls") (aCons (eAdd (eInt 1) (eCall 2 (f_l_take T) (aM 0 (aCons (eInt 3) (aNil))))) (aCons (eCall 4 slf (aM 0 (aCons (eSub (eV 1) (eInt 1)) (aM 2 (aCons (eV 3) (aNil)))))) (aNil)))))
theorem sub1 (δ : Nat) : ((δ + 1 : Nat) : Int) - 1 = (δ : Int) := by omega
theorem withinE_ev (T : Tx K κ mg) (slf : Fn) (A : Int) (hA : 1 ≤ A ∧ A ≤ 50) (δ : Nat) (G : GenOk K slf A δ) (d : Int) (w : D) (xs : List Str) (hx : Names xs) : ∃ (d' : Int) (us xs' : List Str) (k : Int) (d0 : D) (B : Beh), xs = us ++ xs' ∧ (withinE T slf).ev [some (.ml [.int d]), some (.d (.int ((δ + 1 : Nat) : Int))), some (.ml (nmD xs)), some (.d (.int A)), some (.d w), none, none] =
    .ok (.d (.tup [.str "within", .int k, d0])) [some (.ml [.int d']), some (.d (.int ((δ + 1 : Nat) : Int))), some (.ml (nmD xs')), some (.d (.int A)), some (.d w), none, none] ∧ 1 ≤ k ∧ k ≤ 2 * A ∧ RtB A (δ + 1) d0 B us ∧ Bnd B (2 * A * (us.length : Int)) := by
  have t5 := v_take T d (2 * A) (by omega) (by omega)
  have a0 := Int.emod_nonneg d (show 2 * A ≠ 0 by omega)
  have a1 := Int.emod_lt_of_pos d (show (0 : Int) < 2 * A by omega)
  obtain ⟨d1, hd1⟩ : ∃ d1, d / (2 * A) = d1 := ⟨_, rfl⟩
  obtain ⟨m1, hm1⟩ : ∃ m1, d % (2 * A) = m1 := ⟨_, rfl⟩
  rw [hd1, hm1] at t5
  rw [hm1] at a0 a1
  obtain ⟨d2, us, xs', d0, B, r0, e, r1, r2⟩ := G d1 xs hx
  refine ⟨d2, us, xs', 1 + m1, d0, B, r0, ?_, by omega, by omega, r1, r2⟩
  have sb := sub1 δ
  obtain ⟨z, hz⟩ : ∃ z : Int, (δ : Int) = z := ⟨_, rfl⟩
  obtain ⟨y, hy⟩ : ∃ y : Int, ((δ + 1 : Nat) : Int) = y := ⟨_, rfl⟩
  rw [hz] at e sb
  rw [hy] at sb ⊢
  have cc : CMul 2 A := cm (by decide) (by decide)
  unfold withinE
  generalize f_l_take T = f at t5 ⊢
  generalize nmD xs = X at e ⊢
  generalize nmD xs' = Y at e ⊢
  simp? [if_pos cc, t5, sb, e]
theorem callsE_ev (T : Tx K κ mg) (slf : Fn) (A : Int) (δ : Nat) (G : GenOk K slf A δ) (d : Int) (w : D) (xs : List Str) (hx : Names xs) : ∃ (d' : Int) (us xs' : List Str) (k : Int) (d0 : D) (B : Beh), xs = us ++ xs' ∧ (callsE T slf).ev [some (.ml [.int d]), some (.d (.int ((δ + 1 : Nat) : Int))), some (.ml (nmD xs)), some (.d (.int A)), some (.d w), none, none] =
    .ok (.d (.tup [.str "calls", .int k, d0])) [some (.ml [.int d']), some (.d (.int ((δ + 1 : Nat) : Int))), some (.ml (nmD xs')), some (.d (.int A)), some (.d w), none, none] ∧ 1 ≤ k ∧ k ≤ 10 ∧ RtB A (δ + 1) d0 B us ∧ Bnd B (2 * A * (us.length : Int)) := by
  have t5 := v_take T d 3 (by decide) (by decide)
  have a0 := Int.emod_nonneg d (show (3 : Int) ≠ 0 by decide)
  have a1 := Int.emod_lt_of_pos d (show (0 : Int) < 3 by decide)
  obtain ⟨d1, hd1⟩ : ∃ d1, d / 3 = d1 := ⟨_, rfl⟩
  obtain ⟨m1, hm1⟩ : ∃ m1, d % 3 = m1 := ⟨_, rfl⟩
  rw [hd1, hm1] at t5
  rw [hm1] at a0 a1
  obtain ⟨d2, us, xs', d0, B, r0, e, r1, r2⟩ := G d1 xs hx
  refine ⟨d2, us, xs', 1 + m1, d0, B, r0, ?_, by omega, by omega, r1, r2⟩
  have sb := sub1 δ
  obtain ⟨z, hz⟩ : ∃ z : Int, (δ : Int) = z := ⟨_, rfl⟩
  obtain ⟨y, hy⟩ : ∃ y : Int, ((δ + 1 : Nat) : Int) = y := ⟨_, rfl⟩
  rw [hz] at e sb
  rw [hy] at sb ⊢
  unfold callsE
  generalize f_l_take T = f at t5 ⊢
  generalize nmD xs = X at e ⊢
  generalize nmD xs' = Y at e ⊢
  simp? [t5, sb, e]
def recE (slf : Fn) : SE K κ := (eCall 4 slf (aM 0 (aCons (eSub (eV 1) (eInt 1)) (aM 2 (aCons (eV 3) (aNil))))))
theorem rec_loop (slf : Fn) (A : Int) (hA : 1 ≤ A ∧ A ≤ 50) (δ : Nat) (G : GenOk K slf A δ) (w : D) : ∀ (ys : List D) (d : Int) (xs : List Str) (acc : List D), Names xs → acc.length + ys.length ≤ 1000 →
    ∃ (d' : Int) (xs' : List Str) (ps : List Pt), loopC [6] (gN (K := K) (κ := κ) 6).put (tYes' (K := K) (κ := κ)).ev (recE (K := K) (κ := κ) slf).ev ys [some (.ml [.int d]), some (.d (.int ((δ + 1 : Nat) : Int))), some (.ml (nmD xs)), some (.d (.int A)), some (.d w), none, none] acc =
      .ok (acc ++ ps.map fun p => p.1) [some (.ml [.int d']), some (.d (.int ((δ + 1 : Nat) : Int))), some (.ml (nmD xs')), some (.d (.int A)), some (.d w), none, none] ∧ ps.length = ys.length ∧ (∀ p ∈ ps, RtB A (δ + 1) p.1 p.2.1 p.2.2) ∧ xs = (ps.map fun p => p.2.2).flatten ++ xs' ∧ BndAll (ps.map fun p => p.2.1) (2 * A * (((ps.map fun p => p.2.2).flatten).length : Int))
  | [], d, xs, acc, hx, _ => ⟨d, xs, [], by rw [List.map_nil, List.append_nil]; rfl, rfl, fun _ h => (nomatch h), rfl, by show (0 : Int) ≤ 2 * A * ((0 : Nat) : Int); simp⟩
  | y :: ys, d, xs, acc, hx, hl => by
    simp only [List.length_cons] at hl
    obtain ⟨d1, us, xs1, d0, B, r0, e, r1, r2⟩ := G d xs hx
    have hx1 : Names xs1 := Names.rest (us := us) (by rw [← r0]; exact hx)
    obtain ⟨d', xs', ps, f, s1, s2, s3, s4⟩ := rec_loop slf A hA δ G w ys d1 xs1 (acc ++ [d0]) hx1 (by rw [List.length_append]; simp; omega)
    refine ⟨d', xs', (d0, B, us) :: ps, ?_, by simp [s1], fun p hp => ?_, by rw [List.map_cons, List.flatten_cons, List.append_assoc, ← s3]; exact r0, ⟨2 * A * (us.length : Int), 2 * A * (((ps.map fun p => p.2.2).flatten).length : Int), ?_, r2, s4, ?_⟩⟩
    · have ee : (recE (K := K) (κ := κ) slf).ev [some (.ml [.int d]), some (.d (.int ((δ + 1 : Nat) : Int))), some (.ml (nmD xs)), some (.d (.int A)), some (.d w), none, some (.d y)] = .ok (.d d0) [some (.ml [.int d1]), some (.d (.int ((δ + 1 : Nat) : Int))), some (.ml (nmD xs1)), some (.d (.int A)), some (.d w), none, some (.d y)] := by
        have sb := sub1 δ
        generalize (δ : Int) = z at e sb
        generalize ((δ + 1 : Nat) : Int) = v at sb ⊢
        unfold recE
        generalize nmD xs = X at e ⊢
        generalize nmD xs1 = Y at e ⊢
        simp? [sb, e]
      refine (loopC_t (vs := [6]) (put := (gN (K := K) (κ := κ) 6).put) (t := (tYes' (K := K) (κ := κ)).ev) (e := (recE (K := K) (κ := κ) slf).ev) (x := y) (xs := ys) (acc := acc) (ρ1 := [some (.ml [.int d]), some (.d (.int ((δ + 1 : Nat) : Int))), some (.ml (nmD xs)), some (.d (.int A)), some (.d w), none, some (.d y)]) (ρ2 := [some (.ml [.int d]), some (.d (.int ((δ + 1 : Nat) : Int))), some (.ml (nmD xs)), some (.d (.int A)), some (.d w), none, some (.d y)]) rfl rfl ee (by omega)).trans ?_
      rw [List.map_cons, show acc ++ (d0, B, us).1 :: ps.map (fun p => p.1) = (acc ++ [d0]) ++ ps.map (fun p => p.1) by simp]
      exact f
    · rcases List.mem_cons.mp hp with rfl | hp
      · exact r1
      · exact s2 p hp
    · exact Int.mul_nonneg (by omega) (by omega)
    · rw [List.map_cons, List.flatten_cons, List.length_append, Int.natCast_add, Int.mul_add]
      exact Int.le_refl _
end
end K33
set_option maxRecDepth 100000
set_option maxHeartbeats 4000000
namespace K33
open PySem PySem.Spec PyProof.Rows L2 Pv P25 P66 P46 P27 P50 P54 P55 P57
section
variable {K : PySem.W.Frag} {κ : Cls} {mg : Str → Option Value}
theorem lc_of2 {it : SI K κ} {g : SG K κ} {t : ST K κ} {e : SE K κ} {vs : List Nat} {hv : ∀ i ∈ g.asg, i ∈ vs} {ρ ρi ρ0 ρ1 ρ' : Pv.Env} {xs ys : List D} (hi : it.ev ρ = .ok xs ρi) (hw : wipeE ρi vs = ρ0) (hl : loopC vs g.put t.ev e.ev xs ρ0 [] = .ok ys ρ1) (hu : unwE ρ1 vs = ρ') :
    (eLc it g t e vs hv).ev ρ = .ok (.d (.lst ys)) ρ' := by
  show ((it.ev ρ).bind fun xs ρ => (loopC vs g.put t.ev e.ev xs (wipeE ρ vs) []).bind fun ys ρ => .ok ys (unwE ρ vs)).bind _ = _
  rw [hi]
  show ((loopC vs g.put t.ev e.ev xs (wipeE ρi vs) []).bind fun ys ρ => .ok ys (unwE ρ vs)).bind _ = _
  rw [hw, hl]
  show R.ok (W.d (.lst ys)) (unwE ρ1 vs) = _
  rw [hu]
def lcRec (T : Tx K κ mg) (slf : Fn) : SE K κ := eLc (iR1 (eAdd (eInt 1) (eCall 2 (f_l_take T) (aM 0 (aCons (eInt 3) (aNil)))))) (gN 6) (tYes') (recE slf) [6] (fun _ h => h)
theorem lcRec_ev (T : Tx K κ mg) (slf : Fn) (A : Int) (hA : 1 ≤ A ∧ A ≤ 50) (δ : Nat) (G : GenOk K slf A δ) (d : Int) (w : D) (xs : List Str) (hx : Names xs) : ∃ (d' : Int) (xs' : List Str) (ps : List Pt), (lcRec T slf).ev [some (.ml [.int d]), some (.d (.int ((δ + 1 : Nat) : Int))), some (.ml (nmD xs)), some (.d (.int A)), some (.d w), none, none] =
    .ok (.d (.lst (ps.map fun p => p.1))) [some (.ml [.int d']), some (.d (.int ((δ + 1 : Nat) : Int))), some (.ml (nmD xs')), some (.d (.int A)), some (.d w), none, none] ∧ ps.length ≤ 10 ∧ (∀ p ∈ ps, RtB A (δ + 1) p.1 p.2.1 p.2.2) ∧ xs = (ps.map fun p => p.2.2).flatten ++ xs' ∧ BndAll (ps.map fun p => p.2.1) (2 * A * (((ps.map fun p => p.2.2).flatten).length : Int)) := by
  have t3 := v_take T d 3 (by decide) (by decide)
  have a0 := Int.emod_nonneg d (show (3 : Int) ≠ 0 by decide)
  have a1 := Int.emod_lt_of_pos d (show (0 : Int) < 3 by decide)
  obtain ⟨d1, hd1⟩ : ∃ d1, d / 3 = d1 := ⟨_, rfl⟩
  obtain ⟨m1, hm1⟩ : ∃ m1, d % 3 = m1 := ⟨_, rfl⟩
  rw [hd1, hm1] at t3
  rw [hm1] at a0 a1
  have nl : (nums 0 (1 + m1).toNat).length = (1 + m1).toNat := by unfold nums; simp
  obtain ⟨d', xs', ps, e, r1, r2, r3, r4⟩ := rec_loop (K := K) (κ := κ) slf A hA δ G w (nums 0 (1 + m1).toNat) d1 xs [] hx (by rw [nl]; simp; omega)
  rw [List.nil_append] at e
  refine ⟨d', xs', ps, ?_, by rw [r1, nl]; omega, r2, r3, r4⟩
  have m5 : -(2 ^ 62) ≤ 1 + m1 ∧ 1 + m1 < 2 ^ 62 := by omega
  generalize ((δ + 1 : Nat) : Int) = v at e ⊢
  have it : (iR1 (K := K) (κ := κ) (eAdd (eInt 1) (eCall 2 (f_l_take T) (aM 0 (aCons (eInt 3) (aNil)))))).ev [some (.ml [.int d]), some (.d (.int v)), some (.ml (nmD xs)), some (.d (.int A)), some (.d w), none, none] = .ok (nums 0 (1 + m1).toNat) [some (.ml [.int d1]), some (.d (.int v)), some (.ml (nmD xs)), some (.d (.int A)), some (.d w), none, none] := by
    generalize f_l_take T = f at t3 ⊢
    generalize nmD xs = X
    simp? [t3, if_pos m5]
  exact lc_of2 (vs := [6]) (it := iR1 (eAdd (eInt 1) (eCall 2 (f_l_take T) (aM 0 (aCons (eInt 3) (aNil)))))) (g := gN 6) (t := tYes') (e := recE slf) (hv := fun _ h => h) it rfl e rfl
def tEnd : ST K κ := tOr' (tV' (eLt (eV 1) (eInt 1))) (tV' (eLt (eV 4) (eInt 2)))
theorem right_body (T : Tx K κ mg) (slf : Fn) : b_l_right T slf = sSeq (sAsg 4 (eCall 2 (f_l_take T) (aM 0 (aCons (eInt 7) (aNil)))))
    (sSeq (sIf (tPk (tV' (eEq (eV 2) (eLst (aNil))))) (sSeq (sRet (eTup (aCons (eStr "none") (aNil)))) (sNil)) (sNil))
    (sSeq (sIf tEnd (sSeq (sRet (callE T)) (sNil)) (sNil))
    (sSeq (sIf (tV' (eEq (eV 4) (eInt 2))) (sSeq (sRet (withinE T slf)) (sNil)) (sNil))
    (sSeq (sIf (tV' (eEq (eV 4) (eInt 3))) (sSeq (sRet (callsE T slf)) (sNil)) (sNil))
    (sSeq (sAsg 5 (lcRec T slf))
    (sSeq (sRet (eTup (aCons (eIxL (eLst (aCons (eStr "all") (aCons (eStr "one") (aCons (eStr "all") (aNil))))) (eSub (eV 4) (eInt 4))) (aCons (eTupOf (aCons (eV 5) (aNil))) (aNil)))))
    (sNil))))))) := rfl
theorem gen_body (T : Tx K κ mg) (slf : Fn) (A : Int) (hA : 1 ≤ A ∧ A ≤ 50) (δ : Nat) (G : ∀ δ', δ = δ' + 1 → GenOk K slf A δ') : GenOk K (Pv.fnOf 7 (b_l_right T slf).asg (b_l_right T slf).sv) A δ := by
  intro dg xs hx
  have t7 := v_take T dg 7 (by decide) (by decide)
  have a0 := Int.emod_nonneg dg (show (7 : Int) ≠ 0 by decide)
  have a1 := Int.emod_lt_of_pos dg (show (0 : Int) < 7 by decide)
  obtain ⟨d, hd⟩ : ∃ d, dg / 7 = d := ⟨_, rfl⟩
  obtain ⟨w, hw⟩ : ∃ w, dg % 7 = w := ⟨_, rfl⟩
  rw [hd, hw] at t7
  rw [hw] at a0 a1
  have se := spare_eq xs hx
  have first : ∀ v : Int, (sAsg (K := K) (κ := κ) 4 (eCall 2 (f_l_take T) (aM 0 (aCons (eInt 7) (aNil))))).sv [some (.ml [.int dg]), some (.d (.int v)), some (.ml (nmD xs)), some (.d (.int A)), none, none, none] = .ok .nx [some (.ml [.int d]), some (.d (.int v)), some (.ml (nmD xs)), some (.d (.int A)), some (.d (.int w)), none, none] := fun v => by
    generalize f_l_take T = f at t7 ⊢
    generalize nmD xs = X
    simp? [t7]
  have second : ∀ v : Int, (tPk (K := K) (κ := κ) (tV' (eEq (eV 2) (eLst (aNil))))).ev [some (.ml [.int d]), some (.d (.int v)), some (.ml (nmD xs)), some (.d (.int A)), some (.d (.int w)), none, none] = .ok xs.isEmpty [some (.ml [.int d]), some (.d (.int v)), some (.ml (nmD xs)), some (.d (.int A)), some (.d (.int w)), none, none] := fun v =>
    tpk_of (t := tV' (eEq (eV 2) (eLst (aNil)))) (ρp := [some (.d (.lst [.int d])), some (.d (.int v)), some (.d (.lst (nmD xs))), some (.d (.int A)), some (.d (.int w)), none, none]) (ρ' := [some (.d (.lst [.int d])), some (.d (.int v)), some (.d (.lst (nmD xs))), some (.d (.int A)), some (.d (.int w)), none, none]) rfl (by
      generalize nmD xs = X at se ⊢
      simp? [se])
  cases xs with
  | nil =>
    refine ⟨d, [], [], .tup [.str "none"], _, rfl, ?_, .inl ⟨rfl, rfl, rfl⟩, bnd_none (by simp)⟩
    refine fn_rt (ρ := [some (.ml [.int d]), some (.d (.int (δ : Int))), some (.ml (nmD [])), some (.d (.int A)), some (.d (.int w)), none, none]) ?_ rfl
    rw [right_body]
    refine seq_nx (first _) ?_
    exact seq_rt (if_tr (second _) (seq_ret rfl))
  | cons s ys =>
    have hs := hx.2 s (by simp)
    by_cases c : δ < 1 ∨ w < 2
    · obtain ⟨d', a, t, e, a1, a5, t1, t2⟩ := callE_ev T d w (δ : Int) A hA s ys
      have ta : t * a ≤ 2 * A := Int.le_trans (Int.mul_le_mul_of_nonneg_right t2 (by omega)) (Int.mul_le_mul_of_nonneg_left a5 (by decide))
      refine ⟨d', [s], ys, _, _, rfl, ?_, .inr (.inl ⟨s, a, t, hs, by omega, by omega, rfl, rfl, rfl⟩), bnd_call (by omega) (by omega) (by show t * a ≤ 2 * A * ((1 : Nat) : Int); omega)⟩
      refine fn_rt (ρ := [some (.ml [.int d']), some (.d (.int (δ : Int))), some (.ml (nmD ys)), some (.d (.int A)), some (.d (.int w)), none, none]) ?_ rfl
      rw [right_body]
      refine seq_nx (first _) ?_
      refine seq_nx (if_no (second _)) ?_
      refine seq_rt (if_tr (ρ1 := [some (.ml [.int d]), some (.d (.int (δ : Int))), some (.ml (nmD (s :: ys))), some (.d (.int A)), some (.d (.int w)), none, none]) ?_ (seq_ret e))
      have cz : (δ : Int) < 1 ∨ w < 2 := by omega
      generalize (δ : Int) = z at cz ⊢
      generalize nmD (s :: ys) = X
      unfold tEnd
      by_cases c1 : z < 1
      · exact or_t (by simp? [decide_eq_true c1])
      · have c2 : w < 2 := by omega
        exact (or_f (ρ1 := [some (.ml [.int d]), some (.d (.int z)), some (.ml X), some (.d (.int A)), some (.d (.int w)), none, none]) (by simp? [decide_eq_false c1])).trans (by simp? [decide_eq_true c2])
    · obtain ⟨δ', rfl⟩ : ∃ δ', δ = δ' + 1 := ⟨δ - 1, by omega⟩
      have g := G δ' rfl
      have w2 : ¬ w < 2 := by omega
      have third : (tEnd (K := K) (κ := κ)).ev [some (.ml [.int d]), some (.d (.int ((δ' + 1 : Nat) : Int))), some (.ml (nmD (s :: ys))), some (.d (.int A)), some (.d (.int w)), none, none] = .ok false [some (.ml [.int d]), some (.d (.int ((δ' + 1 : Nat) : Int))), some (.ml (nmD (s :: ys))), some (.d (.int A)), some (.d (.int w)), none, none] := by
        have cz : ¬ ((δ' + 1 : Nat) : Int) < 1 := by omega
        generalize ((δ' + 1 : Nat) : Int) = z at cz ⊢
        generalize nmD (s :: ys) = X
        unfold tEnd
        exact (or_f (ρ1 := [some (.ml [.int d]), some (.d (.int z)), some (.ml X), some (.d (.int A)), some (.d (.int w)), none, none]) (by simp? [decide_eq_false cz])).trans (by simp? [decide_eq_false w2])
      have ge : ∀ i : Int, (tV' (K := K) (κ := κ) (eEq (eV 4) (eInt i))).ev [some (.ml [.int d]), some (.d (.int ((δ' + 1 : Nat) : Int))), some (.ml (nmD (s :: ys))), some (.d (.int A)), some (.d (.int w)), none, none] = .ok (w == i) [some (.ml [.int d]), some (.d (.int ((δ' + 1 : Nat) : Int))), some (.ml (nmD (s :: ys))), some (.d (.int A)), some (.d (.int w)), none, none] := fun i => by
        have q := gEq_int w i
        generalize ((δ' + 1 : Nat) : Int) = z
        generalize nmD (s :: ys) = X
        simp? [q]
      by_cases e2 : w = 2
      · obtain ⟨d', us, xs', k, d0, B, r0, e, k1, k2, r1, r2⟩ := withinE_ev T slf A hA δ' g d (.int w) (s :: ys) hx
        refine ⟨d', us, xs', _, _, r0, ?_, .inr (.inr (.inl ⟨k, d0, B, ⟨k1, k2⟩, r1, rfl, rfl⟩)), bnd_within (by omega) (good _ _ _ (rt_rgt (rtb_rt hA.2 r1))) r2⟩
        refine fn_rt (ρ := [some (.ml [.int d']), some (.d (.int ((δ' + 1 : Nat) : Int))), some (.ml (nmD xs')), some (.d (.int A)), some (.d (.int w)), none, none]) ?_ rfl
        rw [right_body]
        refine seq_nx (first _) ?_
        refine seq_nx (if_no (second _)) ?_
        refine seq_nx (if_no third) ?_
        exact seq_rt (if_tr ((ge 2).trans (by rw [e2]; rfl)) (seq_ret e))
      · have n2 : (w == 2) = false := by simpa using e2
        by_cases e3 : w = 3
        · obtain ⟨d', us, xs', k, d0, B, r0, e, k1, k2, r1, r2⟩ := callsE_ev T slf A δ' g d (.int w) (s :: ys) hx
          refine ⟨d', us, xs', _, _, r0, ?_, .inr (.inr (.inr (.inl ⟨k, d0, B, ⟨k1, by omega⟩, r1, rfl, rfl⟩))), bnd_calls (good _ _ _ (rt_rgt (rtb_rt hA.2 r1))) r2⟩
          refine fn_rt (ρ := [some (.ml [.int d']), some (.d (.int ((δ' + 1 : Nat) : Int))), some (.ml (nmD xs')), some (.d (.int A)), some (.d (.int w)), none, none]) ?_ rfl
          rw [right_body]
          refine seq_nx (first _) ?_
          refine seq_nx (if_no (second _)) ?_
          refine seq_nx (if_no third) ?_
          refine seq_nx (if_no ((ge 2).trans (by rw [n2]))) ?_
          exact seq_rt (if_tr ((ge 3).trans (by rw [e3]; rfl)) (seq_ret e))
        · have n3 : (w == 3) = false := by simpa using e3
          obtain ⟨d', xs', ps, e, r0, r1, r2, r3⟩ := lcRec_ev T slf A hA δ' g d (.int w) (s :: ys) hx
          obtain ⟨ds, hds⟩ : ∃ ds, ps.map (fun p => p.1) = ds := ⟨_, rfl⟩
          rw [hds] at e
          have kind : ∃ o : Bool, gIxL (.lst [.str "all", .str "one", .str "all"]) (.int (w - 4)) = some (.str (if o then "all" else "one")) := by
            have : w = 4 ∨ w = 5 ∨ w = 6 := by omega
            rcases this with rfl | rfl | rfl
            · exact ⟨true, by kernel_rfl⟩
            · exact ⟨false, by kernel_rfl⟩
            · exact ⟨true, by kernel_rfl⟩
          obtain ⟨o, hk⟩ := kind
          have tp : gTupOf [.lst ds] = some (.tup ds) := rfl
          have run : Pv.fnOf 7 (b_l_right T slf).asg (b_l_right T slf).sv [.ml [.int dg], .d (.int ((δ' + 1 : Nat) : Int)), .ml (nmD (s :: ys)), .d (.int A)] = .ok (.d (.tup [.str (if o then "all" else "one"), .tup ds])) [.ml [.int d'], .d (.int ((δ' + 1 : Nat) : Int)), .ml (nmD xs'), .d (.int A)] := by
            refine fn_rt (ρ := [some (.ml [.int d']), some (.d (.int ((δ' + 1 : Nat) : Int))), some (.ml (nmD xs')), some (.d (.int A)), some (.d (.int w)), some (.d (.lst ds)), none]) ?_ rfl
            rw [right_body]
            refine seq_nx (first _) ?_
            refine seq_nx (if_no (second _)) ?_
            refine seq_nx (if_no third) ?_
            refine seq_nx (if_no ((ge 2).trans (by rw [n2]))) ?_
            refine seq_nx (if_no ((ge 3).trans (by rw [n3]))) ?_
            refine seq_nx (asg_of e (by show 5 < 7; decide)) ?_
            generalize (if o then "all" else "one" : Str) = kd at hk ⊢
            generalize ((δ' + 1 : Nat) : Int) = z
            generalize nmD xs' = X
            exact seq_rt (by simp? [hk, tp])
          cases o with
          | true => exact ⟨d', _, xs', _, _, r2, run, .inr (.inr (.inr (.inr (.inl ⟨ps, r0, r1, by rw [hds]; rfl, rfl, rfl⟩)))), bnd_all r3⟩
          | false => exact ⟨d', _, xs', _, _, r2, run, .inr (.inr (.inr (.inr (.inr ⟨ps, r0, r1, by rw [hds]; rfl, rfl, rfl⟩)))), bnd_one (fun B hB => by obtain ⟨p, hp, rfl⟩ := List.mem_map.mp hB; exact good _ _ _ (rt_rgt (rtb_rt hA.2 (r1 p hp)))) r3⟩
theorem v_right (T : Tx K κ mg) (A : Int) (hA : 1 ≤ A ∧ A ≤ 50) : ∀ (N δ : Nat), δ < N → GenOk K (f_l_right T N) A δ
  | 0, δ, h => absurd h (by omega)
  | N + 1, δ, h => by
    rw [right_succ]
    exact gen_body T (f_l_right T N) A hA δ fun δ' e => v_right T A hA N δ' (by omega)
end
end K33
set_option maxRecDepth 100000
set_option maxHeartbeats 4000000
namespace K33
open PySem PySem.Spec PyProof.Rows L2 Pv P25 P66 P46 P27 P50 P54 P55 P57
section
variable {K : PySem.W.Frag} {κ : Cls} {mg : Str → Option Value}
def lcHigh (slf : Fn) : SE K κ := eLc (iT (eV 1)) (gN 2) (tYes') (eCall 1 slf (aCons (eV 2) (aNil))) [2] (fun _ h => h)
def partsE : SE K κ := (eIf (tV' (eInS (eIxT (eV 0) (eInt 0)) (eTup (aCons (eStr "all") (aCons (eStr "one") (aNil)))))) (eIxT (eV 0) (eInt 1)) (eSlT (eV 0) (o1 (eInt 2)) (o0)))
theorem mxL_snoc (xs : List Int) : ∀ m : Int, mxL m (xs ++ [0]) = (if mxL m xs < 0 then 0 else mxL m xs) := by
  induction xs with
  | nil => intro m; rfl
  | cons x xs ih => intro m; exact ih _
theorem topI_mx : ∀ (ns : List Int) (n : Int), (∀ x ∈ n :: ns, 0 ≤ x) → topI n ns = mxL 0 (n :: ns) := fun ns n h => by
  have := topD_mx (ns := n :: ns) h
  injection this
theorem high_parts (T : Tx K κ mg) (slf : Fn) (X : D) (w : Str) (i0 : gIxT X (.int 0) = some (.str w)) (g1 : gEq (.str w) (.str "call") = some (.bl false)) (g2 : gEq (.str w) (.str "none") = some (.bl false)) (ps : List (D × Int)) (hl : ps.length ≤ 900) (h0 : ∀ p ∈ ps, 0 ≤ p.2)
    (hx : (partsE (K := K) (κ := κ)).ev [some (.d X), none, none] = .ok (.d (.tup (ps.map Prod.fst))) [some (.d X), none, none]) (hv : ∀ p ∈ ps, slf [.d p.1] = .ok (.d (.int p.2)) [.d p.1]) :
    Pv.fnOf 3 (b_l_high T slf).asg (b_l_high T slf).sv [.d X] = .ok (.d (.int (mxL 0 (ps.map Prod.snd)))) [.d X] := by
  obtain ⟨Y, hY⟩ : ∃ Y, ps.map Prod.fst = Y := ⟨_, rfl⟩
  have l := loopC_map (vs := [2]) (put := (gN (K := K) (κ := κ) 2).put) (t := (tYes' (K := K) (κ := κ)).ev) (e := (eCall (K := K) (κ := κ) 1 slf (aCons (eV 2) (aNil))).ev) (ρ0 := [some (.d X), some (.d (.tup Y)), none])
    Prod.fst (fun p => some (.int p.2)) ps [] (fun p hp => ⟨[some (.d X), some (.d (.tup Y)), some (.d p.1)], [some (.d X), some (.d (.tup Y)), some (.d p.1)], rfl, [some (.d X), some (.d (.tup Y)), some (.d p.1)], rfl, call1_of rfl (hv p hp), rfl⟩) (by simp; omega)
  rw [List.nil_append, fm_some fun p : D × Int => D.int p.2] at l
  have e : ps.map (fun p => D.int p.2) = (ps.map Prod.snd).map .int := by rw [List.map_map]; rfl
  rw [e, hY] at l
  have lc : (lcHigh (K := K) (κ := κ) slf).ev [some (.d X), some (.d (.tup Y)), none] = .ok (.d (.lst ((ps.map Prod.snd).map .int))) [some (.d X), some (.d (.tup Y)), none] :=
    lc_of (vs := [2]) (it := iT (eV 1)) (g := gN 2) (t := tYes') (e := eCall 1 slf (aCons (eV 2) (aNil))) (hv := fun _ h => h) (xs := Y) (ρi := [some (.d X), some (.d (.tup Y)), none]) rfl rfl l rfl
  have gc : gCatL (.lst ((ps.map Prod.snd).map .int)) (.lst [.int 0]) = some (.lst ((ps.map Prod.snd ++ [0]).map .int)) := by
    have e : (ps.map Prod.snd ++ [0]).map D.int = (ps.map Prod.snd).map .int ++ [.int 0] := by rw [List.map_append]; rfl
    rw [e]
    exact if_pos (by simp; omega)
  have ge := mxL_ge (ps.map Prod.snd) 0
  have tp : ∃ n ns, ps.map Prod.snd ++ [0] = n :: ns ∧ topI n ns = mxL 0 (ps.map Prod.snd) := by
    cases hz : ps.map Prod.snd ++ [0] with
    | nil => simp at hz
    | cons n ns =>
      refine ⟨n, ns, rfl, ?_⟩
      rw [topI_mx ns n fun x hx => ?_, ← hz, mxL_snoc, if_neg (by omega)]
      rw [← hz] at hx
      rcases List.mem_append.mp hx with z | z
      · obtain ⟨p, hp, rfl⟩ := List.mem_map.mp z
        exact h0 p hp
      · rw [List.mem_singleton] at z; omega
  obtain ⟨n, ns, e1, e2⟩ := tp
  have t1 : (eCatL (lcHigh (K := K) (κ := κ) slf) (eLst (aCons (eInt 0) (aNil)))).ev [some (.d X), some (.d (.tup Y)), none] = .ok (.d (.lst ((n :: ns).map .int))) [some (.d X), some (.d (.tup Y)), none] := by
    rw [← e1]
    generalize (ps.map Prod.snd ++ [0]).map D.int = Z at gc ⊢
    generalize (ps.map Prod.snd).map D.int = Z2 at gc lc
    generalize lcHigh (K := K) (κ := κ) slf = LH at lc ⊢
    unfold eCatL
    simp? [lc, gc]
  have t2 := top1_of t1
  rw [e2] at t2
  have b : b_l_high T slf = sSeq (sIf (tV' (eEq (eIxT (eV 0) (eInt 0)) (eStr "call"))) (sSeq (sRet (eIxT (eV 0) (eInt 2))) (sNil)) (sNil))
    (sSeq (sIf (tV' (eEq (eIxT (eV 0) (eInt 0)) (eStr "none"))) (sSeq (sRet (eInt 0)) (sNil)) (sNil))
    (sSeq (sAsg 1 partsE) (sSeq (sRet (eTop1 (eCatL (lcHigh slf) (eLst (aCons (eInt 0) (aNil)))))) (sNil)))) := rfl
  rw [hY] at hx
  refine fn_rt (ρ := [some (.d X), some (.d (.tup Y)), none]) ?_ rfl
  rw [b]
  refine seq_nx (if_no (ρ1 := [some (.d X), none, none]) (by simp? [i0, g1])) ?_
  refine seq_nx (if_no (ρ1 := [some (.d X), none, none]) (by simp? [i0, g2])) ?_
  refine seq_nx (asg_of hx (by show 1 < 3; decide)) ?_
  exact seq_ret t2
theorem parts_in {X y : D} {w : Str} (i0 : gIxT X (.int 0) = some (.str w)) (g : gInS false (.str w) (.tup [.str "all", .str "one"]) = some (.bl true)) (i1 : gIxT X (.int 1) = some y) : (partsE (K := K) (κ := κ)).ev [some (.d X), none, none] = .ok (.d y) [some (.d X), none, none] := by
  unfold partsE eInS
  simp? [i0, g, i1]
theorem cutT_from (xs : List D) (k : Nat) (h : k ≤ xs.length) : Pv.cutD xs (some (k : Int)) none = xs.drop k := by
  unfold Pv.cutD
  rw [HT.sIx_nat, HT.sIx_none, Nat.min_eq_left h]
  exact List.take_of_length_le (by simp)
theorem parts_out (w : Str) (k : Int) (d : D) (g : gInS false (.str w) (.tup [.str "all", .str "one"]) = some (.bl false)) : (partsE (K := K) (κ := κ)).ev [some (.d (.tup [.str w, .int k, d])), none, none] = .ok (.d (.tup [d])) [some (.d (.tup [.str w, .int k, d])), none, none] := by
  have i0 : gIxT (.tup [.str w, .int k, d]) (.int 0) = some (.str w) := rfl
  have c := cutT_from [.str w, .int k, d] 2 (by simp)
  have c : Pv.cutD [.str w, .int k, d] (some 2) none = [d] := c
  unfold partsE eInS
  simp? [i0, g, c]
theorem high_succ (T : Tx K κ mg) (n : Nat) : f_l_high T (n + 1) = Pv.fnOf 3 (b_l_high T (f_l_high T n)).asg (b_l_high T (f_l_high T n)).sv := rfl
/-- the law's greatest call is the program's -/
theorem v_high (T : Tx K κ mg) : ∀ (n : Nat) (d : D) (B : Beh) (xs : List Str), Rt n d B xs → ∀ N, n ≤ N → ∃ g, (0 ≤ g ∧ g ≤ 200) ∧ (f_greatest_call T N [.d d] = .ok (.d (.int g)) [.d d] ∧ f_l_high T N [.d d] = .ok (.d (.int g)) [.d d]) ∧ Far g B
  | 0, _, _, _, h, _, _ => h.elim
  | n + 1, d, B, xs, h, 0, hN => by omega
  | n + 1, d, B, xs, h, N + 1, hN => by
    have ih := fun d B xs (h : Rt n d B xs) => v_high T n d B xs h N (by omega)
    rw [call_succ, high_succ]
    generalize f_greatest_call T N = slf at ih ⊢
    generalize f_l_high T N = slf2 at ih ⊢
    have one : ∀ g : Int, 0 ≤ g → mxL 0 [g] = g := fun g hg => by show (if 0 < g then g else 0) = g; split <;> omega
    have wc : ∀ w : Str, (w = "within" ∨ w = "calls") → gInS false (.str w) (.tup [.str "all", .str "one"]) = some (.bl false) ∧ gInS false (.str w) (.tup [.str "within", .str "calls"]) = some (.bl true) ∧ gEq (.str w) (.str "call") = some (.bl false) ∧ gEq (.str w) (.str "none") = some (.bl false) := by
      rintro w (rfl | rfl) <;> exact ⟨by kernel_rfl, by kernel_rfl, by kernel_rfl, by kernel_rfl⟩
    have inn : ∀ (w : Str) (k : Int) (d' : D) (g : Int), (w = "within" ∨ w = "calls") → 0 ≤ g → slf [.d d'] = .ok (.d (.int g)) [.d d'] → slf2 [.d d'] = .ok (.d (.int g)) [.d d'] →
        Pv.fnOf 2 (b_greatest_call T slf).asg (b_greatest_call T slf).sv [.d (.tup [.str w, .int k, d'])] = .ok (.d (.int g)) [.d (.tup [.str w, .int k, d'])] ∧ Pv.fnOf 3 (b_l_high T slf2).asg (b_l_high T slf2).sv [.d (.tup [.str w, .int k, d'])] = .ok (.d (.int g)) [.d (.tup [.str w, .int k, d'])] := fun w k d' g hw g0 h1 h2 => by
      obtain ⟨w1, w2, w3, w4⟩ := wc w hw
      have a := top_parts T slf (.tup [.str w, .int k, d']) w rfl w3 [(d', g)] (by simp) (fun p hp => by rw [List.mem_singleton] at hp; subst hp; exact g0) (v_straight2 T k d' w w1 w2) (fun p hp => by rw [List.mem_singleton] at hp; subst hp; exact h1)
      have b := high_parts T slf2 (.tup [.str w, .int k, d']) w rfl w3 w4 [(d', g)] (by simp) (fun p hp => by rw [List.mem_singleton] at hp; subst hp; exact g0) (parts_out w k d' w1) (fun p hp => by rw [List.mem_singleton] at hp; subst hp; exact h2)
      have a : Pv.fnOf 2 (b_greatest_call T slf).asg (b_greatest_call T slf).sv [.d (.tup [.str w, .int k, d'])] = .ok (.d (.int (mxL 0 [g]))) [.d (.tup [.str w, .int k, d'])] := a
      have b : Pv.fnOf 3 (b_l_high T slf2).asg (b_l_high T slf2).sv [.d (.tup [.str w, .int k, d'])] = .ok (.d (.int (mxL 0 [g]))) [.d (.tup [.str w, .int k, d'])] := b
      rw [one g g0] at a b
      exact ⟨a, b⟩
    have prt : ∀ (w : Str) (ps : List Pt), (w = "all" ∨ w = "one") → ps.length ≤ 10 → (∀ p ∈ ps, Rt n p.1 p.2.1 p.2.2) → ∃ g, (0 ≤ g ∧ g ≤ 200) ∧ (Pv.fnOf 2 (b_greatest_call T slf).asg (b_greatest_call T slf).sv [.d (.tup [.str w, .tup (ps.map fun p => p.1)])] = .ok (.d (.int g)) [.d (.tup [.str w, .tup (ps.map fun p => p.1)])] ∧ Pv.fnOf 3 (b_l_high T slf2).asg (b_l_high T slf2).sv [.d (.tup [.str w, .tup (ps.map fun p => p.1)])] = .ok (.d (.int g)) [.d (.tup [.str w, .tup (ps.map fun p => p.1)])]) ∧ ∀ B ∈ ps.map (fun p => p.2.1), Far g B := fun w ps hw hl hr => by
      have ww : gInS false (.str w) (.tup [.str "all", .str "one"]) = some (.bl true) ∧ gEq (.str w) (.str "call") = some (.bl false) ∧ gEq (.str w) (.str "none") = some (.bl false) := by
        rcases hw with rfl | rfl <;> exact ⟨by kernel_rfl, by kernel_rfl, by kernel_rfl⟩
      obtain ⟨w1, w2, w3⟩ := ww
      obtain ⟨qs, q1, q2, q3⟩ := pick_call (f := fun d g => slf [.d d] = .ok (.d (.int g)) [.d d] ∧ slf2 [.d d] = .ok (.d (.int g)) [.d d]) ps fun p hp => ih p.1 p.2.1 p.2.2 (hr p hp)
      have ql : qs.length = ps.length := by have := congrArg List.length q1; simpa using this
      have a := top_parts T slf (.tup [.str w, .tup (qs.map Prod.fst)]) w rfl w2 qs (by omega) (fun p hp => (q2 p hp).1.1) (v_straight1 T _ w w1) (fun p hp => (q2 p hp).2.1)
      have b := high_parts T slf2 (.tup [.str w, .tup (qs.map Prod.fst)]) w rfl w2 w3 qs (by omega) (fun p hp => (q2 p hp).1.1) (parts_in rfl w1 rfl) (fun p hp => (q2 p hp).2.2)
      rw [q1] at a b
      refine ⟨_, ⟨(mxL_ge _ 0).1, mxL_le _ 0 _ (by decide) fun x hx => ?_⟩, ⟨a, b⟩, q3⟩
      obtain ⟨q, hq, rfl⟩ := List.mem_map.mp hx
      exact (q2 q hq).1.2
    rcases h with ⟨rfl, rfl, rfl⟩ | ⟨x, a, t, hxn, ha, ht, rfl, rfl, rfl⟩ | ⟨k, d', B', hk, hr, rfl, rfl⟩ | ⟨k, d', B', hk, hr, rfl, rfl⟩ | ⟨ps, hl, hr, rfl, rfl, rfl⟩ | ⟨ps, hl, hr, rfl, rfl, rfl⟩
    · exact ⟨0, by decide, ⟨top_parts T slf _ "none" rfl (by kernel_rfl) [] (by simp) (fun _ hp => nomatch hp) (by kernel_rfl) (fun _ hp => nomatch hp), by kernel_rfl⟩, far_none 0⟩
    · exact ⟨a, by omega, ⟨by kernel_rfl, by kernel_rfl⟩, far_call a t⟩
    · obtain ⟨g, g1, g2, g3⟩ := ih d' B' xs hr
      exact ⟨g, g1, inn "within" k d' g (.inl rfl) g1.1 g2.1 g2.2, far_within g3⟩
    · obtain ⟨g, g1, g2, g3⟩ := ih d' B' xs hr
      exact ⟨g, g1, inn "calls" k d' g (.inr rfl) g1.1 g2.1 g2.2, far_calls g3⟩
    · obtain ⟨g, g1, g2, g3⟩ := prt "all" ps (.inl rfl) hl hr
      exact ⟨g, g1, g2, far_all g3⟩
    · obtain ⟨g, g1, g2, g3⟩ := prt "one" ps (.inr rfl) hl hr
      exact ⟨g, g1, g2, far_one g3⟩
end
end K33
namespace P56
open Pv P25 P66 P50 P46 P55
structure Mon (B : Beh) : Prop where
  mono : ∀ w w' : Int, 1 ≤ w → w ≤ w' → B.top (some w) ≤ B.top (some w')
  none : ∀ w : Int, 1 ≤ w → B.top (some w) ≤ B.top none
  one : B.top (some 1) ≤ 0
theorem mon_of {n : Nat} {d : D} {B : Beh} (h : Rgt n d B) (h1 : B.top (some 1) ≤ 0) : Mon B :=
  ⟨fun w w' hw hl => (good n d B h).topM _ _ (fun z e => by cases e; exact hw) hl, fun w hw => (good n d B h).topM _ _ (fun z e => by cases e; exact hw) trivial, h1⟩
end P56
namespace P59
open Pv P25 P50 P46
theorem ceil_le {x r s d : Int} (hd : 0 < d) : -((r - x) / d) ≤ s ↔ x ≤ r + s * d := by
  have h : (-s ≤ (r - x) / d) ↔ (-s * d ≤ r - x) := Int.le_ediv_iff_mul_le hd
  rw [Int.neg_mul] at h
  constructor
  · intro z
    have := h.mp (by omega)
    omega
  · intro z
    have := h.mpr (by omega)
    omega
/-- so many calls are of w or more: from what is reached at w -/
def need (F : Nat → Int) (n w : Nat) (r : Int) : Int := mxL 0 ((List.range (n - w)).map fun j => -((r - F (w + 1 + j)) / ((j : Int) + 1)))
theorem need_nn (F : Nat → Int) (n w : Nat) (r : Int) : 0 ≤ need F n w r := (mxL_ge _ 0).1
theorem need_ok (F : Nat → Int) (n w : Nat) (r : Int) {b : Nat} (h1 : w < b) (h2 : b ≤ n) : F b ≤ r + need F n w r * ((b : Int) - w) := by
  have h := (mxL_ge ((List.range (n - w)).map fun j => -((r - F (w + 1 + j)) / ((j : Int) + 1))) 0).2 (-((r - F b) / ((b : Int) - w))) (by
    refine List.mem_map.mpr ⟨b - w - 1, List.mem_range.mpr (by omega), ?_⟩
    rw [show w + 1 + (b - w - 1) = b by omega, show ((b - w - 1 : Nat) : Int) + 1 = (b : Int) - w by omega])
  exact (ceil_le (by omega)).mp h
theorem need_min (F : Nat → Int) (n w : Nat) (r : Int) {s : Int} (h0 : 0 ≤ s) (h : ∀ b : Nat, w < b → b ≤ n → F b ≤ r + s * ((b : Int) - w)) : need F n w r ≤ s := by
  refine mxL_le _ 0 s h0 fun x hx => ?_
  obtain ⟨j, hj, rfl⟩ := List.mem_map.mp hx
  have hj := List.mem_range.mp hj
  refine (ceil_le (by omega)).mpr ?_
  have := h (w + 1 + j) (by omega) (by omega)
  rw [show ((w + 1 + j : Nat) : Int) - w = (j : Int) + 1 by omega] at this
  exact this
/-- what is reached at k + 1 -/
def hP (F : Nat → Int) (n : Nat) : Nat → Int
  | 0 => 0
  | k + 1 => hP F n k + need F n (k + 1) (hP F n k)
def sP (F : Nat → Int) (n k : Nat) : Int := need F n (k + 1) (hP F n k)
theorem sP_nn (F : Nat → Int) (n k : Nat) : 0 ≤ sP F n k := need_nn _ _ _ _
theorem hP_succ (F : Nat → Int) (n k : Nat) : hP F n (k + 1) = hP F n k + sP F n k := rfl
theorem sP_last (F : Nat → Int) (n k : Nat) (h : n ≤ k + 1) : sP F n k = 0 := by
  unfold sP need
  rw [show n - (k + 1) = 0 by omega]
  rfl
section
variable {F : Nat → Int} {n : Nat}
theorem sP_fall (k : Nat) : sP F n (k + 1) ≤ sP F n k := need_min F n (k + 1 + 1) _ (sP_nn F n k) fun b h1 h2 => by
  have := need_ok F n (k + 1) (hP F n k) (b := b) (by omega) h2
  have e : hP F n (k + 1) + sP F n k * ((b : Int) - (k + 1 + 1 : Nat)) = hP F n k + need F n (k + 1) (hP F n k) * ((b : Int) - (k + 1 : Nat)) := by
    rw [hP_succ]
    show hP F n k + sP F n k + sP F n k * _ = hP F n k + sP F n k * _
    rw [show ((b : Int) - (k + 1 : Nat)) = ((b : Int) - (k + 1 + 1 : Nat)) + 1 by omega, Int.mul_add, Int.mul_one]
    omega
  omega
theorem sP_mono {k : Nat} : ∀ j : Nat, sP F n (k + j) ≤ sP F n k
  | 0 => Int.le_refl _
  | j + 1 => Int.le_trans (sP_fall (k + j)) (sP_mono j)
/-- the line at k lies above all sums -/
theorem line_above (h1 : F 1 = 0) : ∀ k : Nat, k < n → ∀ j : Nat, j < n → F (j + 1) ≤ hP F n k + sP F n k * ((j : Int) - k)
  | 0, hk, j, hj => by
    cases j with
    | zero =>
      rw [Nat.zero_add, h1]
      show (0 : Int) ≤ 0 + _ * ((0 : Nat) - (0 : Nat) : Int)
      simp
    | succ j =>
      have := need_ok F n 1 (hP F n 0) (b := j + 1 + 1) (by omega) (by omega)
      rw [show ((j + 1 + 1 : Nat) : Int) - (1 : Nat) = ((j + 1 : Nat) : Int) - (0 : Nat) by omega] at this
      exact this
  | k + 1, hk, j, hj => by
    have ih := line_above h1 k (by omega) j hj
    by_cases c : k + 1 < j
    · have := need_ok F n (k + 1 + 1) (hP F n (k + 1)) (b := j + 1) (by omega) (by omega)
      rw [show ((j + 1 : Nat) : Int) - (k + 1 + 1 : Nat) = (j : Int) - (k + 1 : Nat) by omega] at this
      exact this
    · have f := sP_fall (F := F) (n := n) k
      have m : sP F n k * ((j : Int) - (k + 1 : Nat)) ≤ sP F n (k + 1) * ((j : Int) - (k + 1 : Nat)) := Int.mul_le_mul_of_nonpos_right f (by omega)
      rw [hP_succ]
      have e : sP F n k * ((j : Int) - k) = sP F n k + sP F n k * ((j : Int) - (k + 1 : Nat)) := by
        rw [show (j : Int) - k = ((j : Int) - (k + 1 : Nat)) + 1 by omega, Int.mul_add, Int.mul_one]
        omega
      omega
/-- no line above all sums lies lower -/
theorem line_low (h1 : F 1 = 0) {s : Int} (hs : 0 ≤ s) : ∀ k : Nat, k < n → ∃ j : Nat, j < n ∧ hP F n k ≤ F (j + 1) - s * ((j : Int) - k)
  | 0, hk => ⟨0, hk, by
    rw [Nat.zero_add, h1]
    show (0 : Int) ≤ 0 - s * ((0 : Nat) - (0 : Nat) : Int)
    simp⟩
  | k + 1, hk => by
    by_cases c : sP F n k ≤ s
    · obtain ⟨j, hj, e⟩ := line_low h1 hs k (by omega)
      refine ⟨j, hj, ?_⟩
      rw [hP_succ]
      have e2 : s * ((j : Int) - k) = s + s * ((j : Int) - (k + 1 : Nat)) := by
        rw [show (j : Int) - k = ((j : Int) - (k + 1 : Nat)) + 1 by omega, Int.mul_add, Int.mul_one]
        omega
      omega
    · have ex : ∃ b : Nat, k + 1 < b ∧ b ≤ n ∧ hP F n k + (sP F n k - 1) * ((b : Int) - (k + 1 : Nat)) < F b := by
        apply Classical.byContradiction
        intro no
        have := need_min F n (k + 1) (hP F n k) (s := sP F n k - 1) (by omega) fun b h1 h2 => by
          apply Int.not_lt.mp
          intro z
          exact no ⟨b, h1, h2, z⟩
        have : sP F n k ≤ sP F n k - 1 := this
        omega
      obtain ⟨b, b1, b2, b3⟩ := ex
      refine ⟨b - 1, by omega, ?_⟩
      rw [show b - 1 + 1 = b by omega, show ((b - 1 : Nat) : Int) - (k + 1 : Nat) = ((b : Int) - (k + 1 : Nat)) - 1 by omega, hP_succ]
      have m : s * (((b : Int) - (k + 1 : Nat)) - 1) ≤ (sP F n k - 1) * (((b : Int) - (k + 1 : Nat)) - 1) := Int.mul_le_mul_of_nonneg_right (by omega) (by omega)
      have e : (sP F n k - 1) * ((b : Int) - (k + 1 : Nat)) = (sP F n k - 1) * (((b : Int) - (k + 1 : Nat)) - 1) + (sP F n k - 1) := by
        rw [show (b : Int) - (k + 1 : Nat) = (((b : Int) - (k + 1 : Nat)) - 1) + 1 by omega, Int.mul_add, Int.mul_one]
        simp
      omega
theorem sP_le {M : Int} (hM : 0 ≤ M) (h : ∀ b : Nat, 1 ≤ b → b ≤ n → F b ≤ M) (k : Nat) : sP F n k ≤ M := by
  have a : sP F n (0 + k) ≤ sP F n 0 := sP_mono k
  rw [Nat.zero_add] at a
  have b : sP F n 0 ≤ M := need_min F n 1 _ hM fun b h1 h2 => by
    have := h b (by omega) h2
    have m : M * 1 ≤ M * ((b : Int) - (1 : Nat)) := Int.mul_le_mul_of_nonneg_left (by omega) hM
    show F b ≤ 0 + _
    omega
  omega
/-- the lots, least first -/
def lots (F : Nat → Int) (n : Nat) : List (Int × Int) := (List.range (n - 1)).filterMap fun k => if sP F n (k + 1) < sP F n k then some (((k : Int) + 1), sP F n k - sP F n (k + 1)) else none
end
end P59
set_option maxRecDepth 100000
set_option maxHeartbeats 2000000
namespace Pv
open PySem PySem.Spec PyProof.Rows L2
section
variable {K : PySem.W.Frag} {κ : Cls}
/-- a loop that never leaves: what holds of the slots stays -/
theorem loop_inv {put : D → Env → Option Env} {body : Env → R Env Flow} (I : Env → Prop) : ∀ (r : List D), (∀ x ∈ r, ∀ ρ, I ρ → ∃ ρ1 ρ2, put x ρ = some ρ1 ∧ body ρ1 = .ok .nx ρ2 ∧ I ρ2) → ∀ ρ, I ρ → ∃ ρ', loopS put body r ρ = .ok .nx ρ' ∧ I ρ'
  | [], _, ρ, h => ⟨ρ, rfl, h⟩
  | x :: r, hs, ρ, h => by
    obtain ⟨ρ1, ρ2, h1, h2, h3⟩ := hs x (by simp) ρ h
    obtain ⟨ρ', h4, h5⟩ := loop_inv I r (fun y hy => hs y (List.mem_cons_of_mem _ hy)) ρ2 h3
    exact ⟨ρ', (loop_nx h1 h2).trans h4, h5⟩
theorem nums_int : ∀ {lo : Int} {n : Nat}, ∀ y ∈ nums lo n, ∃ i : Int, y = .int i ∧ lo ≤ i ∧ i < lo + n := fun {lo n} y hy => by
  simp only [nums, List.mem_map, List.mem_range] at hy
  obtain ⟨i, hi, rfl⟩ := hy
  exact ⟨_, rfl, by omega, by omega⟩
/-- for turn in range(max(min(len(script), lim), 1)) -/
def turnsI (lim : Int) : SI K κ := iR1 (eMax2 (aCons (eMin2 (aCons (eLen (aCons (eV 0) (aNil))) (aCons (eInt lim) (aNil)))) (aCons (eInt 1) (aNil))))
theorem turns_ev (ns : List Int) (lim : Int) (hl : 0 ≤ lim ∧ lim ≤ 1000) (rest : Env) : ∃ m : Nat, (turnsI (K := K) (κ := κ) lim).ev (some (.d (.lst (ns.map .int))) :: rest) = .ok (nums 0 m) (some (.d (.lst (ns.map .int))) :: rest) := by
  obtain ⟨m, hm⟩ : ∃ m : Int, m = (if (1 : Int) > (if lim < ((ns.map D.int).length : Int) then lim else ((ns.map D.int).length : Int)) then 1 else (if lim < ((ns.map D.int).length : Int) then lim else ((ns.map D.int).length : Int))) := ⟨_, rfl⟩
  have m5 : -(2 ^ 62) ≤ m ∧ m < 2 ^ 62 := by
    rw [hm]
    split <;> split <;> omega
  refine ⟨m.toNat, ?_⟩
  have gl : gLen [.lst (ns.map .int)] = some (.int (ns.map D.int).length) := rfl
  have g1 : gMin2 [.int ((ns.map D.int).length : Int), .int lim] = some (.int (if lim < ((ns.map D.int).length : Int) then lim else ((ns.map D.int).length : Int))) := rfl
  have g2 : gMax2 [.int (if lim < ((ns.map D.int).length : Int) then lim else ((ns.map D.int).length : Int)), .int 1] = some (.int m) := by rw [hm]; rfl
  unfold turnsI
  generalize ns.map D.int = Z at gl g1 g2 ⊢
  simp? [gl, g1, g2, if_pos m5]
section
variable {a b : SE K κ} {ρ ρ1 ρ2 : Env} {i j : Int}
theorem sub_of (ha : a.ev ρ = .ok (.d (.int i)) ρ1) (hb : b.ev ρ1 = .ok (.d (.int j)) ρ2) : (eSub a b).ev ρ = .ok (.d (.int (i - j))) ρ2 := by
  simp? [ha, hb]
theorem len_of {x : D} (ha : a.ev ρ = .ok (.d x) ρ1) (h : gLen [x] = some (.int i)) : (eLen (aCons a (aNil))).ev ρ = .ok (.d (.int i)) ρ1 := by
  simp? [ha, h]
theorem r1_of {m : Nat} (ha : a.ev ρ = .ok (.d (.int i)) ρ1) (h : -1000000 ≤ i ∧ i ≤ 1000000) (hm : i.toNat = m) : (iR1 a).ev ρ = .ok (nums 0 m) ρ1 := by
  have m5 : -(2 ^ 62) ≤ i ∧ i < 2 ^ 62 := by omega
  simp? [ha, if_pos m5, hm]
end
theorem nums_succ (k : Int) (m : Nat) : nums k (m + 1) = .int k :: nums (k + 1) m := by
  unfold nums
  rw [List.range_succ_eq_map, List.map_cons, List.map_map]
  have h2 : (List.range m).map ((fun i : Nat => D.int (k + (i : Int))) ∘ Nat.succ) = (List.range m).map fun i : Nat => D.int (k + 1 + (i : Int)) := List.map_congr_left fun j _ => by
    simp only [Function.comp]
    rw [show k + ((Nat.succ j : Nat) : Int) = k + 1 + (j : Int) by omega]
  rw [h2, show k + ((0 : Nat) : Int) = k by omega]
theorem nums_up (n : Nat) : nums 0 n = (List.range n).map fun t : Nat => D.int (t : Int) := List.map_congr_left fun i _ => by rw [Int.zero_add]
end
end Pv
set_option maxRecDepth 100000
set_option maxHeartbeats 4000000
namespace K33
open PySem PySem.Spec PyProof.Rows L2 Pv P25 P66 P46 P27 P50 P54 P55 P57 P59
theorem topI_mxL : ∀ (ns : List Int) (m : Int), topI m ns = mxL m ns
  | [], _ => rfl
  | n :: ns, m => topI_mxL ns _
section
variable {K : PySem.W.Frag} {κ : Cls} {mg : Str → Option Value}
theorem eNeg_ev (a : SE K κ) : (eNeg (K := K) (κ := κ) a).ev = fun ρ => (a.ev ρ).bindD fun x ρ => match x with
    | .int i => .ok (.d (.int (-i))) ρ
    | _ => .bad := rfl
theorem range2_of {Z : D} {q w : Int} {m : Nat} {s2 : Option Pv.W} (gl : gLen [Z] = some (.int q)) (h1 : 0 ≤ w ∧ w < 1000000) (h2 : 0 ≤ q ∧ q < 1000000) (tn : (q - (w + 1)).toNat = m) : (iR2 (K := K) (κ := κ) (eAdd (eV 1) (eInt 1)) (eLen (aCons (eV 0) (aNil)))).ev [some (.d Z), some (.d (.int w)), s2, none] = .ok ((List.range m).map fun j : Nat => D.int (w + 1 + (j : Int))) [some (.d Z), some (.d (.int w)), s2, none] := by
  have m5 : -(2 ^ 62) ≤ w + 1 ∧ w + 1 < 2 ^ 62 ∧ -(2 ^ 62) ≤ q ∧ q < 2 ^ 62 := by omega
  have nm : (List.range m).map (fun j : Nat => D.int (w + 1 + (j : Int))) = nums (w + 1) m := rfl
  rw [nm]
  simp? [gl, if_pos m5, tn]
def negE : SE K κ := (eNeg (eDiv (eSub (eV 2) (eIxL (eV 0) (eV 3))) (eSub (eV 3) (eV 1))))
def lcFrom : SE K κ := (eLc (iR2 (eAdd (eV 1) (eInt 1)) (eLen (aCons (eV 0) (aNil)))) (gN 3) (tYes') (negE) [3] (fun _ h => h))
theorem v_calls_from (T : Tx K κ mg) (L : List Int) (hL : L.length ≤ 900) (w : Nat) (hw : w < L.length) (r : Int) : f__calls_from T [.d (.lst (L.map .int)), .d (.int w), .d (.int r)] = .ok (.d (.int (need (at_ L) (L.length - 1) w r))) [.d (.lst (L.map .int)), .d (.int w), .d (.int r)] := by
  have gl : gLen [.lst (L.map .int)] = some (.int (L.length : Nat)) := by
    show some (D.int ((L.map D.int).length : Nat)) = _
    rw [List.length_map]
  obtain ⟨m, hm⟩ : ∃ m, m = L.length - 1 - w := ⟨_, rfl⟩
  have l := loopC_map (vs := [3]) (put := (gN (K := K) (κ := κ) 3).put) (t := (tYes' (K := K) (κ := κ)).ev) (e := (negE (K := K) (κ := κ)).ev) (ρ0 := [some (.d (.lst (L.map .int))), some (.d (.int w)), some (.d (.int r)), none])
    (fun j : Nat => D.int ((w : Int) + 1 + (j : Int))) (fun j : Nat => some (.int (-((r - at_ L (w + 1 + j)) / ((j : Int) + 1))))) (List.range (m)) [] (fun j hj => by
      have hj := List.mem_range.mp hj
      have ix := G.ix_nat L (w + 1 + j) (by omega)
      rw [show ((w + 1 + j : Nat) : Int) = (w : Int) + 1 + (j : Int) by omega] at ix
      refine ⟨[some (.d (.lst (L.map .int))), some (.d (.int w)), some (.d (.int r)), some (.d (.int ((w : Int) + 1 + (j : Int))))], [some (.d (.lst (L.map .int))), some (.d (.int w)), some (.d (.int r)), some (.d (.int ((w : Int) + 1 + (j : Int))))], rfl, [some (.d (.lst (L.map .int))), some (.d (.int w)), some (.d (.int r)), some (.d (.int ((w : Int) + 1 + (j : Int))))], rfl, ?_, rfl⟩
      have dv := divW12 (d := r - at_ L (w + 1 + j)) (n := (w : Int) + 1 + (j : Int) - w) (by omega) (by omega)
      unfold negE
      generalize D.lst (L.map .int) = Z at ix ⊢
      rw [show (j : Int) + 1 = (w : Int) + 1 + (j : Int) - w by omega]
      generalize at_ L (w + 1 + j) = z at ix dv ⊢
      simp? [eNeg_ev, ix, if_pos dv]) (by simp; omega)
  rw [List.nil_append, fm_some fun j : Nat => D.int (-((r - at_ L (w + 1 + j)) / ((j : Int) + 1)))] at l
  have it : (iR2 (K := K) (κ := κ) (eAdd (eV 1) (eInt 1)) (eLen (aCons (eV 0) (aNil)))).ev [some (.d (.lst (L.map .int))), some (.d (.int w)), some (.d (.int r)), none] = .ok ((List.range m).map fun j : Nat => D.int ((w : Int) + 1 + (j : Int))) [some (.d (.lst (L.map .int))), some (.d (.int w)), some (.d (.int r)), none] := by
    clear l
    exact range2_of gl (by omega) (by omega) (by omega)
  have lc : (lcFrom (K := K) (κ := κ)).ev [some (.d (.lst (L.map .int))), some (.d (.int w)), some (.d (.int r)), none] = .ok (.d (.lst (((List.range (m)).map fun j : Nat => -((r - at_ L (w + 1 + j)) / ((j : Int) + 1))).map .int))) [some (.d (.lst (L.map .int))), some (.d (.int w)), some (.d (.int r)), none] := by
    rw [List.map_map]
    exact lc_of (vs := [3]) (g := gN 3) (t := tYes') (e := negE) (hv := fun _ h => h) it rfl l rfl
  have nl : ((List.range (m)).map fun j : Nat => -((r - at_ L (w + 1 + j)) / ((j : Int) + 1))).length ≤ 900 := by simp; omega
  have en : need (at_ L) (L.length - 1) w r = mxL 0 ((List.range m).map fun j : Nat => -((r - at_ L (w + 1 + j)) / ((j : Int) + 1))) := by rw [hm]; unfold need; with_reducible rfl
  rw [en]
  generalize ((List.range m).map fun j : Nat => -((r - at_ L (w + 1 + j)) / ((j : Int) + 1))) = V at lc nl ⊢
  have ct : (eCatL (K := K) (κ := κ) (eLst (aCons (eInt 0) (aNil))) (lcFrom)).ev [some (.d (.lst (L.map .int))), some (.d (.int w)), some (.d (.int r)), none] = .ok (.d (.lst ((0 :: V).map .int))) [some (.d (.lst (L.map .int))), some (.d (.int w)), some (.d (.int r)), none] :=
    G.catL_of (xs := [.int 0]) (ys := V.map .int) (ρ1 := [some (.d (.lst (L.map .int))), some (.d (.int w)), some (.d (.int r)), none]) rfl lc (by simp; omega)
  have tp := top1_of ct
  rw [topI_mxL] at tp
  have b : b__calls_from T = sSeq (sRet (eTop1 (eCatL (eLst (aCons (eInt 0) (aNil))) (lcFrom)))) (sNil) := rfl
  refine fn_rt (ρ := [some (.d (.lst (L.map .int))), some (.d (.int w)), some (.d (.int r)), none]) ?_ rfl
  rw [b]
  exact seq_ret tp
def lotsTo (F : Nat → Int) (n m : Nat) : List (Int × Int) := (List.range m).filterMap fun k => if sP F n (k + 1) < sP F n k then some (((k : Int) + 1), sP F n k - sP F n (k + 1)) else none
theorem lotsTo_succ (F : Nat → Int) (n m : Nat) : lotsTo F n (m + 1) = lotsTo F n m ++ if sP F n (m + 1) < sP F n m then [(((m : Int) + 1), sP F n m - sP F n (m + 1))] else [] := by
  unfold lotsTo
  rw [List.range_succ, List.filterMap_append]
  congr 1
  by_cases c : sP F n (m + 1) < sP F n m
  · simp [c]
  · simp [c]
theorem lotsTo_len (F : Nat → Int) (n m : Nat) : (lotsTo F n m).length ≤ m := by
  unfold lotsTo
  have := List.length_filterMap_le (fun k : Nat => if sP F n (k + 1) < sP F n k then some (((k : Int) + 1), sP F n k - sP F n (k + 1)) else none) (List.range m)
  simpa using this
def bdC (T : Tx K κ mg) : SS K κ := (sSeq (sAsg 7 (eCall 3 (f__calls_from T) (aCons (eV 1) (aCons (eV 6) (aCons (eV 3) (aNil))))))
    (sSeq (sIf (tV' (eLt (eV 7) (eV 5))) (sSeq (sApp K rfl 2 (eTup (aCons (eV 4) (aCons (eSub (eV 5) (eV 7)) (aNil)))))
    (sNil)) (sNil))
    (sSeq (sAugAdd 3 (eV 7))
    (sSeq (sPar 4 5 (by decide) (eV 6) (eV 7))
    (sNil)))))
/-- the slope ahead of the k-th worth, and the worth: 0 at the start -/
def ahead (F : Nat → Int) (n : Nat) : Nat → Int
  | 0 => 0
  | k + 1 => sP F n k
theorem bdC_ev (T : Tx K κ mg) (d Z : D) (A : List D) (h k a w s : Int) (s7 : Option Pv.W) (vc : f__calls_from T [.d Z, .d (.int w), .d (.int h)] = .ok (.d (.int s)) [.d Z, .d (.int w), .d (.int h)]) (lm : A.length < 1000000) :
    (bdC T).sv [some (.d d), some (.d Z), some (.ml A), some (.d (.int h)), some (.d (.int k)), some (.d (.int a)), some (.d (.int w)), s7] =
    .ok .nx [some (.d d), some (.d Z), some (.ml (if s < a then A ++ [.tup [.int k, .int (a - s)]] else A)), some (.d (.int (h + s))), some (.d (.int w)), some (.d (.int s)), some (.d (.int w)), some (.d (.int s))] := by
  unfold bdC
  generalize f__calls_from T = f at vc ⊢
  refine seq_nx (ρ' := [some (.d d), some (.d Z), some (.ml A), some (.d (.int h)), some (.d (.int k)), some (.d (.int a)), some (.d (.int w)), some (.d (.int s))]) (by simp? [vc]) ?_
  by_cases c : s < a
  · rw [if_pos c]
    refine seq_nx (ρ' := [some (.d d), some (.d Z), some (.ml (A ++ [.tup [.int k, .int (a - s)]])), some (.d (.int h)), some (.d (.int k)), some (.d (.int a)), some (.d (.int w)), some (.d (.int s))]) (by simp? [decide_eq_true c, if_pos lm]) ?_
    simp? []
  · rw [if_neg c]
    refine seq_nx (ρ' := [some (.d d), some (.d Z), some (.ml A), some (.d (.int h)), some (.d (.int k)), some (.d (.int a)), some (.d (.int w)), some (.d (.int s))]) (by simp? [decide_eq_false c]) ?_
    simp? []
theorem lots_step (F : Nat → Int) (n k : Nat) : (if sP F n k < ahead F n k then (lotsTo F n (k - 1)).map pr ++ [.tup [.int k, .int (ahead F n k - sP F n k)]] else (lotsTo F n (k - 1)).map pr) = (lotsTo F n k).map pr := by
  have nn := sP_nn F n k
  cases k with
  | zero =>
    have c : ¬ sP F n 0 < ahead F n 0 := by show ¬ _ < (0 : Int); omega
    rw [if_neg c]
  | succ k =>
    rw [show k + 1 - 1 = k by omega, lotsTo_succ]
    show (if sP F n (k + 1) < sP F n k then _ else _) = _
    by_cases c : sP F n (k + 1) < sP F n k
    · rw [if_pos c, if_pos c, List.map_append]
      rfl
    · rw [if_neg c, if_neg c, List.append_nil]
theorem cover_step (T : Tx K κ mg) (d : D) (L : List Int) (hL : L.length ≤ 900) (k : Nat) (hk : k + 1 < L.length) (s7 : Option Pv.W) : ∃ u7, (bdC T).sv [some (.d d), some (.d (.lst (L.map .int))), some (.ml ((lotsTo (at_ L) (L.length - 1) (k - 1)).map pr)), some (.d (.int (hP (at_ L) (L.length - 1) k))), some (.d (.int k)), some (.d (.int (ahead (at_ L) (L.length - 1) k))), some (.d (.int ((k : Int) + 1))), s7] =
    .ok .nx [some (.d d), some (.d (.lst (L.map .int))), some (.ml ((lotsTo (at_ L) (L.length - 1) k).map pr)), some (.d (.int (hP (at_ L) (L.length - 1) (k + 1)))), some (.d (.int ((k + 1 : Nat) : Int))), some (.d (.int (ahead (at_ L) (L.length - 1) (k + 1)))), some (.d (.int ((k : Int) + 1))), u7] := by
  have vc := v_calls_from T L hL (k + 1) hk (hP (at_ L) (L.length - 1) k)
  have es : need (at_ L) (L.length - 1) (k + 1) (hP (at_ L) (L.length - 1) k) = sP (at_ L) (L.length - 1) k := by unfold sP; with_reducible rfl
  rw [es, show ((k + 1 : Nat) : Int) = (k : Int) + 1 by omega] at vc
  have ll := lotsTo_len (at_ L) (L.length - 1) (k - 1)
  have lm : ((lotsTo (at_ L) (L.length - 1) (k - 1)).map pr).length < 1000000 := by rw [List.length_map]; omega
  rw [hP_succ, show ((k + 1 : Nat) : Int) = (k : Int) + 1 by omega, ← lots_step (at_ L) (L.length - 1) k]
  exact ⟨_, bdC_ev T d (.lst (L.map .int)) _ _ _ _ _ _ s7 vc lm⟩
/-- k + 1, k + 2, .., m of them -/
def upF : Nat → Nat → List D
  | _, 0 => []
  | k, m + 1 => .int ((k : Int) + 1) :: upF (k + 1) m
theorem upF_nums : ∀ (m k : Nat), upF k m = nums ((k : Int) + 1) m
  | 0, k => rfl
  | m + 1, k => by
    rw [upF, upF_nums m (k + 1)]
    unfold nums
    rw [List.range_succ_eq_map, List.map_cons, List.map_map]
    refine congr (congrArg _ ?_) ?_
    · show D.int _ = D.int _
      congr 1
    · refine List.map_congr_left fun j _ => ?_
      show D.int _ = D.int _
      congr 1
      show ((k + 1 : Nat) : Int) + 1 + (j : Int) = (k : Int) + 1 + ((j + 1 : Nat) : Int)
      omega
theorem cover_loop (T : Tx K κ mg) (d : D) (L : List Int) (hL : L.length ≤ 900) : ∀ (m k : Nat), k + m + 1 = L.length → ∀ (s6 s7 : Option Pv.W), ∃ u6 u7 u4 u5 u3, loopS (gN (K := K) (κ := κ) 6).put (bdC T).sv (upF k m) [some (.d d), some (.d (.lst (L.map .int))), some (.ml ((lotsTo (at_ L) (L.length - 1) (k - 1)).map pr)), some (.d (.int (hP (at_ L) (L.length - 1) k))), some (.d (.int k)), some (.d (.int (ahead (at_ L) (L.length - 1) k))), s6, s7] =
    .ok .nx [some (.d d), some (.d (.lst (L.map .int))), some (.ml ((lotsTo (at_ L) (L.length - 1) (k + m - 1)).map pr)), u3, u4, u5, u6, u7]
  | 0, k, e, s6, s7 => ⟨s6, s7, _, _, _, rfl⟩
  | m + 1, k, e, s6, s7 => by
    obtain ⟨v7, e1⟩ := cover_step T d L hL k (by omega) s7
    obtain ⟨u6, u7, u4, u5, u3, e2⟩ := cover_loop T d L hL m (k + 1) (by omega) (some (.d (.int ((k : Int) + 1)))) v7
    refine ⟨u6, u7, u4, u5, u3, ?_⟩
    rw [show k + 1 - 1 = k by omega, show k + 1 + m - 1 = k + (m + 1) - 1 by omega] at e2
    unfold upF
    generalize upF (k + 1) m = R' at e2 ⊢
    generalize lotsTo (at_ L) (L.length - 1) (k - 1) = A1 at e1 ⊢
    generalize lotsTo (at_ L) (L.length - 1) k = A2 at e1 e2
    generalize hP (at_ L) (L.length - 1) k = h1 at e1 ⊢
    generalize hP (at_ L) (L.length - 1) (k + 1) = h2 at e1 e2
    generalize ahead (at_ L) (L.length - 1) k = a1 at e1 ⊢
    generalize ahead (at_ L) (L.length - 1) (k + 1) = a2 at e1 e2
    generalize (bdC T).sv = B at e1 e2 ⊢
    exact (loop_nx (ρ1 := [some (.d d), some (.d (.lst (L.map .int))), some (.ml (A1.map pr)), some (.d (.int h1)), some (.d (.int k)), some (.d (.int a1)), some (.d (.int ((k : Int) + 1))), s7]) rfl e1).trans e2
end
end K33
set_option maxRecDepth 100000
set_option maxHeartbeats 4000000
namespace K33
open PySem PySem.Spec PyProof.Rows L2 Pv P25 P66 P46 P27 P50 P54 P55 P57 P59
section
variable {K : PySem.W.Frag} {κ : Cls} {mg : Str → Option Value}
theorem lotsTo_all (F : Nat → Int) (n : Nat) : lotsTo F n (n - 1) = lots F n := rfl
theorem rng1_of {Z d : D} {q : Int} {m : Nat} (gl : gLen [Z] = some (.int q)) (h2 : 0 ≤ q ∧ q < 1000000) (tn : (q - 1).toNat = m) : (iR2 (K := K) (κ := κ) (eInt 1) (eLen (aCons (eV 1) (aNil)))).ev [some (.d d), some (.d Z), some (.ml []), some (.d (.int 0)), some (.d (.int 0)), some (.d (.int 0)), none, none] = .ok (nums 1 m) [some (.d d), some (.d Z), some (.ml []), some (.d (.int 0)), some (.d (.int 0)), some (.d (.int 0)), none, none] := by
  have m5 : -(2 ^ 62) ≤ (1 : Int) ∧ (1 : Int) < 2 ^ 62 ∧ -(2 ^ 62) ≤ q ∧ q < 2 ^ 62 := by omega
  simp? [gl, if_pos m5, tn]
theorem v_cover_L (T : Tx K κ mg) (d : D) (L : List Int) (hL : L.length ≤ 900) (h1 : 1 ≤ L.length) (c1 : f_check_right T [.d d] = .ok (.d .non) [.d d]) (c2 : f_check_small_right T [.d d] = .ok (.d .non) [.d d]) (c3 : f_sums_below T [.d d] = .ok (.d (.lst (L.map .int))) [.d d]) :
    f_cover T [.d d] = .ok (.d (pl (lots (at_ L) (L.length - 1)).reverse)) [.d d] := by
  obtain ⟨u6, u7, u4, u5, u3, e⟩ := cover_loop T d L hL (L.length - 1) 0 (by omega) none none
  have z0 : ((0 : Nat) : Int) + 1 = 1 := rfl
  have z1 : (lotsTo (at_ L) (L.length - 1) (0 - 1)).map pr = [] := rfl
  have z2 : hP (at_ L) (L.length - 1) 0 = 0 := rfl
  have z3 : ahead (at_ L) (L.length - 1) 0 = 0 := rfl
  have z4 : ((0 : Nat) : Int) = 0 := rfl
  rw [Nat.zero_add, lotsTo_all, upF_nums, z0, z1, z2, z3, z4] at e
  clear z0 z1 z2 z3 z4
  have it : (iR2 (K := K) (κ := κ) (eInt 1) (eLen (aCons (eV 1) (aNil)))).ev [some (.d d), some (.d (.lst (L.map .int))), some (.ml []), some (.d (.int 0)), some (.d (.int 0)), some (.d (.int 0)), none, none] = .ok (nums 1 (L.length - 1)) [some (.d d), some (.d (.lst (L.map .int))), some (.ml []), some (.d (.int 0)), some (.d (.int 0)), some (.d (.int 0)), none, none] := by
    have gl : gLen [.lst (L.map .int)] = some (.int (L.length : Nat)) := by
      show some (D.int ((L.map D.int).length : Nat)) = _
      rw [List.length_map]
    exact rng1_of gl (by omega) (by omega)
  have f : (sFor (iR2 (eInt 1) (eLen (aCons (eV 1) (aNil)))) (gN 6) (bdC T)).sv [some (.d d), some (.d (.lst (L.map .int))), some (.ml []), some (.d (.int 0)), some (.d (.int 0)), some (.d (.int 0)), none, none] = _ := for_of (xs := nums 1 (L.length - 1)) it e
  have b : b_cover T = sSeq (sDrop (eCall 1 (f_check_right T) (aCons (eV 0) (aNil)))) (sSeq (sDrop (eCall 1 (f_check_small_right T) (aCons (eV 0) (aNil)))) (sSeq (sAsg 1 (eCall 1 (f_sums_below T) (aCons (eV 0) (aNil)))) (sSeq (sAsg 2 (eLstM (aNil)))
    (sSeq (sAsg 3 (eInt 0)) (sSeq (sAsgG (gT 2 (gs1 (gN 4) (gs1 (gN 5) (gs0)))) (eTup (aCons (eInt 0) (aCons (eInt 0) (aNil))))) (sSeq (sFor (iR2 (eInt 1) (eLen (aCons (eV 1) (aNil)))) (gN 6) (bdC T))
    (sSeq (sDrop (eRevOwn 2)) (sSeq (sRet (eTupOf (aCons (eV 2) (aNil)))) (sNil))))))))) := rfl
  have tp : gTupOf [.lst ((lots (at_ L) (L.length - 1)).map pr).reverse] = some (pl (lots (at_ L) (L.length - 1)).reverse) := by
    unfold pl
    rw [List.map_reverse]
    rfl
  refine fn_rt (ρ := [some (.d d), some (.d (.lst (L.map .int))), some (.d (.lst ((lots (at_ L) (L.length - 1)).map pr).reverse)), u3, u4, u5, u6, u7]) ?_ rfl
  rw [b]
  generalize D.lst (L.map .int) = Z at c3 f ⊢
  generalize (lots (at_ L) (L.length - 1)).map pr = A at f tp ⊢
  generalize pl (lots (at_ L) (L.length - 1)).reverse = P at tp ⊢
  generalize f_check_right T = g1 at c1 ⊢
  generalize f_check_small_right T = g2 at c2 ⊢
  generalize f_sums_below T = g3 at c3 ⊢
  refine seq_nx (ρ' := [some (.d d), none, none, none, none, none, none, none]) (by simp? [c1]) ?_
  refine seq_nx (ρ' := [some (.d d), none, none, none, none, none, none, none]) (by simp? [c2]) ?_
  refine seq_nx (ρ' := [some (.d d), some (.d Z), none, none, none, none, none, none]) (by simp? [c3]) ?_
  refine seq_nx (ρ' := [some (.d d), some (.d Z), some (.ml []), none, none, none, none, none]) (by simp? []) ?_
  refine seq_nx (ρ' := [some (.d d), some (.d Z), some (.ml []), some (.d (.int 0)), none, none, none, none]) (by simp? []) ?_
  refine seq_nx (ρ' := [some (.d d), some (.d Z), some (.ml []), some (.d (.int 0)), some (.d (.int 0)), some (.d (.int 0)), none, none]) (by simp? []) ?_
  refine seq_nx f ?_
  refine seq_nx (ρ' := [some (.d d), some (.d Z), some (.ml A.reverse), u3, u4, u5, u6, u7]) (by simp? [eRevOwn_ev]) ?_
  exact seq_ret (by simp? [tp])
end
end K33
set_option maxRecDepth 100000
set_option maxHeartbeats 4000000
namespace K33
open PySem PySem.Spec PyProof.Rows L2 Pv P25 P66 P46 P27 P50 P54 P55 P57 P59
/-- the greatest of f 0, f 1, .., f n -/
def mxR (f : Nat → Int) (n : Nat) : Int := mxL (f 0) ((List.range n).map fun j => f (j + 1))
theorem mxR_ge (f : Nat → Int) {n t : Nat} (h : t ≤ n) : f t ≤ mxR f n := by
  have g := mxL_ge ((List.range n).map fun j => f (j + 1)) (f 0)
  cases t with
  | zero => exact g.1
  | succ t => exact g.2 _ (List.mem_map.mpr ⟨t, List.mem_range.mpr (by omega), rfl⟩)
theorem mxR_in (f : Nat → Int) (n : Nat) : ∃ t, t ≤ n ∧ mxR f n = f t := by
  rcases P27.mxL_in ((List.range n).map fun j => f (j + 1)) (f 0) with e | e
  · exact ⟨0, Nat.zero_le _, e⟩
  · obtain ⟨j, hj, e⟩ := List.mem_map.mp e
    exact ⟨j + 1, by have := List.mem_range.mp hj; omega, e.symm⟩
/-- how high the line of slope s lies at i -/
def hgt (S : List Int) (n : Nat) (s : Int) (i : Nat) : Int := mxR (fun t => at_ S t - s * ((t : Int) - i)) n
section
variable {K : PySem.W.Frag} {κ : Cls} {mg : Str → Option Value}
def lineE : SE K κ := (eSub (eIxL (eV 0) (eV 6)) (eMul (eV 4) (eSub (eV 6) (eV 2))))
def lcLine : SE K κ := (eLc (iR1 (eLen (aCons (eV 0) (aNil)))) (gN 6) (tYes') (lineE) [6] (fun _ h => h))
theorem lineE_ev {Z : D} {z t i s : Int} {s1 s3 s5 : Option Pv.W} (ix : gIxL Z (.int t) = some (.int z)) (hs : 0 ≤ s ∧ s < 10 ^ 12) : (lineE (K := K) (κ := κ)).ev [some (.d Z), s1, some (.d (.int i)), s3, some (.d (.int s)), s5, some (.d (.int t))] = .ok (.d (.int (z - s * (t - i)))) [some (.d Z), s1, some (.d (.int i)), s3, some (.d (.int s)), s5, some (.d (.int t))] := by
  have c : CMul s (t - i) := cm hs.1 hs.2
  unfold lineE
  simp? [ix, if_pos c]
theorem rng0_of {Z : D} {q : Int} {m : Nat} {s1 s2 s3 s4 s5 s6 : Option Pv.W} (gl : gLen [Z] = some (.int q)) (h2 : 0 ≤ q ∧ q < 1000000) (tn : q.toNat = m) : (iR1 (K := K) (κ := κ) (eLen (aCons (eV 0) (aNil)))).ev [some (.d Z), s1, s2, s3, s4, s5, s6] = .ok (nums 0 m) [some (.d Z), s1, s2, s3, s4, s5, s6] := by
  have m5 : -(2 ^ 62) ≤ q ∧ q < 2 ^ 62 := by omega
  simp? [gl, if_pos m5, tn]
theorem height_ev (S : List Int) (n : Nat) (hn : S.length = n + 1) (hl : n ≤ 800) (s : Int) (hs : 0 ≤ s ∧ s < 10 ^ 12) (i : Nat) (s1 s3 s5 : Option Pv.W) :
    (eTop1 (lcLine (K := K) (κ := κ))).ev [some (.d (.lst (S.map .int))), s1, some (.d (.int i)), s3, some (.d (.int s)), s5, none] = .ok (.d (.int (hgt S n s i))) [some (.d (.lst (S.map .int))), s1, some (.d (.int i)), s3, some (.d (.int s)), s5, none] := by
  have gl : gLen [.lst (S.map .int)] = some (.int ((n + 1 : Nat) : Int)) := by
    show some (D.int ((S.map D.int).length : Nat)) = _
    rw [List.length_map, hn]
  have it := rng0_of (K := K) (κ := κ) (s1 := s1) (s2 := some (.d (.int i))) (s3 := s3) (s4 := some (.d (.int s))) (s5 := s5) (s6 := none) gl (by omega) rfl
  rw [Int.toNat_natCast, nums_up] at it
  have l := loopC_map (vs := [6]) (put := (gN (K := K) (κ := κ) 6).put) (t := (tYes' (K := K) (κ := κ)).ev) (e := (lineE (K := K) (κ := κ)).ev) (ρ0 := [some (.d (.lst (S.map .int))), s1, some (.d (.int i)), s3, some (.d (.int s)), s5, none])
    (fun t : Nat => D.int (t : Int)) (fun t : Nat => some (.int (at_ S t - s * ((t : Int) - i)))) (List.range (n + 1)) [] (fun t ht => by
      have ht := List.mem_range.mp ht
      have ix := G.ix_nat S t (by omega)
      exact ⟨[some (.d (.lst (S.map .int))), s1, some (.d (.int i)), s3, some (.d (.int s)), s5, some (.d (.int t))], [some (.d (.lst (S.map .int))), s1, some (.d (.int i)), s3, some (.d (.int s)), s5, some (.d (.int t))], rfl, [some (.d (.lst (S.map .int))), s1, some (.d (.int i)), s3, some (.d (.int s)), s5, some (.d (.int t))], rfl, lineE_ev ix hs, rfl⟩) (by simp; omega)
  rw [List.nil_append, fm_some fun t : Nat => D.int (at_ S t - s * ((t : Int) - i))] at l
  have lc : (lcLine (K := K) (κ := κ)).ev [some (.d (.lst (S.map .int))), s1, some (.d (.int i)), s3, some (.d (.int s)), s5, none] = .ok (.d (.lst (((List.range (n + 1)).map fun t : Nat => at_ S t - s * ((t : Int) - i)).map .int))) [some (.d (.lst (S.map .int))), s1, some (.d (.int i)), s3, some (.d (.int s)), s5, none] := by
    rw [List.map_map]
    exact lc_of (vs := [6]) (g := gN 6) (t := tYes') (e := lineE) (hv := fun _ h => h) it rfl l rfl
  have e : (List.range (n + 1)).map (fun t : Nat => at_ S t - s * ((t : Int) - i)) = (at_ S 0 - s * (((0 : Nat) : Int) - i)) :: (List.range n).map fun j : Nat => at_ S (j + 1) - s * (((j + 1 : Nat) : Int) - i) := by
    rw [List.range_succ_eq_map, List.map_cons, List.map_map]
    rfl
  rw [e] at lc
  have tp := top1_of lc
  rw [topI_mxL] at tp
  exact tp
def stB (b : Option Int) (h : Int) : Option Int := match b with
  | none => some h
  | some c => if h < c then some h else some c
def bdS : SS K κ := (sSeq (sAsg 5 (eTop1 (lcLine)))
    (sSeq (sIf (tOr' (tV (eIsN (eV 3))) (tV' (eLt (eV 5) (eV 3)))) (sSeq (sAsg 3 (eV 5))
    (sNil)) (sNil))
    (sNil)))
theorem best_step (Z : D) (i s h : Int) (b : Option Int) (s1 s5 : Option Pv.W) (he : ∀ s5, (eTop1 (lcLine (K := K) (κ := κ))).ev [some (.d Z), s1, some (.d (.int i)), some (.d (bD b)), some (.d (.int s)), s5, none] = .ok (.d (.int h)) [some (.d Z), s1, some (.d (.int i)), some (.d (bD b)), some (.d (.int s)), s5, none]) :
    (bdS (K := K) (κ := κ)).sv [some (.d Z), s1, some (.d (.int i)), some (.d (bD b)), some (.d (.int s)), s5, none] = .ok .nx [some (.d Z), s1, some (.d (.int i)), some (.d (bD (stB b h))), some (.d (.int s)), some (.d (.int h)), none] := by
  unfold bdS
  refine seq_nx (asg_of (he s5) (by show 5 < 7; decide)) ?_
  cases b with
  | none =>
    have nn : D.isN .non = true := rfl
    show (sSeq _ sNil).sv [some (.d Z), s1, some (.d (.int i)), some (.d .non), some (.d (.int s)), some (.d (.int h)), none] = .ok .nx [some (.d Z), s1, some (.d (.int i)), some (.d (.int h)), some (.d (.int s)), some (.d (.int h)), none]
    simp? [nn]
  | some c =>
    have nn : D.isN (.int c) = false := rfl
    show (sSeq _ sNil).sv [some (.d Z), s1, some (.d (.int i)), some (.d (.int c)), some (.d (.int s)), some (.d (.int h)), none] = .ok .nx [some (.d Z), s1, some (.d (.int i)), some (.d (bD (if h < c then some h else some c))), some (.d (.int s)), some (.d (.int h)), none]
    by_cases q : h < c
    · rw [if_pos q]
      show _ = R.ok Flow.nx [some (.d Z), s1, some (.d (.int i)), some (.d (.int h)), some (.d (.int s)), some (.d (.int h)), none]
      simp? [nn, decide_eq_true q]
    · rw [if_neg q]
      show _ = R.ok Flow.nx [some (.d Z), s1, some (.d (.int i)), some (.d (.int c)), some (.d (.int s)), some (.d (.int h)), none]
      simp? [nn, decide_eq_false q]
/-- the least of the heights of the slopes below k -/
def IsB (f : Int → Int) (k : Int) (b : Option Int) : Prop := (b = none ∧ k ≤ 0) ∨ ∃ c, b = some c ∧ (∃ s, 0 ≤ s ∧ s < k ∧ f s = c) ∧ ∀ s, 0 ≤ s → s < k → c ≤ f s
theorem isB_step {f : Int → Int} {k : Int} {b : Option Int} (h0 : 0 ≤ k) (h : IsB f k b) : IsB f (k + 1) (stB b (f k)) := by
  rcases h with ⟨rfl, hk⟩ | ⟨c, rfl, ⟨s, s0, s1, s2⟩, hc⟩
  · exact .inr ⟨f k, rfl, ⟨k, h0, by omega, rfl⟩, fun s q1 q2 => by rw [show s = k by omega]; exact Int.le_refl _⟩
  · show IsB f (k + 1) (if f k < c then some (f k) else some c)
    by_cases q : f k < c
    · rw [if_pos q]
      exact .inr ⟨f k, rfl, ⟨k, h0, by omega, rfl⟩, fun s q1 q2 => by
        by_cases e : s = k
        · rw [e]; exact Int.le_refl _
        · have := hc s q1 (by omega)
          omega⟩
    · rw [if_neg q]
      exact .inr ⟨c, rfl, ⟨s, s0, by omega, s2⟩, fun s q1 q2 => by
        by_cases e : s = k
        · rw [e]; omega
        · exact hc s q1 (by omega)⟩
theorem slope_loop (S : List Int) (n : Nat) (hn : S.length = n + 1) (hl : n ≤ 800) (i : Nat) (s1 : Option Pv.W) : ∀ (m : Nat) (k : Int), 0 ≤ k → k + m < 10 ^ 12 → ∀ (b : Option Int) (s4 s5 : Option Pv.W), IsB (fun s => hgt S n s i) k b → ∃ b' u4 u5, IsB (fun s => hgt S n s i) (k + m) b' ∧ loopS (gN (K := K) (κ := κ) 4).put (bdS (K := K) (κ := κ)).sv (nums k m) [some (.d (.lst (S.map .int))), s1, some (.d (.int i)), some (.d (bD b)), s4, s5, none] =
    .ok .nx [some (.d (.lst (S.map .int))), s1, some (.d (.int i)), some (.d (bD b')), u4, u5, none]
  | 0, k, hk, hm, b, s4, s5, h => ⟨b, s4, s5, by simpa using h, rfl⟩
  | m + 1, k, hk, hm, b, s4, s5, h => by
    have e := best_step (K := K) (κ := κ) (.lst (S.map .int)) i k (hgt S n k i) b s1 s5 fun s5 => height_ev S n hn hl k (by omega) i s1 (some (.d (bD b))) s5
    obtain ⟨b', u4, u5, h', e2⟩ := slope_loop S n hn hl i s1 m (k + 1) (by omega) (by omega) (stB b (hgt S n k i)) (some (.d (.int k))) (some (.d (.int (hgt S n k i)))) (isB_step hk h)
    refine ⟨b', u4, u5, by rw [show k + ((m + 1 : Nat) : Int) = k + 1 + (m : Int) by omega]; exact h', ?_⟩
    have en : nums k (m + 1) = .int k :: nums (k + 1) m := nums_succ k m
    rw [en]
    generalize nums (k + 1) m = R' at e2 ⊢
    generalize (bdS (K := K) (κ := κ)).sv = B at e e2 ⊢
    generalize hgt S n k i = hh at e e2
    generalize D.lst (S.map .int) = Z at e e2 ⊢
    exact (loop_nx (ρ1 := [some (.d Z), s1, some (.d (.int i)), some (.d (bD b)), some (.d (.int k)), s5, none]) rfl e).trans e2
end
end K33
set_option maxRecDepth 100000
set_option maxHeartbeats 4000000
namespace K33
open PySem PySem.Spec PyProof.Rows L2 Pv P25 P66 P46 P27 P50 P54 P55 P57 P59
theorem hgt_ge (S : List Int) {n t : Nat} (h : t ≤ n) (s : Int) (i : Nat) : at_ S t - s * ((t : Int) - i) ≤ hgt S n s i := mxR_ge (fun t => at_ S t - s * ((t : Int) - i)) h
theorem hgt_in (S : List Int) (n : Nat) (s : Int) (i : Nat) : ∃ t, t ≤ n ∧ hgt S n s i = at_ S t - s * ((t : Int) - i) := mxR_in (fun t => at_ S t - s * ((t : Int) - i)) n
/-- the least height is what is reached -/
theorem best_is {S : List Int} {F : Nat → Int} {n : Nat} (hS : ∀ t, t ≤ n → at_ S t = F (t + 1)) (h1 : F 1 = 0) {M : Int} (hM : 0 ≤ M) (hF : ∀ b : Nat, 1 ≤ b → b ≤ n + 1 → F b ≤ M) {i : Nat} (hi : i ≤ n) {b : Option Int} (h : IsB (fun s => hgt S n s i) (0 + (M + 1)) b) : b = some (hP F (n + 1) i) := by
  rcases h with ⟨_, hk⟩ | ⟨c, rfl, ⟨s, s0, s1, s2⟩, hc⟩
  · omega
  · congr 1
    have lo : hP F (n + 1) i ≤ c := by
      obtain ⟨j, hj, e⟩ := line_low (n := n + 1) h1 s0 i (by omega)
      have g := hgt_ge S (n := n) (t := j) (by omega) s i
      rw [hS j (by omega)] at g
      have s2 : hgt S n s i = c := s2
      omega
    have up : c ≤ hP F (n + 1) i := by
      have sl := sP_le (F := F) (n := n + 1) hM hF i
      have q := hc (sP F (n + 1) i) (sP_nn F (n + 1) i) (by omega)
      obtain ⟨t, ht, e⟩ := hgt_in S n (sP F (n + 1) i) i
      have la := line_above (n := n + 1) h1 i (by omega) t (by omega)
      rw [hS t ht] at e
      have q : c ≤ hgt S n (sP F (n + 1) i) i := q
      omega
    omega
section
variable {K : PySem.W.Frag} {κ : Cls} {mg : Str → Option Value}
def forS : SS K κ := (sFor (iR1 (eAdd (eTop1 (eV 0)) (eInt 1))) (gN 4) (bdS))
def bdO : SS K κ := (sSeq (sAsg 3 (eNon)) (sSeq (forS) (sSeq (sApp K rfl 1 (eV 3)) (sNil))))
theorem rngM_of {Z : D} {M : Int} {s1 s2 s3 s4 s5 s6 : Option Pv.W} (tp : (eTop1 (K := K) (κ := κ) (eV 0)).ev [some (.d Z), s1, s2, s3, s4, s5, s6] = .ok (.d (.int M)) [some (.d Z), s1, s2, s3, s4, s5, s6]) (h : 0 ≤ M ∧ M < 1000000) : (iR1 (K := K) (κ := κ) (eAdd (eTop1 (eV 0)) (eInt 1))).ev [some (.d Z), s1, s2, s3, s4, s5, s6] = .ok (nums 0 (M + 1).toNat) [some (.d Z), s1, s2, s3, s4, s5, s6] := by
  have m5 : -(2 ^ 62) ≤ M + 1 ∧ M + 1 < 2 ^ 62 := by omega
  generalize eTop1 (K := K) (κ := κ) (eV 0) = E at tp ⊢
  simp? [tp, if_pos m5]
theorem out_app (Z : D) (A : List D) (i x : D) (lm : A.length < 1000000) (s4 s5 : Option Pv.W) : (sSeq (sApp K (κ := κ) rfl 1 (eV 3)) (sNil)).sv [some (.d Z), some (.ml A), some (.d i), some (.d x), s4, s5, none] = .ok .nx [some (.d Z), some (.ml (A ++ [x])), some (.d i), some (.d x), s4, s5, none] := by
  simp? [if_pos lm]
theorem lines_step (S : List Int) (F : Nat → Int) (n : Nat) (hn : S.length = n + 1) (hl : n ≤ 800) (hS : ∀ t, t ≤ n → at_ S t = F (t + 1)) (h1 : F 1 = 0) {M : Int} (hM : 0 ≤ M ∧ M < 1000000) (hF : ∀ b : Nat, 1 ≤ b → b ≤ n + 1 → F b ≤ M) (tp : ∀ ρ, (eTop1 (K := K) (κ := κ) (eV 0)).ev (some (.d (.lst (S.map .int))) :: ρ) = .ok (.d (.int M)) (some (.d (.lst (S.map .int))) :: ρ)) (i : Nat) (hi : i ≤ n) (A : List D) (lm : A.length < 1000000) (s3 s4 s5 : Option Pv.W) :
    ∃ u4 u5, (bdO (K := K) (κ := κ)).sv [some (.d (.lst (S.map .int))), some (.ml A), some (.d (.int i)), s3, s4, s5, none] = .ok .nx [some (.d (.lst (S.map .int))), some (.ml (A ++ [.int (hP F (n + 1) i)])), some (.d (.int i)), some (.d (.int (hP F (n + 1) i))), u4, u5, none] := by
  have tn : (((M + 1).toNat : Nat) : Int) = M + 1 := by omega
  obtain ⟨b', u4, u5, hb, e⟩ := slope_loop (K := K) (κ := κ) S n hn hl i (some (.ml A)) (M + 1).toNat 0 (Int.le_refl 0) (by omega) none s4 s5 (.inl ⟨rfl, Int.le_refl 0⟩)
  rw [tn] at hb
  have eb := best_is hS h1 hM.1 hF hi hb
  subst eb
  have f : (forS (K := K) (κ := κ)).sv [some (.d (.lst (S.map .int))), some (.ml A), some (.d (.int i)), some (.d .non), s4, s5, none] = _ := for_of (xs := nums 0 (M + 1).toNat) (rngM_of (tp _) hM) e
  refine ⟨u4, u5, ?_⟩
  unfold bdO
  refine seq_nx (ρ' := [some (.d (.lst (S.map .int))), some (.ml A), some (.d (.int i)), some (.d .non), s4, s5, none]) rfl ?_
  refine seq_nx f ?_
  exact out_app _ A _ (.int (hP F (n + 1) i)) lm u4 u5
theorem lines_loop (S : List Int) (F : Nat → Int) (n : Nat) (hn : S.length = n + 1) (hl : n ≤ 800) (hS : ∀ t, t ≤ n → at_ S t = F (t + 1)) (h1 : F 1 = 0) {M : Int} (hM : 0 ≤ M ∧ M < 1000000) (hF : ∀ b : Nat, 1 ≤ b → b ≤ n + 1 → F b ≤ M) (tp : ∀ ρ, (eTop1 (K := K) (κ := κ) (eV 0)).ev (some (.d (.lst (S.map .int))) :: ρ) = .ok (.d (.int M)) (some (.d (.lst (S.map .int))) :: ρ)) :
    ∀ (m i : Nat), i + m = n + 1 → ∀ (A : List D) (s2 s3 s4 s5 : Option Pv.W), A.length = i → ∃ u2 u3 u4 u5, loopS (gN (K := K) (κ := κ) 2).put (bdO (K := K) (κ := κ)).sv (nums i m) [some (.d (.lst (S.map .int))), some (.ml A), s2, s3, s4, s5, none] = .ok .nx [some (.d (.lst (S.map .int))), some (.ml (A ++ (List.range m).map fun j => .int (hP F (n + 1) (i + j)))), u2, u3, u4, u5, none]
  | 0, i, e, A, s2, s3, s4, s5, hA => ⟨s2, s3, s4, s5, by simp [nums, loopS]⟩
  | m + 1, i, e, A, s2, s3, s4, s5, hA => by
    obtain ⟨v4, v5, e1⟩ := lines_step (K := K) (κ := κ) S F n hn hl hS h1 hM hF tp i (by omega) A (by omega) s3 s4 s5
    obtain ⟨u2, u3, u4, u5, e2⟩ := lines_loop S F n hn hl hS h1 hM hF tp m (i + 1) (by omega) (A ++ [.int (hP F (n + 1) i)]) (some (.d (.int i))) (some (.d (.int (hP F (n + 1) i)))) v4 v5 (by simp; omega)
    refine ⟨u2, u3, u4, u5, ?_⟩
    have ea : A ++ [D.int (hP F (n + 1) i)] ++ (List.range m).map (fun j => D.int (hP F (n + 1) (i + 1 + j))) = A ++ (List.range (m + 1)).map fun j => D.int (hP F (n + 1) (i + j)) := by
      rw [List.range_succ_eq_map, List.map_cons, List.map_map, List.append_assoc]
      have q : (List.range m).map (fun j => D.int (hP F (n + 1) (i + 1 + j))) = (List.range m).map ((fun j => D.int (hP F (n + 1) (i + j))) ∘ Nat.succ) := List.map_congr_left fun j _ => by
        simp only [Function.comp]
        rw [show i + 1 + j = i + Nat.succ j by omega]
      rw [q]
      rfl
    rw [ea] at e2
    rw [nums_succ, show (i : Int) + 1 = ((i + 1 : Nat) : Int) by omega]
    generalize A ++ (List.range (m + 1)).map (fun j => D.int (hP F (n + 1) (i + j))) = A2 at e2 ⊢
    generalize nums ((i + 1 : Nat) : Int) m = R' at e2 ⊢
    generalize (bdO (K := K) (κ := κ)).sv = B at e1 e2 ⊢
    generalize D.lst (S.map .int) = Z at e1 e2 ⊢
    generalize hP F (n + 1) i = hh at e1 e2
    generalize A ++ [D.int hh] = A3 at e1 e2
    exact (loop_nx (ρ1 := [some (.d Z), some (.ml A), some (.d (.int i)), s3, s4, s5, none]) rfl e1).trans e2
theorem v_lines (T : Tx K κ mg) (S : List Int) (F : Nat → Int) (n : Nat) (hn : S.length = n + 1) (hl : n ≤ 800) (hS : ∀ t, t ≤ n → at_ S t = F (t + 1)) (h1 : F 1 = 0) (hF : ∀ b : Nat, 1 ≤ b → b ≤ n + 1 → F b ≤ 100000) :
    f_l_lines T [.d (.lst (S.map .int))] = .ok (.d (.lst (((List.range (n + 1)).map fun j => hP F (n + 1) j).map .int))) [.d (.lst (S.map .int))] := by
  obtain ⟨s0, ss, es⟩ : ∃ s0 ss, S = s0 :: ss := by
    cases S with
    | nil => simp at hn
    | cons a b => exact ⟨a, b, rfl⟩
  have a0 : ∀ t, t ≤ n → at_ S t ∈ S := fun t ht => by
    unfold at_
    rw [List.getD_eq_getElem?_getD, List.getElem?_eq_getElem (by omega)]
    exact List.getElem_mem _
  have mem : ∀ x ∈ S, ∃ t, t ≤ n ∧ x = at_ S t := fun x hx => by
    obtain ⟨t, ht, e⟩ := List.getElem_of_mem hx
    refine ⟨t, by omega, ?_⟩
    unfold at_
    rw [List.getD_eq_getElem?_getD, List.getElem?_eq_getElem ht, ← e]
    rfl
  obtain ⟨M, hMd⟩ : ∃ M, M = mxL s0 ss := ⟨_, rfl⟩
  have ge := mxL_ge ss s0
  have geS : ∀ x ∈ S, x ≤ M := fun x hx => by
    rw [es] at hx
    rcases List.mem_cons.mp hx with rfl | hx
    · rw [hMd]; exact ge.1
    · rw [hMd]; exact ge.2 x hx
  have hF2 : ∀ b : Nat, 1 ≤ b → b ≤ n + 1 → F b ≤ M := fun b b1 b2 => by
    have := geS _ (a0 (b - 1) (by omega))
    rw [hS (b - 1) (by omega), show b - 1 + 1 = b by omega] at this
    exact this
  have M0 : 0 ≤ M := by have := hF2 1 (by omega) (by omega); omega
  have M1 : M < 1000000 := by
    have mi : M ∈ S := by
      rw [es, hMd]
      rcases P27.mxL_in ss s0 with e | e
      · rw [e]; simp
      · exact List.mem_cons_of_mem _ e
    obtain ⟨t, ht, e⟩ := mem M mi
    have := hF (t + 1) (by omega) (by omega)
    rw [e, hS t ht]
    omega
  have tp : ∀ ρ, (eTop1 (K := K) (κ := κ) (eV 0)).ev (some (.d (.lst (S.map .int))) :: ρ) = .ok (.d (.int M)) (some (.d (.lst (S.map .int))) :: ρ) := fun ρ => by
    rw [es, hMd, ← topI_mxL]
    exact top1_of rfl
  obtain ⟨u2, u3, u4, u5, e⟩ := lines_loop (K := K) (κ := κ) S F n hn hl hS h1 ⟨M0, M1⟩ hF2 tp (n + 1) 0 (by omega) [] none none none none rfl
  have gl : gLen [.lst (S.map .int)] = some (.int ((n + 1 : Nat) : Int)) := by
    show some (D.int ((S.map D.int).length : Nat)) = _
    rw [List.length_map, hn]
  have it := rng0_of (K := K) (κ := κ) (s1 := some (.ml [])) (s2 := none) (s3 := none) (s4 := none) (s5 := none) (s6 := none) gl (by omega) rfl
  rw [Int.toNat_natCast] at it
  have f : (sFor (iR1 (eLen (aCons (eV 0) (aNil)))) (gN 2) (bdO (K := K) (κ := κ))).sv [some (.d (.lst (S.map .int))), some (.ml []), none, none, none, none, none] = _ := for_of (xs := nums 0 (n + 1)) it e
  have eq : (List.range (n + 1)).map (fun j => D.int (hP F (n + 1) (0 + j))) = ((List.range (n + 1)).map fun j => hP F (n + 1) j).map D.int := by
    rw [List.map_map]
    refine List.map_congr_left fun j _ => ?_
    rw [Nat.zero_add]
    rfl
  rw [List.nil_append, eq] at f
  have b : b_l_lines T = sSeq (sAsg 1 (eLstM (aNil))) (sSeq (sFor (iR1 (eLen (aCons (eV 0) (aNil)))) (gN 2) (bdO)) (sSeq (sRet (eV 1)) (sNil))) := rfl
  refine fn_rt (ρ := [some (.d (.lst (S.map .int))), some (.d (.lst (((List.range (n + 1)).map fun j => hP F (n + 1) j).map .int))), u2, u3, u4, u5, none]) ?_ rfl
  rw [b]
  generalize ((List.range (n + 1)).map fun j => hP F (n + 1) j).map D.int = A at f ⊢
  generalize D.lst (S.map .int) = Z at f ⊢
  refine seq_nx (ρ' := [some (.d Z), some (.ml []), none, none, none, none, none]) (by simp? []) ?_
  refine seq_nx f ?_
  exact seq_ret (by simp? [])
end
end K33
set_option maxRecDepth 100000
set_option maxHeartbeats 4000000
namespace K33
open PySem PySem.Spec PyProof.Rows L2 Pv P25 P66 P46 P27 P50 P54 P55 P57 P59
theorem zip_tail (h : Nat → Int) (n : Nat) : ((List.range (n + 1)).map h).zip ((List.range n).map fun j => h (j + 1)) = (List.range n).map fun j => (h j, h (j + 1)) := by
  apply List.ext_getElem
  · simp
  · intro i h1 h2
    simp
section
variable {K : PySem.W.Frag} {κ : Cls} {mg : Str → Option Value}
def diffE : SE K κ := (eSub (eV 8) (eV 7))
def lcDiff : SE K κ := (eLc (iZipLU (eV 2) (eSlL (eV 2) (o1 (eInt 1)) (o0))) (gT 2 (gs1 (gN 7) (gs1 (gN 8) (gs0)))) (tYes') (diffE) [7, 8] (fun _ h => h))
theorem diff_ev (h : Nat → Int) (n : Nat) (hl : n ≤ 800) (s0 s1 s3 s4 s5 s6 : Option Pv.W) : (lcDiff (K := K) (κ := κ)).ev [s0, s1, some (.d (.lst (((List.range (n + 1)).map h).map .int))), s3, s4, s5, s6, none, none] = .ok (.d (.lst (((List.range n).map fun j => h (j + 1) - h j).map .int))) [s0, s1, some (.d (.lst (((List.range (n + 1)).map h).map .int))), s3, s4, s5, s6, none, none] := by
  obtain ⟨L, hL⟩ : ∃ L, L = (List.range (n + 1)).map h := ⟨_, rfl⟩
  obtain ⟨X, hX⟩ : ∃ X, X = (List.range n).map fun j => h (j + 1) := ⟨_, rfl⟩
  have eL : L = h 0 :: X := by
    rw [hL, hX, List.range_succ_eq_map, List.map_cons, List.map_map]
    rfl
  have zp : L.zip X = (List.range n).map fun j => (h j, h (j + 1)) := by rw [hL, hX]; exact zip_tail h n
  rw [← hL]
  have zl : ((L.map D.int).zip (X.map D.int)).map Pv.pairD = (L.zip X).map fun p => D.tupW [.int p.1, .int p.2] := by
    rw [List.zip_map, List.map_map]
    rfl
  have cu : Pv.cutD (L.map D.int) (some 1) none = X.map D.int := by
    rw [eL]
    exact (cutT_from ((h 0 :: X).map D.int) 1 (by simp)).trans rfl
  have lz : (L.zip X).length ≤ 900 := by rw [zp]; simp; omega
  have l := loopC_map (vs := [7, 8]) (put := (gT 2 (gs1 (gN (K := K) (κ := κ) 7) (gs1 (gN 8) (gs0)))).put) (t := (tYes' (K := K) (κ := κ)).ev) (e := (diffE (K := K) (κ := κ)).ev) (ρ0 := [s0, s1, some (.d (.lst (L.map .int))), s3, s4, s5, s6, none, none])
    (fun p : Int × Int => .tupW [.int p.1, .int p.2]) (fun p => some (.int (p.2 - p.1))) (L.zip X) [] (fun p hp => ⟨[s0, s1, some (.d (.lst (L.map .int))), s3, s4, s5, s6, some (.d (.int p.1)), some (.d (.int p.2))], [s0, s1, some (.d (.lst (L.map .int))), s3, s4, s5, s6, some (.d (.int p.1)), some (.d (.int p.2))], rfl, [s0, s1, some (.d (.lst (L.map .int))), s3, s4, s5, s6, some (.d (.int p.1)), some (.d (.int p.2))], rfl, by
      generalize D.lst (L.map .int) = Z
      unfold diffE
      simp? [], rfl⟩) (by simp; simp at lz; omega)
  rw [List.nil_append, fm_some fun p : Int × Int => D.int (p.2 - p.1)] at l
  have er : (L.zip X).map (fun p => D.int (p.2 - p.1)) = ((List.range n).map fun j => h (j + 1) - h j).map .int := by
    rw [zp, List.map_map, List.map_map]
    rfl
  rw [er] at l
  refine lc_of (vs := [7, 8]) (g := gT 2 (gs1 (gN 7) (gs1 (gN 8) (gs0)))) (t := tYes') (e := diffE) (hv := fun _ h => h) (xs := (L.zip X).map fun p => .tupW [.int p.1, .int p.2]) (ρi := [s0, s1, some (.d (.lst (L.map .int))), s3, s4, s5, s6, none, none]) (by
      rw [← zl]
      generalize L.map D.int = M at cu ⊢
      rw [iZipLU_ev]
      simp? [eSlL_ev, cu]) rfl l rfl
def bdD : SS K κ := (sSeq (sIf (tV' (eGt (eIxL (eV 3) (eV 5)) (eIxL (eV 3) (eAdd (eV 5) (eInt 1))))) (sSeq (sApp K rfl 4 (eTup (aCons (eAdd (eV 5) (eInt 1)) (aCons (eSub (eIxL (eV 3) (eV 5)) (eIxL (eV 3) (eAdd (eV 5) (eInt 1)))) (aNil)))))
    (sNil)) (sNil))
    (sNil))
theorem due_step {Z : D} {k a b : Int} {A : List D} (gx : gIxL Z (.int k) = some (.int a)) (gy : gIxL Z (.int (k + 1)) = some (.int b)) (lm : A.length < 1000000) (s0 s1 s2 s6 s7 s8 : Option Pv.W) : (bdD (K := K) (κ := κ)).sv [s0, s1, s2, some (.d Z), some (.ml A), some (.d (.int k)), s6, s7, s8] = .ok .nx [s0, s1, s2, some (.d Z), some (.ml (if b < a then A ++ [.tup [.int (k + 1), .int (a - b)]] else A)), some (.d (.int k)), s6, s7, s8] := by
  unfold bdD
  refine seq_nx ?_ rfl
  by_cases c : b < a
  · rw [if_pos c]
    simp? [gx, gy, decide_eq_true c, if_pos lm]
  · rw [if_neg c]
    simp? [gx, gy, decide_eq_false c]
theorem due_loop (F : Nat → Int) (n N : Nat) (St : List Int) (hl : St.length = n + 1) (h8 : n ≤ 800) (hS : ∀ j, j ≤ n → at_ St j = sP F N j) (s0 s1 s2 s6 s7 s8 : Option Pv.W) : ∀ (m k : Nat), k + m = n → ∀ s5, ∃ u5, loopS (gN (K := K) (κ := κ) 5).put (bdD (K := K) (κ := κ)).sv (nums k m) [s0, s1, s2, some (.d (.lst (St.map .int))), some (.ml ((lotsTo F N k).map pr)), s5, s6, s7, s8] = .ok .nx [s0, s1, s2, some (.d (.lst (St.map .int))), some (.ml ((lotsTo F N n).map pr)), u5, s6, s7, s8]
  | 0, k, e, s5 => by
    have : k = n := by omega
    subst this
    exact ⟨s5, rfl⟩
  | m + 1, k, e, s5 => by
    have gx := G.ix_nat St k (by omega)
    have gy := G.ix_nat St (k + 1) (by omega)
    rw [hS k (by omega)] at gx
    rw [hS (k + 1) (by omega), show ((k + 1 : Nat) : Int) = (k : Int) + 1 by omega] at gy
    have ll := lotsTo_len F N k
    have e1 := due_step (K := K) (κ := κ) (A := (lotsTo F N k).map pr) gx gy (by rw [List.length_map]; omega) s0 s1 s2 s6 s7 s8
    have ea : (if sP F N (k + 1) < sP F N k then (lotsTo F N k).map pr ++ [.tup [.int ((k : Int) + 1), .int (sP F N k - sP F N (k + 1))]] else (lotsTo F N k).map pr) = (lotsTo F N (k + 1)).map pr := by
      rw [lotsTo_succ]
      by_cases c : sP F N (k + 1) < sP F N k
      · rw [if_pos c, if_pos c, List.map_append]
        rfl
      · rw [if_neg c, if_neg c, List.append_nil]
    rw [ea] at e1
    obtain ⟨u5, e2⟩ := due_loop F n N St hl h8 hS s0 s1 s2 s6 s7 s8 m (k + 1) (by omega) (some (.d (.int k)))
    refine ⟨u5, ?_⟩
    rw [nums_succ, show (k : Int) + 1 = ((k + 1 : Nat) : Int) by omega]
    generalize nums ((k + 1 : Nat) : Int) m = R' at e2 ⊢
    generalize (bdD (K := K) (κ := κ)).sv = B at e1 e2 ⊢
    generalize D.lst (St.map .int) = Z at e1 e2 ⊢
    generalize (lotsTo F N (k + 1)).map pr = A3 at e1 e2
    generalize (lotsTo F N k).map pr = A2 at e1 ⊢
    exact (loop_nx (ρ1 := [s0, s1, s2, some (.d Z), some (.ml A2), some (.d (.int k)), s6, s7, s8]) rfl e1).trans e2
def topE (T : Tx K κ mg) : SE K κ := (eCall 2 (f_l_top T 7) (aCons (eV 0) (aCons (eV 6) (aNil))))
def lcTops (T : Tx K κ mg) : SE K κ := (eLc (iR2 (eInt 1) (eAdd (eCall 1 (f_l_high T 7) (aCons (eV 0) (aNil))) (eInt 2))) (gN 6) (tYes') (topE T) [6] (fun _ h => h))
theorem rngG_of (T : Tx K κ mg) {d : D} {g : Int} {m : Nat} (vg : f_l_high T 7 [.d d] = .ok (.d (.int g)) [.d d]) (h : 0 ≤ g ∧ g ≤ 100000) (hm : m = (g + 1).toNat) (s1 s2 s3 s4 s5 s6 s7 s8 : Option Pv.W) : (iR2 (K := K) (κ := κ) (eInt 1) (eAdd (eCall 1 (f_l_high T 7) (aCons (eV 0) (aNil))) (eInt 2))).ev [some (.d d), s1, s2, s3, s4, s5, s6, s7, s8] = .ok (nums 1 m) [some (.d d), s1, s2, s3, s4, s5, s6, s7, s8] := by
  have m5 : -(2 ^ 62) ≤ (1 : Int) ∧ (1 : Int) < 2 ^ 62 ∧ -(2 ^ 62) ≤ g + 2 ∧ g + 2 < 2 ^ 62 := by omega
  have tn : (g + 2 - 1).toNat = m := by omega
  generalize f_l_high T 7 = f at vg ⊢
  simp? [vg, if_pos m5, tn]
theorem tops_ev (T : Tx K κ mg) {n : Nat} {d : D} {B : Beh} {xs : List Str} (h : Rt n d B xs) (hn : n ≤ 7) {g : Int} (hg : 0 ≤ g ∧ g ≤ 200) {m : Nat} (hm : m = (g + 1).toNat) (vg : f_l_high T 7 [.d d] = .ok (.d (.int g)) [.d d]) (s1 s2 s3 s4 s5 s7 s8 : Option Pv.W) :
    (lcTops T).ev [some (.d d), s1, s2, s3, s4, s5, none, s7, s8] = .ok (.d (.lst (((List.range m).map fun i : Nat => B.top (some (1 + (i : Int)))).map .int))) [some (.d d), s1, s2, s3, s4, s5, none, s7, s8] := by
  have it := rngG_of T vg (by omega) hm s1 s2 s3 s4 s5 none s7 s8
  have l := loopC_map (vs := [6]) (put := (gN (K := K) (κ := κ) 6).put) (t := (tYes' (K := K) (κ := κ)).ev) (e := (topE T).ev) (ρ0 := [some (.d d), s1, s2, s3, s4, s5, none, s7, s8])
    (fun i : Nat => D.int (1 + (i : Int))) (fun i : Nat => some (.int (B.top (some (1 + (i : Int)))))) (List.range m) [] (fun i hi => by
      have v := G.v_top T n d B (by omega) (rt_rgt h) 7 hn (some (1 + (i : Int))) (fun w e => by cases e; omega)
      have v : f_l_top T 7 [.d d, .d (.int (1 + (i : Int)))] = .ok (.d (.int (B.top (some (1 + (i : Int)))))) [.d d, .d (.int (1 + (i : Int)))] := v
      refine ⟨[some (.d d), s1, s2, s3, s4, s5, some (.d (.int (1 + (i : Int)))), s7, s8], [some (.d d), s1, s2, s3, s4, s5, some (.d (.int (1 + (i : Int)))), s7, s8], rfl, [some (.d d), s1, s2, s3, s4, s5, some (.d (.int (1 + (i : Int)))), s7, s8], rfl, ?_, rfl⟩
      unfold topE
      generalize f_l_top T 7 = f at v ⊢
      generalize (1 + (i : Int)) = z at v ⊢
      simp? [v]) (by simp; omega)
  rw [List.nil_append, fm_some fun i : Nat => D.int (B.top (some (1 + (i : Int))))] at l
  rw [List.map_map]
  exact lc_of (vs := [6]) (g := gN 6) (t := tYes') (e := topE T) (hv := fun _ h => h) it rfl l rfl
end
end K33
set_option maxRecDepth 100000
set_option maxHeartbeats 4000000
namespace K33
open PySem PySem.Spec PyProof.Rows L2 Pv P25 P66 P46 P27 P50 P54 P55 P57
section
variable {K : PySem.W.Frag} {κ : Cls} {mg : Str → Option Value}
theorem v_sumsG (T : Tx K κ mg) {n : Nat} {d : D} {B : Beh} {xs : List Str} (h : Rt n d B xs) (hx : xs.length ≤ 9) (hn : n ≤ 7) {g : Int} (hg : 0 ≤ g ∧ g ≤ 200) (vg : f_greatest_call T 7 [.d d] = .ok (.d (.int g)) [.d d]) : f_sums_below T [.d d] = .ok (.d (.lst ((sumsB B g).map .int))) [.d d] := by
  obtain ⟨k, hk⟩ : ∃ k : Nat, k = (g + 1).toNat := ⟨_, rfl⟩
  have l := loopC_map (vs := [1]) (put := (gN (K := K) (κ := κ) 1).put) (t := (tYes' (K := K) (κ := κ)).ev) (e := (eCall (K := K) (κ := κ) 3 (f_greatest_sum T (f__sum_of_all_calls T 7)) (aCons (eV 0) (aCons (eV 1) (aCons (eNon) (aNil))))).ev) (ρ0 := [some (.d d), none])
    (fun i : Nat => D.int (1 + (i : Int))) (fun i : Nat => some (.int (B.top (some (1 + (i : Int)))))) (List.range k) [] (fun i hi => by
      have hi := List.mem_range.mp hi
      have v := greatest_none T (f__sum_of_all_calls T 7) d (.int (1 + (i : Int))) _ (v_sum T n d B xs h hx hn 7 hn (some (1 + (i : Int))) (fun w e => by cases e; omega))
      exact ⟨[some (.d d), some (.d (.int (1 + (i : Int))))], [some (.d d), some (.d (.int (1 + (i : Int))))], rfl, [some (.d d), some (.d (.int (1 + (i : Int))))], rfl, by simp? [v], rfl⟩) (by simp; omega)
  rw [List.nil_append, fm_some (fun i : Nat => D.int (B.top (some (1 + (i : Int)))))] at l
  have lc : (lcSums T).ev [some (.d d), none] = .ok (.d (.lst ((List.range k).map fun i : Nat => .int (B.top (some (1 + (i : Int))))))) [some (.d d), none] :=
    lc_of (vs := [1]) (it := iR2 (eInt 1) (eAdd (eCall 1 (f_greatest_call T 7) (aCons (eV 0) (aNil))) (eInt 2))) (g := gN 1) (t := tYes') (e := eCall 3 (f_greatest_sum T (f__sum_of_all_calls T 7)) (aCons (eV 0) (aCons (eV 1) (aCons (eNon) (aNil))))) (hv := fun _ h => h) (ρi := [some (.d d), none]) (xs := nums 1 k) (by
      have m5 : (-(2 ^ 62 : Int) ≤ 1 ∧ (1 : Int) < 2 ^ 62) ∧ -(2 ^ 62) ≤ g + 2 ∧ g + 2 < 2 ^ 62 := ⟨by decide, by omega, by omega⟩
      have tn : (g + 2 - 1).toNat = k := by omega
      simp? [vg]
      rw [tn]
      first | exact if_pos ⟨by decide, by decide, by omega, by omega⟩ | exact if_pos m5 | exact if_pos ⟨by omega, by omega⟩) rfl l rfl
  have gc : gCatL (.lst [.int 0]) (.lst ((List.range k).map fun i : Nat => .int (B.top (some (1 + (i : Int)))))) = some (.lst ((sumsB B g).map .int)) := by
    have e : (sumsB B g).map D.int = [.int 0] ++ (List.range k).map fun i : Nat => .int (B.top (some (1 + (i : Int)))) := by
      unfold sumsB
      rw [List.map_cons, List.map_map, hk]
      rfl
    rw [e]
    exact if_pos (by simp; omega)
  have b : b_sums_below T = sSeq (sRet (eCatL (eLst (aCons (eInt 0) (aNil))) (lcSums T))) (sNil) := rfl
  refine fn_rt (ρ := [some (.d d), none]) ?_ rfl
  rw [b]
  exact seq_ret (by unfold eCatL; simp? [lc, gc])
end
end K33
set_option maxRecDepth 100000
set_option maxHeartbeats 4000000
namespace K33
open PySem PySem.Spec PyProof.Rows L2 Pv P25 P66 P46 P27 P50 P54 P55 P57 P59
theorem at_map (f : Nat → Int) {m t : Nat} (h : t < m) : at_ ((List.range m).map f) t = f t := by
  unfold at_
  simp [List.getD_eq_getElem?_getD, h]
/-- the sums of a right, from bound 1 on -/
def sumF (B : Beh) (g : Int) : Nat → Int := at_ (sumsB B g)
theorem sumF_at (B : Beh) (g : Int) {t : Nat} (h : t < (g + 1).toNat) : sumF B g (t + 1) = B.top (some (1 + (t : Int))) := by
  have : at_ (sumsB B g) (t + 1) = at_ ((List.range (g + 1).toNat).map fun i : Nat => B.top (some (1 + (i : Int)))) t := rfl
  unfold sumF
  rw [this, at_map _ h]
section
variable {K : PySem.W.Frag} {κ : Cls} {mg : Str → Option Value}
theorem due_asm (T : Tx K κ mg) (d : D) (S1 S2 S3 : D) (A : List D) (P : D) (q : Int) (m : Nat) (u5 : Option Pv.W) (t1 : (lcTops T).ev [some (.d d), none, none, none, none, none, none, none, none] = .ok (.d S1) [some (.d d), none, none, none, none, none, none, none, none])
    (ln : f_l_lines T [.d S1] = .ok (.d S2) [.d S1]) (ct : (eCatL (K := K) (κ := κ) lcDiff (eLst (aCons (eInt 0) (aNil)))).ev [some (.d d), some (.d S1), some (.d S2), none, none, none, none, none, none] = .ok (.d S3) [some (.d d), some (.d S1), some (.d S2), none, none, none, none, none, none])
    (gl : gLen [S3] = some (.int q)) (hq : 1 ≤ q ∧ q ≤ 1000) (hm : (q - 1).toNat = m) (lp : loopS (gN (K := K) (κ := κ) 5).put (bdD (K := K) (κ := κ)).sv (nums 0 m) [some (.d d), some (.d S1), some (.d S2), some (.d S3), some (.ml []), none, none, none, none] = .ok .nx [some (.d d), some (.d S1), some (.d S2), some (.d S3), some (.ml A), u5, none, none, none])
    (tp : gTupOf [.lst A.reverse] = some P) : f_l_due T [.d d] = .ok (.d P) [.d d] := by
  have b : b_l_due T = sSeq (sAsg 1 (lcTops T)) (sSeq (sAsg 2 (eCall 1 (f_l_lines T) (aCons (eV 1) (aNil)))) (sSeq (sAsg 3 (eCatL lcDiff (eLst (aCons (eInt 0) (aNil)))))
    (sSeq (sAsg 4 (eLstM (aNil))) (sSeq (sFor (iR1 (eSub (eLen (aCons (eV 3) (aNil))) (eInt 1))) (gN 5) (bdD)) (sSeq (sRet (eTupOf (aCons (eRevL (eV 4)) (aNil)))) (sNil)))))) := rfl
  refine fn_rt (ρ := [some (.d d), some (.d S1), some (.d S2), some (.d S3), some (.d (.lst A)), u5, none, none, none]) ?_ rfl
  rw [b]
  refine seq_nx (asg_of t1 (by show 1 < 9; decide)) ?_
  refine seq_nx (ρ' := [some (.d d), some (.d S1), some (.d S2), none, none, none, none, none, none]) ?_ ?_
  · generalize f_l_lines T = f at ln ⊢
    simp? [ln]
  refine seq_nx (asg_of ct (by show 3 < 9; decide)) ?_
  refine seq_nx (ρ' := [some (.d d), some (.d S1), some (.d S2), some (.d S3), some (.ml []), none, none, none, none]) (by simp? []) ?_
  refine seq_nx (for_of (xs := nums 0 m) (r1_of (sub_of (len_of rfl gl) rfl) (by omega) hm) lp) ?_
  exact seq_ret (by simp? [eRevL_ev, tp])
theorem v_due (T : Tx K κ mg) {n : Nat} {d : D} {B : Beh} {xs : List Str} (h : Rt n d B xs) (hn : n ≤ 7) {g : Int} (hg : 0 ≤ g ∧ g ≤ 200) (vg : f_l_high T 7 [.d d] = .ok (.d (.int g)) [.d d]) (hB : B.top none ≤ 100000) (hb0 : 0 ≤ B.top (some 1)) :
    f_l_due T [.d d] = .ok (.d (pl (lots (sumF B g) (g.toNat + 1)).reverse)) [.d d] := by
  have mon := P56.mon_of (rt_rgt h) (top_one n d B (rt_rgt h))
  obtain ⟨N, hN⟩ : ∃ N, N = g.toNat := ⟨_, rfl⟩
  have en : (g + 1).toNat = N + 1 := by omega
  have t1 := tops_ev T h hn hg (m := N + 1) en.symm vg none none none none none none none
  have F1 : sumF B g 1 = 0 := by
    have := sumF_at B g (t := 0) (by omega)
    rw [Nat.zero_add] at this
    have o := mon.one
    rw [this, show (1 : Int) + ((0 : Nat) : Int) = 1 by omega]
    omega
  have ln := v_lines T ((List.range (N + 1)).map fun i : Nat => B.top (some (1 + (i : Int)))) (sumF B g) N (by simp) (by omega) (fun t ht => by
    rw [at_map _ (by omega), sumF_at B g (by omega)]) F1 (fun b b1 b2 => by
    have := sumF_at B g (t := b - 1) (by omega)
    rw [show b - 1 + 1 = b by omega] at this
    rw [this]
    exact Int.le_trans (mon.none _ (by omega)) hB)
  have df := diff_ev (K := K) (κ := κ) (fun j => hP (sumF B g) (N + 1) j) N (by omega) (some (.d d)) (some (.d (.lst (((List.range (N + 1)).map fun i : Nat => B.top (some (1 + (i : Int)))).map .int)))) none none none none
  obtain ⟨St, hSt⟩ : ∃ St, St = (List.range (N + 1)).map fun j => sP (sumF B g) (N + 1) j := ⟨_, rfl⟩
  have eS : ((List.range N).map fun j => hP (sumF B g) (N + 1) (j + 1) - hP (sumF B g) (N + 1) j) ++ [0] = St := by
    rw [hSt, List.range_succ, List.map_append]
    have e1 : (List.range N).map (fun j => hP (sumF B g) (N + 1) (j + 1) - hP (sumF B g) (N + 1) j) = (List.range N).map fun j => sP (sumF B g) (N + 1) j := List.map_congr_left fun j _ => by
      have := hP_succ (sumF B g) (N + 1) j
      omega
    have e2 : [sP (sumF B g) (N + 1) N] = [0] := by rw [sP_last _ _ _ (Nat.le_refl _)]
    rw [e1, ← e2]
    rfl
  have lSt : St.length = N + 1 := by rw [hSt]; simp
  have ct := G.catL_of (K := K) (κ := κ) (b := eLst (aCons (eInt 0) (aNil))) (ys := [.int 0]) df rfl (by simp; omega)
  have eM : ((List.range N).map fun j => hP (sumF B g) (N + 1) (j + 1) - hP (sumF B g) (N + 1) j).map D.int ++ [.int 0] = St.map D.int := by
    rw [← eS, List.map_append]
    rfl
  rw [eM] at ct
  obtain ⟨u5, lp⟩ := due_loop (K := K) (κ := κ) (sumF B g) N (N + 1) St lSt (by omega) (fun j hj => by rw [hSt, at_map _ (by omega)]) (some (.d d)) (some (.d (.lst (((List.range (N + 1)).map fun i : Nat => B.top (some (1 + (i : Int)))).map .int)))) (some (.d (.lst (((List.range (N + 1)).map fun j => hP (sumF B g) (N + 1) j).map .int)))) none none none N 0 (by omega) none
  have eL : lotsTo (sumF B g) (N + 1) N = lots (sumF B g) (N + 1) := rfl
  have z0 : ((0 : Nat) : Int) = 0 := rfl
  have z1 : (lotsTo (sumF B g) (N + 1) 0).map pr = [] := rfl
  rw [eL, z0, z1] at lp
  have gl : gLen [.lst (St.map .int)] = some (.int ((N : Int) + 1)) := by
    show some (D.int ((St.map D.int).length : Nat)) = _
    rw [List.length_map, lSt]
    rfl
  have tp : gTupOf [.lst ((lots (sumF B g) (N + 1)).map pr).reverse] = some (pl (lots (sumF B g) (N + 1)).reverse) := by
    unfold pl
    rw [List.map_reverse]
    rfl
  rw [← hN]
  exact due_asm T d _ _ _ _ _ _ N u5 t1 ln ct gl (by omega) (by omega) lp tp
theorem v_cover (T : Tx K κ mg) {n : Nat} {d : D} {B : Beh} {xs : List Str} (h : Rt n d B xs) (hn : n ≤ 6) (nd : xs.Nodup) (hx : xs.length ≤ 9) (hs : B.top none ≤ 200) {g : Int} (hg : 0 ≤ g ∧ g ≤ 200) (vg : f_greatest_call T 7 [.d d] = .ok (.d (.int g)) [.d d]) :
    f_cover T [.d d] = .ok (.d (pl (lots (sumF B g) (g.toNat + 1)).reverse)) [.d d] := by
  have c1 := v_check_right T (rt_fm h) hn nd (by omega)
  have c2 := v_check_small T h hx (by omega) hs
  have c3 := v_sumsG T h hx (by omega) hg vg
  have ln : (sumsB B g).length = g.toNat + 2 := by
    unfold sumsB
    simp
    omega
  have e := v_cover_L T d (sumsB B g) (by omega) (by omega) c1 c2 c3
  rw [show (sumsB B g).length - 1 = g.toNat + 1 by omega] at e
  exact e
end
end K33
set_option maxRecDepth 100000
set_option maxHeartbeats 4000000
namespace K33
open PySem PySem.Spec PyProof.Rows L2 Pv P25 P66 P46 P27 P50 P54 P55 P57 P59
theorem nePl (ps : List (Int × Int)) : gNe (pl ps) (pl ps) = some (.bl false) := gNe_me (x := pl ps) (flats_pr ps)
theorem eqPl (ps : List (Int × Int)) : gEq (pl ps) (pl ps) = some (.bl true) := gEq_me (x := pl ps) (flats_pr ps)
section
variable {K : PySem.W.Frag} {κ : Cls} {mg : Str → Option Value}
def bdB : SS K κ := (sSeq (sIf (tOr' (tV (eIsTy "bool" (eV 3))) (tV (eIsTy "bool" (eV 4)))) (sSeq (sRet (eBl false)) (sNil)) (sNil)) (sNil))
theorem bool_loop (s0 s1 s2 : Option Pv.W) : ∀ (ps : List (Int × Int)) (s3 s4 : Option Pv.W), ∃ u3 u4, loopS (gT 2 (gs1 (gN (K := K) (κ := κ) 3) (gs1 (gN 4) (gs0)))).put (bdB (K := K) (κ := κ)).sv (ps.map pr) [s0, s1, s2, s3, s4] = .ok .nx [s0, s1, s2, u3, u4]
  | [], s3, s4 => ⟨s3, s4, rfl⟩
  | p :: ps, s3, s4 => by
    obtain ⟨u3, u4, e⟩ := bool_loop s0 s1 s2 ps (some (.d (.int p.1))) (some (.d (.int p.2)))
    have t1 : gTy "bool" (.int p.1) = some false := by kernel_rfl
    have t2 : gTy "bool" (.int p.2) = some false := by kernel_rfl
    refine ⟨u3, u4, (loop_nx (ρ1 := [s0, s1, s2, some (.d (.int p.1)), some (.d (.int p.2))]) rfl ?_).trans e⟩
    unfold bdB
    refine seq_nx ?_ rfl
    simp? [t1, t2]
theorem v_good (T : Tx K κ mg) {n : Nat} {d : D} {B : Beh} {xs : List Str} (h : Rt n d B xs) (hn : n ≤ 6) (nd : xs.Nodup) (hx : xs.length ≤ 9) (hs : B.top none ≤ 200) : f_l_good T [.d d] = .ok (.d (.bl true)) [.d d] := by
  obtain ⟨g, hg, ⟨vg, vh⟩, _⟩ := v_high T n d B xs h 7 (by omega)
  have t0 := (good n d B (rt_rgt h)).top0 (some 1) (fun w e => by cases e; omega)
  have c1 := v_due T h (by omega) hg vh (by omega) t0
  have c2 := v_cover T h hn nd hx hs hg vg
  generalize (lots (sumF B g) (g.toNat + 1)).reverse = ps at c1 c2
  obtain ⟨u3, u4, lp⟩ := bool_loop (K := K) (κ := κ) (some (.d d)) (some (.d (pl ps))) (some (.d (pl ps))) ps none none
  have ne := nePl ps
  have ty : gTy "tuple" (pl ps) = some true := by unfold pl; kernel_rfl
  have b : b_l_good T = sSeq (sAsg 1 (eCall 1 (f_l_due T) (aCons (eV 0) (aNil)))) (sSeq (sAsg 2 (eCall 1 (f_cover T) (aCons (eV 0) (aNil))))
    (sSeq (sIf (tOr' (tV' (eNe (eV 2) (eV 1))) (tOr' (tNot' (tV (eIsTy "tuple" (eV 2)))) (tV' (eNe (eCall 1 (f_cover T) (aCons (eV 0) (aNil))) (eV 1))))) (sSeq (sRet (eBl false)) (sNil)) (sNil))
    (sSeq (sFor (iT (eV 2)) (gT 2 (gs1 (gN 3) (gs1 (gN 4) (gs0)))) (bdB)) (sSeq (sRet (eBl true)) (sNil))))) := rfl
  have f : (sFor (iT (eV 2)) (gT 2 (gs1 (gN 3) (gs1 (gN 4) (gs0)))) (bdB (K := K) (κ := κ))).sv [some (.d d), some (.d (pl ps)), some (.d (pl ps)), none, none] = _ := for_of (xs := ps.map pr) rfl lp
  refine fn_rt (ρ := [some (.d d), some (.d (pl ps)), some (.d (pl ps)), u3, u4]) ?_ rfl
  rw [b]
  generalize f_l_due T = g1 at c1 ⊢
  generalize f_cover T = g2 at c2 ⊢
  generalize pl ps = P at c1 c2 ne ty f ⊢
  refine seq_nx (ρ' := [some (.d d), some (.d P), none, none, none]) (by simp? [c1]) ?_
  refine seq_nx (ρ' := [some (.d d), some (.d P), some (.d P), none, none]) (by simp? [c2]) ?_
  refine seq_nx (if_no (ρ1 := [some (.d d), some (.d P), some (.d P), none, none]) (by simp? [ne, ty, c2])) ?_
  exact seq_nx f (seq_ret rfl)
end
theorem fmap_congr {α β : Type} {f g : α → Option β} : ∀ (l : List α), (∀ x ∈ l, f x = g x) → l.filterMap f = l.filterMap g
  | [], _ => rfl
  | x :: l, h => by rw [List.filterMap_cons, List.filterMap_cons, h x (by simp), fmap_congr l fun y hy => h y (List.mem_cons_of_mem _ hy)]
end K33
set_option maxRecDepth 100000
set_option maxHeartbeats 4000000
namespace K33
open PySem PySem.Spec PyProof.Rows L2 Pv P25 P66 P46 P27 P50 P54 P55 P57 P59
def cD (x : Str) (a t : Int) : D := .tup [.str "call", .str x, .int a, .int t]
theorem rt_call {x : Str} {a t : Int} (hx : NameOk x ∧ PyData.strOk x = true) (ha : 1 ≤ a ∧ a ≤ 200) (ht : 1 ≤ t ∧ t ≤ 1000) : Rt 1 (cD x a t) (callB a t) [x] := .inr (.inl ⟨x, a, t, hx, ha, ht, rfl, rfl, rfl⟩)
theorem nmA : NameOk "a" ∧ PyData.strOk "a" = true := ⟨⟨by decide +kernel, by decide +kernel, by decide +kernel⟩, by decide +kernel⟩
theorem nmB : NameOk "b" ∧ PyData.strOk "b" = true := ⟨⟨by decide +kernel, by decide +kernel, by decide +kernel⟩, by decide +kernel⟩
theorem nmC : NameOk "c" ∧ PyData.strOk "c" = true := ⟨⟨by decide +kernel, by decide +kernel, by decide +kernel⟩, by decide +kernel⟩
def nD (d : D) : D := .tup [.str "calls", .int 9, d]
def callsD (k : Int) (d : D) : D := .tup [.str "calls", .int k, d]
theorem rt_calls {k : Int} {n : Nat} {d : D} {B : Beh} {xs : List Str} (hk : 1 ≤ k ∧ k ≤ 400) (h : Rt n d B xs) : Rt (n + 1) (callsD k d) (callsB k B) xs := .inr (.inr (.inr (.inl ⟨k, d, B, hk, h, rfl, rfl⟩)))
def oneD : D := .tup [.str "one", .tup [cD "a" 4 1, cD "b" 1 3]]
def allD : D := .tup [.str "all", .tup [cD "a" 5 2, cD "b" 9 1, cD "c" 5 1]]
def deepD : D := nD (nD (nD (nD (nD (cD "a" 2 1)))))
def withD : D := .tup [.str "within", .int 20, cD "a" 20 12]
def deepB : Beh := callsB 9 (callsB 9 (callsB 9 (callsB 9 (callsB 9 (callB 2 1)))))
theorem rt_one : Rt 2 oneD (oneB [callB 4 1, callB 1 3]) ["a", "b"] := .inr (.inr (.inr (.inr (.inr ⟨[(cD "a" 4 1, callB 4 1, ["a"]), (cD "b" 1 3, callB 1 3, ["b"])], by decide, fun p hp => by
  simp only [List.mem_cons, List.not_mem_nil, or_false] at hp
  rcases hp with rfl | rfl
  · exact rt_call nmA (by decide) (by decide)
  · exact rt_call nmB (by decide) (by decide), rfl, rfl, rfl⟩))))
theorem rt_all : Rt 2 allD (allB [callB 5 2, callB 9 1, callB 5 1]) ["a", "b", "c"] := .inr (.inr (.inr (.inr (.inl ⟨[(cD "a" 5 2, callB 5 2, ["a"]), (cD "b" 9 1, callB 9 1, ["b"]), (cD "c" 5 1, callB 5 1, ["c"])], by decide, fun p hp => by
  simp only [List.mem_cons, List.not_mem_nil, or_false] at hp
  rcases hp with rfl | rfl | rfl
  · exact rt_call nmA (by decide) (by decide)
  · exact rt_call nmB (by decide) (by decide)
  · exact rt_call nmC (by decide) (by decide), rfl, rfl, rfl⟩))))
theorem rt_deep : Rt 6 deepD deepB ["a"] := rt_calls (by decide) (rt_calls (by decide) (rt_calls (by decide) (rt_calls (by decide) (rt_calls (by decide) (rt_call nmA (by decide) (by decide))))))
theorem rt_with : Rt 2 withD (withinB 20 (callB 20 12)) ["a"] := .inr (.inr (.inl ⟨20, cD "a" 20 12, callB 20 12, by decide, rt_call nmA (by decide) (by decide), rfl, rfl⟩))
theorem rt_none : Rt 1 (.tup [.str "none"]) noneB [] := .inl ⟨rfl, rfl, rfl⟩
theorem call_sum {a t : Int} (ha : 1 ≤ a) {b : Nat} (h1 : 1 ≤ b) (h2 : (b : Int) ≤ a + 1) : sumF (callB a t) a b = t * ((b : Int) - 1) := by
  have := sumF_at (callB a t) a (t := b - 1) (by omega)
  rw [show b - 1 + 1 = b by omega] at this
  rw [this]
  show t * cutA (some (1 + ((b - 1 : Nat) : Int))) a = _
  show t * mn a (1 + ((b - 1 : Nat) : Int) - 1) = _
  congr 1
  unfold mn
  split <;> omega
theorem call_hP {a t : Int} (ha : 1 ≤ a) (ht : 1 ≤ t) : ∀ k : Nat, (k : Int) ≤ a → hP (sumF (callB a t) a) (a.toNat + 1) k = t * (k : Int)
  | 0, _ => by
    show (0 : Int) = t * ((0 : Nat) : Int)
    simp
  | k + 1, hk => by
    have ih := call_hP ha ht k (by omega)
    have e : need (sumF (callB a t) a) (a.toNat + 1) (k + 1) (t * (k : Int)) = t := by
      have lo := need_ok (sumF (callB a t) a) (a.toNat + 1) (k + 1) (t * (k : Int)) (b := k + 2) (by omega) (by omega)
      rw [call_sum ha (by omega) (by omega), show ((k + 2 : Nat) : Int) - (k + 1 : Nat) = 1 by omega, Int.mul_one, show ((k + 2 : Nat) : Int) - 1 = (k : Int) + 1 by omega, Int.mul_add, Int.mul_one] at lo
      have up := need_min (sumF (callB a t) a) (a.toNat + 1) (k + 1) (t * (k : Int)) (s := t) (by omega) fun b h1 h2 => by
        rw [call_sum ha (by omega) (by omega), ← Int.mul_add]
        exact Int.le_of_eq (congrArg (t * ·) (by omega))
      omega
    show hP _ _ k + need _ _ (k + 1) (hP _ _ k) = _
    rw [ih, e, show ((k + 1 : Nat) : Int) = (k : Int) + 1 by omega, Int.mul_add, Int.mul_one]
theorem call_lots {a t : Int} (ha : 1 ≤ a) (ht : 1 ≤ t) : lots (sumF (callB a t) a) (a.toNat + 1) = [(a, t)] := by
  have s : ∀ k : Nat, (k : Int) < a → sP (sumF (callB a t) a) (a.toNat + 1) k = t := fun k hk => by
    have h1 := call_hP (t := t) ha ht k (by omega)
    have h2 := call_hP (t := t) ha ht (k + 1) (by omega)
    have h3 := hP_succ (sumF (callB a t) a) (a.toNat + 1) k
    rw [h1, h2, show ((k + 1 : Nat) : Int) = (k : Int) + 1 by omega, Int.mul_add, Int.mul_one] at h3
    omega
  obtain ⟨m, hm⟩ : ∃ m : Nat, a.toNat = m + 1 := ⟨a.toNat - 1, by omega⟩
  have z := sP_last (sumF (callB a t) a) (a.toNat + 1) (m + 1) (by omega)
  have no : lotsTo (sumF (callB a t) a) (a.toNat + 1) m = [] := by
    unfold lotsTo
    rw [fmap_congr (g := fun _ => none) _ fun k hk => by
      have hk := List.mem_range.mp hk
      rw [s k (by omega), s (k + 1) (by omega), if_neg (by omega)]]
    simp
  have e : lots (sumF (callB a t) a) (a.toNat + 1) = lotsTo (sumF (callB a t) a) (a.toNat + 1) (m + 1) := by
    unfold lots lotsTo
    rw [Nat.add_sub_cancel, hm]
  rw [e, lotsTo_succ, no, z, s m (by omega), if_pos (by omega)]
  simp
  omega
theorem one_lots : lots (sumF (oneB [callB 4 1, callB 1 3]) 4) 5 = [(1, 2), (2, 1)] := by decide +kernel
theorem none_lots : lots (sumF noneB 0) 1 = [] := by decide +kernel
theorem deep_lots : lots (sumF deepB 2) 3 = [(2, 1)] := by decide +kernel
theorem with_lots : lots (sumF (withinB 20 (callB 20 12)) 20) 21 = [(1, 4), (2, 8)] := by decide +kernel
theorem all_lots : lots (sumF (allB [callB 5 2, callB 9 1, callB 5 1]) 9) 10 = [(5, 3), (9, 1)] := by decide +kernel
end K33
set_option maxRecDepth 100000
set_option maxHeartbeats 4000000
namespace K33
open PySem PySem.Spec PyProof.Rows L2 Pv P25 P66 P46 P27 P50 P54 P55 P57 P59
section
variable {K : PySem.W.Frag} {κ : Cls} {mg : Str → Option Value}
theorem cov (T : Tx K κ mg) {n : Nat} {d : D} {B : Beh} {xs : List Str} (h : Rt n d B xs) (hn : n ≤ 6) (nd : xs.Nodup) (hx : xs.length ≤ 9) (hs : B.top none ≤ 200) {g : Int} (hg : 0 ≤ g ∧ g ≤ 200) (vg : f_greatest_call T 7 [.d d] = .ok (.d (.int g)) [.d d]) {m : Nat} (hm : g.toNat + 1 = m) {ls : List (Int × Int)} (e : lots (sumF B g) m = ls) :
    f_cover T [.d d] = .ok (.d (pl ls.reverse)) [.d d] := by
  have := v_cover T h hn nd hx hs hg vg
  rw [hm, e] at this
  exact this
theorem cov_one (T : Tx K κ mg) : f_cover T [.d oneD] = .ok (.d (pl [(2, 1), (1, 2)])) [.d oneD] := cov T rt_one (by decide) (by decide +kernel) (by decide) (by decide +kernel) (g := 4) (by decide) (by kernel_rfl) rfl one_lots
theorem cov_none (T : Tx K κ mg) : f_cover T [.d (.tup [.str "none"])] = .ok (.d (pl [])) [.d (.tup [.str "none"])] := cov T rt_none (by decide) (by decide +kernel) (by decide) (by decide +kernel) (g := 0) (by decide) (by kernel_rfl) rfl none_lots
theorem cov_deep (T : Tx K κ mg) : f_cover T [.d deepD] = .ok (.d (pl [(2, 1)])) [.d deepD] := cov T rt_deep (by decide) (by decide +kernel) (by decide) (by decide +kernel) (g := 2) (by decide) (by kernel_rfl) rfl deep_lots
theorem cov_with (T : Tx K κ mg) : f_cover T [.d withD] = .ok (.d (pl [(2, 8), (1, 4)])) [.d withD] := cov T rt_with (by decide) (by decide +kernel) (by decide) (by decide +kernel) (g := 20) (by decide) (by kernel_rfl) rfl with_lots
theorem cov_all (T : Tx K κ mg) : f_cover T [.d allD] = .ok (.d (pl [(9, 1), (5, 3)])) [.d allD] := cov T rt_all (by decide) (by decide +kernel) (by decide) (by decide +kernel) (g := 9) (by decide) (by kernel_rfl) rfl all_lots
theorem cov_5 (T : Tx K κ mg) : f_cover T [.d (cD "a" 5 20)] = .ok (.d (pl [(5, 20)])) [.d (cD "a" 5 20)] := cov T (rt_call nmA (by decide) (by decide)) (by decide) (by decide +kernel) (by decide) (by decide +kernel) (g := 5) (by decide) (by kernel_rfl) rfl (call_lots (by decide) (by decide))
theorem cov_200 (T : Tx K κ mg) : f_cover T [.d (cD "a" 200 1)] = .ok (.d (pl [(200, 1)])) [.d (cD "a" 200 1)] := cov T (rt_call nmA (by decide) (by decide)) (by decide) (by decide +kernel) (by decide) (by decide +kernel) (g := 200) (by decide) (by kernel_rfl) rfl (call_lots (by decide) (by decide))
theorem few_eq (T : Tx K κ mg) : ∃ ps, f_cover T [.d (callsD 2 allD)] = .ok (.d (pl ps)) [.d (callsD 2 allD)] ∧ f_l_due T [.d (callsD 2 allD)] = .ok (.d (pl ps)) [.d (callsD 2 allD)] := by
  have r := rt_calls (k := 2) (by decide) rt_all
  obtain ⟨g, hg, ⟨vg, vh⟩, _⟩ := v_high T 3 _ _ _ r 7 (by decide)
  have t0 := (good _ _ _ (rt_rgt r)).top0 (some 1) (fun w e => by cases e; decide)
  have hs : (callsB 2 (allB [callB 5 2, callB 9 1, callB 5 1])).top none ≤ 200 := by decide +kernel
  exact ⟨_, v_cover T r (by decide) (by decide +kernel) (by decide) hs hg vg, v_due T r (by decide) hg vh (by omega) t0⟩
def lettersA : List Str := ["a", "b", "c", "d"]
def lettersE : List Str := ["e", "f", "g", "h"]
theorem lettersA_ok : Names lettersA := ⟨by decide, fun s hs => by
  simp only [lettersA, List.mem_cons, List.not_mem_nil, or_false] at hs
  rcases hs with rfl | rfl | rfl | rfl <;> exact ⟨⟨by decide +kernel, by decide +kernel, by decide +kernel⟩, by decide +kernel⟩⟩
theorem lettersE_ok : Names lettersE := ⟨by decide, fun s hs => by
  simp only [lettersE, List.mem_cons, List.not_mem_nil, or_false] at hs
  rcases hs with rfl | rfl | rfl | rfl <;> exact ⟨⟨by decide +kernel, by decide +kernel, by decide +kernel⟩, by decide +kernel⟩⟩
theorem letters_nd : (lettersA ++ lettersE).Nodup := by decide +kernel
theorem eCallL_ev (f : Fn) (i : Nat) (a : SE K κ) (s : Str) (n : Int) : (eCallL (K := K) (κ := κ) f i a s n).ev = fun ρ => if s.cps.size ≤ 1000 then match ρ[i]? with
    | some (some (.ml _)) => (a.ev ρ).bindD fun x ρ => cutB ρ.length (callOn f [.m i, .a x, .m ρ.length, .a (.int n)] (ρ ++ [some (.ml (signsD s))]))
    | _ => .bad else .bad := rfl
def rgtE (T : Tx K κ mg) (δ : Int) (s : Str) (A : Int) : SE K κ := eCallL (f_l_right T 7) 6 (eInt δ) s A
theorem rgtE_ev (T : Tx K κ mg) (δ : Nat) (hδ : δ < 7) (s : Str) (L : List Str) (sg : signsD s = nmD L) (h5 : s.cps.size ≤ 1000) (hL : Names L) (A : Int) (hA : 1 ≤ A ∧ A ≤ 50) (s0 s1 s2 s3 s4 s5 s7 s8 s9 : Option Pv.W) (c : Int) : ∃ (c' : Int) (d : D) (B : Beh) (us xs' : List Str), (rgtE T δ s A).ev [s0, s1, s2, s3, s4, s5, some (.ml [.int c]), s7, s8, s9] = .ok (.d d) [s0, s1, s2, s3, s4, s5, some (.ml [.int c']), s7, s8, s9] ∧ RtB A (δ + 1) d B us ∧ L = us ++ xs' ∧ Bnd B (2 * A * (us.length : Int)) := by
  obtain ⟨c', us, xs', d, B, e0, e2, rt, bn⟩ := v_right T A hA 7 δ hδ c L hL
  refine ⟨c', d, B, us, xs', ?_, rt, e0, bn⟩
  unfold rgtE
  rw [eCallL_ev]
  rw [← sg] at e2
  generalize f_l_right T 7 = f at e2 ⊢
  generalize signsD s = X at e2 ⊢
  generalize nmD xs' = Y at e2
  simp only [if_pos h5]
  simp? [e2]
  rfl
def tG (T : Tx K κ mg) : ST K κ := (tOr' (tNot' (tV (eCall 1 (f_l_good T) (aCons (eV 8) (aNil))))) (tNot' (tV (eCall 1 (f_l_good T) (aCons (eTup (aCons (eStr "one") (aCons (eTup (aCons (eV 8) (aCons (eV 9) (aNil)))) (aNil)))) (aNil))))))
def bdK (T : Tx K κ mg) : SS K κ := (sSeq (sAsg 8 (rgtE T 3 "abcd" 7)) (sSeq (sAsg 9 (rgtE T 2 "efgh" 9)) (sSeq (sIf (tG T) (sSeq (sRet (eBl false)) (sNil)) (sNil)) (sNil))))
theorem tG_ev (T : Tx K κ mg) {d1 d2 : D} (g1 : f_l_good T [.d d1] = .ok (.d (.bl true)) [.d d1]) (g2 : f_l_good T [.d (.tup [.str "one", .tup [d1, d2]])] = .ok (.d (.bl true)) [.d (.tup [.str "one", .tup [d1, d2]])]) (s0 s1 s2 s3 s4 s5 s6 s7 : Option Pv.W) : (tG T).ev [s0, s1, s2, s3, s4, s5, s6, s7, some (.d d1), some (.d d2)] = .ok false [s0, s1, s2, s3, s4, s5, s6, s7, some (.d d1), some (.d d2)] := by
  unfold tG
  generalize f_l_good T = f at g1 g2 ⊢
  simp? [g1, g2]
theorem k_step (T : Tx K κ mg) (s0 s1 s2 s3 s4 s5 s7 s8 s9 : Option Pv.W) (c : Int) : ∃ (c' : Int) (u8 u9 : Option Pv.W), (bdK T).sv [s0, s1, s2, s3, s4, s5, some (.ml [.int c]), s7, s8, s9] = .ok .nx [s0, s1, s2, s3, s4, s5, some (.ml [.int c']), s7, u8, u9] := by
  obtain ⟨c1, d1, B1, us1, xs1, e1, r1, l1, n1⟩ := rgtE_ev T 3 (by decide) "abcd" lettersA (by kernel_rfl) (by decide) lettersA_ok 7 (by decide) s0 s1 s2 s3 s4 s5 s7 s8 s9 c
  obtain ⟨c2, d2, B2, us2, xs2, e2, r2, l2, n2⟩ := rgtE_ev T 2 (by decide) "efgh" lettersE (by kernel_rfl) (by decide) lettersE_ok 9 (by decide) s0 s1 s2 s3 s4 s5 s7 (some (.d d1)) s9 c1
  have q1 := rtb_rt (by decide) r1
  have q2 := rt_up (rtb_rt (by decide) r2) (show 2 + 1 ≤ 4 by decide)
  have len1 : us1.length ≤ 4 := by
    have := congrArg List.length l1
    rw [List.length_append] at this
    have : lettersA.length = 4 := rfl
    omega
  have len2 : us2.length ≤ 4 := by
    have := congrArg List.length l2
    rw [List.length_append] at this
    have : lettersE.length = 4 := rfl
    omega
  have nd := letters_nd
  rw [l1, l2] at nd
  have nd12 : (us1 ++ us2).Nodup := nd.sublist ((List.sublist_append_left us1 xs1).append (List.sublist_append_left us2 xs2))
  have nd1 := (List.nodup_append.mp nd12).1
  have t1 := n1.top none (fun w e => by cases e)
  have t2 := n2.top none (fun w e => by cases e)
  have g1 := v_good T q1 (by decide) nd1 (by omega) (by omega)
  have r : Rt 5 (.tup [.str "one", .tup [d1, d2]]) (oneB [B1, B2]) (us1 ++ us2) := .inr (.inr (.inr (.inr (.inr ⟨[(d1, B1, us1), (d2, B2, us2)], by show 2 ≤ 10; decide, fun p hp => by
    simp only [List.mem_cons, List.not_mem_nil, or_false] at hp
    rcases hp with rfl | rfl
    · exact q1
    · exact q2, rfl, rfl, by simp⟩))))
  have tt : (oneB [B1, B2]).top none ≤ 200 := by
    refine mxL_le [B1.top none, B2.top none] 0 200 (by decide) fun x hx => ?_
    simp only [List.mem_cons, List.not_mem_nil, or_false] at hx
    rcases hx with rfl | rfl <;> omega
  have g2 := v_good T r (by decide) nd12 (by rw [List.length_append]; omega) tt
  refine ⟨c2, some (.d d1), some (.d d2), ?_⟩
  unfold bdK
  refine seq_nx (asg_of e1 (by show 8 < 10; decide)) ?_
  refine seq_nx (asg_of e2 (by show 9 < 10; decide)) ?_
  exact seq_nx (if_no (tG_ev T g1 g2 _ _ _ _ _ _ _ _)) rfl
end
end K33
set_option maxRecDepth 100000
set_option maxHeartbeats 4000000
namespace K33
open PySem PySem.Spec PyProof.Rows L2 Pv P25 P66 P46 P27 P50 P54 P55 P57 P59
section
variable {K : PySem.W.Frag} {κ : Cls} {mg : Str → Option Value}
theorem ne_of {a b : SE K κ} {ρ : Pv.Env} {x : D} (ha : a.ev ρ = .ok (.d x) ρ) (hb : b.ev ρ = .ok (.d x) ρ) (h : gNe x x = some (.bl false)) : (tV' (eNe a b)).ev ρ = .ok false ρ := by simp? [ha, hb, h]
theorem eq_of {a b : SE K κ} {ρ : Pv.Env} {x : D} (ha : a.ev ρ = .ok (.d x) ρ) (hb : b.ev ρ = .ok (.d x) ρ) (h : gEq x x = some (.bl true)) : (eEq a b).ev ρ = .ok (.d (.bl true)) ρ := by simp? [ha, hb, h]
theorem and_ev {a b : SE K κ} {ρ : Pv.Env} (ha : a.ev ρ = .ok (.d (.bl true)) ρ) (hb : b.ev ρ = .ok (.d (.bl true)) ρ) : (eAndV a b).ev ρ = .ok (.d (.bl true)) ρ := by simp? [ha, hb]
def bdT (T : Tx K κ mg) : SS K κ := (sSeq (sAsg 6 (eLstM (aCons (eCall 2 (f_l_cell T) (aCons (eV 0) (aCons (eV 1) (aNil)))) (aNil)))) (sSeq (sFor (iR1 (eInt 2)) (gN 7) (bdK T)) (sNil)))
theorem t_step (T : Tx K κ mg) (ns : List Int) (i : Int) (hi : 0 ≤ i) (s2 s3 s4 s5 s6 s7 s8 s9 : Option Pv.W) : ∃ (u6 u7 u8 u9 : Option Pv.W), (bdT T).sv [some (.d (.lst (ns.map .int))), some (.d (.int i)), s2, s3, s4, s5, s6, s7, s8, s9] = .ok .nx [some (.d (.lst (ns.map .int))), some (.d (.int i)), s2, s3, s4, s5, u6, u7, u8, u9] := by
  obtain ⟨c, hc⟩ := v_cell T ns i hi
  generalize D.lst (ns.map .int) = Z at hc ⊢
  obtain ⟨ρ', e, c', u7, u8, u9, rfl⟩ := loop_inv (put := (gN (K := K) (κ := κ) 7).put) (body := (bdK T).sv) (fun ρ => ∃ (c : Int) (u7 u8 u9 : Option Pv.W), ρ = [some (.d Z), some (.d (.int i)), s2, s3, s4, s5, some (.ml [.int c]), u7, u8, u9]) (nums 0 2) (fun x _ ρ ⟨c, u7, u8, u9, e⟩ => by
    subst e
    obtain ⟨c', v8, v9, e⟩ := k_step T (some (.d Z)) (some (.d (.int i))) s2 s3 s4 s5 (some (.d x)) u8 u9 c
    exact ⟨_, _, rfl, e, c', some (.d x), v8, v9, rfl⟩) [some (.d Z), some (.d (.int i)), s2, s3, s4, s5, some (.ml [.int c]), s7, s8, s9] ⟨c, s7, s8, s9, rfl⟩
  refine ⟨some (.ml [.int c']), u7, u8, u9, ?_⟩
  unfold bdT
  refine seq_nx (ρ' := [some (.d Z), some (.d (.int i)), s2, s3, s4, s5, some (.ml [.int c]), s7, s8, s9]) (by simp? [hc]) ?_
  exact seq_nx (for_of (xs := nums 0 2) rfl e) rfl
def cE (x : Str) (a t : Int) : SE K κ := (eTup (aCons (eStr "call") (aCons (eStr x) (aCons (eInt a) (aCons (eInt t) (aNil))))))
def nE (k : Int) (e : SE K κ) : SE K κ := (eTup (aCons (eStr "calls") (aCons (eInt k) (aCons e (aNil)))))
def pE (a t : Int) : SE K κ := (eTup (aCons (eInt a) (aCons (eInt t) (aNil))))
def covE (T : Tx K κ mg) (e : SE K κ) : SE K κ := (eCall 1 (f_cover T) (aCons e (aNil)))
theorem covE_ev (T : Tx K κ mg) {e : SE K κ} {ρ : Pv.Env} {d x : D} (h : e.ev ρ = .ok (.d d) ρ) (hc : f_cover T [.d d] = .ok (.d x) [.d d]) : (covE T e).ev ρ = .ok (.d x) ρ := call1_of h hc
theorem law_true (T : Tx K κ mg) (ns : List Int) : f_law T [.d (.lst (ns.map .int))] = .ok (.d (.bl true)) [.d (.lst (ns.map .int))] := by
  obtain ⟨m, it⟩ := turns_ev (K := K) (κ := κ) ns 5 (by decide) [none, none, none, none, none, none, none, none, none]
  obtain ⟨ρ', e, u1, u6, u7, u8, u9, rfl⟩ := loop_inv (put := (gN (K := K) (κ := κ) 1).put) (body := (bdT T).sv) (fun ρ => ∃ (u1 u6 u7 u8 u9 : Option Pv.W), ρ = [some (.d (.lst (ns.map .int))), u1, none, none, none, none, u6, u7, u8, u9]) (nums 0 m) (fun x hx ρ ⟨u1, u6, u7, u8, u9, e⟩ => by
    subst e
    obtain ⟨i, rfl, hi, _⟩ := nums_int x hx
    obtain ⟨v6, v7, v8, v9, e⟩ := t_step T ns i hi none none none none u6 u7 u8 u9
    exact ⟨_, _, rfl, e, some (.d (.int i)), v6, v7, v8, v9, rfl⟩) [some (.d (.lst (ns.map .int))), none, none, none, none, none, none, none, none, none] ⟨none, none, none, none, none, rfl⟩
  have b : b_law T = sSeq (sFor (turnsI 5) (gN 1) (bdT T)) (sSeq (sAsg 2 (eTup (aCons (eStr "one") (aCons (eTup (aCons (cE "a" 4 1) (aCons (cE "b" 1 3) (aNil)))) (aNil)))))
    (sSeq (sIf (tOr' (tV' (eNe (covE T (eV 2)) (eTup (aCons (pE 2 1) (aCons (pE 1 2) (aNil)))))) (tV' (eNe (covE T (eTup (aCons (eStr "none") (aNil)))) (eTup (aNil))))) (sSeq (sRet (eBl false)) (sNil)) (sNil))
    (sSeq (sAsg 3 (eTup (aCons (eStr "all") (aCons (eTup (aCons (cE "a" 5 2) (aCons (cE "b" 9 1) (aCons (cE "c" 5 1) (aNil))))) (aNil)))))
    (sSeq (sAsg 4 (nE 9 (nE 9 (nE 9 (nE 9 (nE 9 (cE "a" 2 1)))))))
    (sSeq (sIf (tOr' (tV' (eNe (covE T (cE "a" 5 20)) (eTup (aCons (pE 5 20) (aNil))))) (tV' (eNe (covE T (eV 4)) (eTup (aCons (pE 2 1) (aNil)))))) (sSeq (sRet (eBl false)) (sNil)) (sNil))
    (sSeq (sIf (tOr' (tV' (eNe (covE T (cE "a" 200 1)) (eTup (aCons (pE 200 1) (aNil))))) (tV' (eNe (covE T (eTup (aCons (eStr "within") (aCons (eInt 20) (aCons (cE "a" 20 12) (aNil)))))) (eTup (aCons (pE 2 8) (aCons (pE 1 4) (aNil))))))) (sSeq (sRet (eBl false)) (sNil)) (sNil))
    (sSeq (sAsg 5 (nE 2 (eV 3)))
    (sSeq (sRet (eAndV (eEq (covE T (eV 3)) (eTup (aCons (pE 9 1) (aCons (pE 5 3) (aNil))))) (eEq (covE T (eV 5)) (eCall 1 (f_l_due T) (aCons (eV 5) (aNil)))))) (sNil))))))))) := rfl
  obtain ⟨fp, few1, few2⟩ := few_eq T
  refine fn_rt (ρ := [some (.d (.lst (ns.map .int))), u1, some (.d oneD), some (.d allD), some (.d deepD), some (.d (callsD 2 allD)), u6, u7, u8, u9]) ?_ rfl
  rw [b]
  refine seq_nx (for_of it e) ?_
  generalize D.lst (ns.map .int) = Z
  refine seq_nx (ρ' := [some (.d Z), u1, some (.d oneD), none, none, none, u6, u7, u8, u9]) rfl ?_
  refine seq_nx (if_no (ρ1 := [some (.d Z), u1, some (.d oneD), none, none, none, u6, u7, u8, u9]) ((or_f (ne_of (covE_ev T rfl (cov_one T)) rfl (nePl [(2, 1), (1, 2)]))).trans (ne_of (covE_ev T rfl (cov_none T)) rfl (nePl [])))) ?_
  refine seq_nx (ρ' := [some (.d Z), u1, some (.d oneD), some (.d allD), none, none, u6, u7, u8, u9]) rfl ?_
  refine seq_nx (ρ' := [some (.d Z), u1, some (.d oneD), some (.d allD), some (.d deepD), none, u6, u7, u8, u9]) rfl ?_
  refine seq_nx (if_no (ρ1 := [some (.d Z), u1, some (.d oneD), some (.d allD), some (.d deepD), none, u6, u7, u8, u9]) ((or_f (ne_of (covE_ev T rfl (cov_5 T)) rfl (nePl [(5, 20)]))).trans (ne_of (covE_ev T rfl (cov_deep T)) rfl (nePl [(2, 1)])))) ?_
  refine seq_nx (if_no (ρ1 := [some (.d Z), u1, some (.d oneD), some (.d allD), some (.d deepD), none, u6, u7, u8, u9]) ((or_f (ne_of (covE_ev T rfl (cov_200 T)) rfl (nePl [(200, 1)]))).trans (ne_of (covE_ev T rfl (cov_with T)) rfl (nePl [(2, 8), (1, 4)])))) ?_
  refine seq_nx (ρ' := [some (.d Z), u1, some (.d oneD), some (.d allD), some (.d deepD), some (.d (callsD 2 allD)), u6, u7, u8, u9]) rfl ?_
  exact seq_ret (and_ev (eq_of (covE_ev T rfl (cov_all T)) rfl (eqPl [(9, 1), (5, 3)])) (eq_of (covE_ev T rfl few1) (call1_of rfl few2) (eqPl fp)))
end
end K33
set_option maxRecDepth 100000
set_option maxHeartbeats 4000000
namespace K33
open PySem PySem.Spec PyProof.Rows L2 Pv
def kls (a T0 : Addr) : Pv.Cls := ⟨fun _ => a, fun _ => "", 0, [T0]⟩
theorem law_end {l : PySem.W.OpenLaw} {n k : Nat} {q : Program} {loose : List Str} {XP : (Str → Option Value) → Heap → Prop} {YP : World → Heap → Prop} {d : DefRec} {K : Params → PySem.W.Frag} {x : Str}
    (hn : l.most = some n) (hn2 : n ≤ sizeLine) (hdf : d.params.defaults = []) (hr : Room k callerA) (hY : ∀ (w : World) (h : Heap), YP w h → (K w.params).In h)
    (F : ∀ (w : World) (mg : Str → Option Value) (fa : Addr) (h : Heap), YP w h → (K w.params).In h → h.Ns mainGlobals mg → mg d.name = some (.ref fa) →
      ∃ (fd : FuncData) (c T0 : Addr), h.get? T0 = some { cls := .none, data := .fields #[] } ∧ (K w.params).lookup T0 = none ∧ PySem.W.CodeHd h c T0 ∧ (∀ (s : Shared) (u : Value), BindsTo s fd ⟨[u], []⟩ [(x, u)]) ∧
        ∀ base : Heap, (K w.params).In base → base.Ns mainGlobals mg → GxR.TabB base mg c T0 → FnG l.prog w (K w.params) mg base k fa fd [x] (spT (K w.params) T0)) :
    PySem.W.WalkO q loose XP YP l.row.toRowW d [] (fun f vs => PySem.call f vs) :=
  law_walkT (sp := fun w T0 => spT (K w.params) T0) hn hn2 hdf hr hY F fun w H a T0 ns _ ht hs => ⟨a, ns, rfl, hs, tab_new ht trivial, fun _ => rfl⟩
theorem all_mk {P : Program} {w : World} {K : PySem.W.Frag} {h : Heap} {mg : Str → Option Value} {fa cc T0 f0 f1 f2 f3 f4 f5 f6 f7 f8 f9 f10 f11 f12 f13 f14 f15 f16 f17 f18 f19 f20 f21 f22 f23 f24 f25 f26 f27 f28 f29 f30 f31 f32 f33 f34 f35 f36 f37 : Addr} (X : K.In h) (tab : h.get? T0 = some { cls := .none, data := .fields #[] }) (G : h.Ns mainGlobals mg) (hfa : mg "law" = some (.ref fa))
    {od0 an0 od1 an1 od2 an2 od3 an3 od4 an4 od5 an5 od6 an6 od7 an7 od8 an8 od9 an9 od10 an10 od11 an11 od12 an12 od13 an13 od14 an14 od15 an15 od16 an16 od17 an17 od18 an18 od19 an19 od20 an20 od21 an21 od22 an22 od23 an23 od24 an24 od25 an25 od26 an26 od27 an27 od28 an28 od29 an29 od30 an30 od31 an31 od32 an32 od33 an33 od34 an34 od35 an35 od36 an36 od37 an37 : Option Addr} {sl0 sl1 sl2 sl3 sl4 sl5 sl6 sl7 sl8 sl9 sl10 sl11 sl12 sl13 sl14 sl15 sl16 sl17 sl18 sl19 sl20 sl21 sl22 sl23 sl24 sl25 sl26 sl27 sl28 sl29 sl30 sl31 sl32 sl33 sl34 sl35 sl36 sl37 : Array (Option Value)} {oc0 dc0 pm0 ct0 cd0 kv0 oc1 dc1 pm1 ct1 cd1 kv1 oc2 dc2 pm2 ct2 cd2 kv2 oc3 dc3 pm3 ct3 cd3 kv3 oc4 dc4 pm4 ct4 cd4 kv4 oc5 dc5 pm5 ct5 cd5 kv5 oc6 dc6 pm6 ct6 cd6 kv6 oc7 dc7 pm7 ct7 cd7 kv7 oc8 dc8 pm8 ct8 cd8 kv8 oc9 dc9 pm9 ct9 cd9 kv9 oc10 dc10 pm10 ct10 kv10 oc11 dc11 pm11 ct11 cd11 kv11 oc12 dc12 pm12 ct12 cd12 kv12 oc13 dc13 pm13 ct13 cd13 kv13 oc14 dc14 pm14 ct14 cd14 kv14 oc15 dc15 pm15 ct15 cd15 kv15 oc16 dc16 pm16 ct16 cd16 kv16 oc17 dc17 pm17 ct17 cd17 kv17 oc18 dc18 pm18 ct18 cd18 kv18 oc19 dc19 pm19 ct19 cd19 kv19 oc20 dc20 pm20 ct20 cd20 kv20 oc21 dc21 pm21 ct21 cd21 kv21 oc22 dc22 pm22 ct22 cd22 kv22 oc23 dc23 pm23 ct23 cd23 kv23 oc24 dc24 pm24 ct24 cd24 kv24 oc25 dc25 pm25 ct25 cd25 kv25 oc26 dc26 pm26 ct26 cd26 kv26 oc27 dc27 pm27 ct27 cd27 kv27 oc28 dc28 pm28 ct28 cd28 kv28 oc29 dc29 pm29 ct29 cd29 kv29 oc30 dc30 pm30 ct30 cd30 kv30 oc31 dc31 pm31 ct31 cd31 kv31 oc32 dc32 pm32 ct32 cd32 kv32 oc33 dc33 pm33 ct33 cd33 kv33 oc34 dc34 pm34 ct34 cd34 kv34 oc35 dc35 pm35 ct35 cd35 kv35 oc36 dc36 pm36 ct36 cd36 kv36 oc37 dc37 pm37 ct37 cd37 kv37 : Value} {tk_MOST_DEEP : Tok} {tk_MOST_LETTERS : Tok} {tk_SMALL : Tok} {at_FORM_LENGTHS : Addr} {nt_FORM_LENGTHS : Nat} {h0_FORM_LENGTHS h1_FORM_LENGTHS h2_FORM_LENGTHS h3_FORM_LENGTHS h4_FORM_LENGTHS h5_FORM_LENGTHS : Int} {tk0_FORM_LENGTHS ti0_FORM_LENGTHS tk1_FORM_LENGTHS ti1_FORM_LENGTHS tk2_FORM_LENGTHS ti2_FORM_LENGTHS tk3_FORM_LENGTHS ti3_FORM_LENGTHS tk4_FORM_LENGTHS ti4_FORM_LENGTHS tk5_FORM_LENGTHS ti5_FORM_LENGTHS : Tok}
    (z_all : PySem.W.nsIn K mainGlobals "all" = some none)
    (z_any : PySem.W.nsIn K mainGlobals "any" = some none)
    (z_bool : PySem.W.nsIn K mainGlobals "bool" = some none)
    (z_int : PySem.W.nsIn K mainGlobals "int" = some none)
    (z_isinstance : PySem.W.nsIn K mainGlobals "isinstance" = some none)
    (z_len : PySem.W.nsIn K mainGlobals "len" = some none)
    (z_list : PySem.W.nsIn K mainGlobals "list" = some none)
    (z_max : PySem.W.nsIn K mainGlobals "max" = some none)
    (z_min : PySem.W.nsIn K mainGlobals "min" = some none)
    (z_range : PySem.W.nsIn K mainGlobals "range" = some none)
    (z_sorted : PySem.W.nsIn K mainGlobals "sorted" = some none)
    (z_str : PySem.W.nsIn K mainGlobals "str" = some none)
    (z_sum : PySem.W.nsIn K mainGlobals "sum" = some none)
    (z_tuple : PySem.W.nsIn K mainGlobals "tuple" = some none)
    (z_zip : PySem.W.nsIn K mainGlobals "zip" = some none)
    (s_MOST_DEEP : PySem.W.nsIn K mainGlobals "MOST_DEEP" = some (some (.int 6 tk_MOST_DEEP)))
    (s_MOST_LETTERS : PySem.W.nsIn K mainGlobals "MOST_LETTERS" = some (some (.int 8 tk_MOST_LETTERS)))
    (s_SMALL : PySem.W.nsIn K mainGlobals "SMALL" = some (some (.int 200 tk_SMALL)))
    (s_FORM_LENGTHS : PySem.W.nsIn K mainGlobals "FORM_LENGTHS" = some (some (.ref at_FORM_LENGTHS)))
    (d_FORM_LENGTHS : K.lookup at_FORM_LENGTHS = some ⟨.type "dict", none, .dict #[⟨h0_FORM_LENGTHS, .str "none" tk0_FORM_LENGTHS, .int 1 ti0_FORM_LENGTHS⟩, ⟨h1_FORM_LENGTHS, .str "call" tk1_FORM_LENGTHS, .int 4 ti1_FORM_LENGTHS⟩, ⟨h2_FORM_LENGTHS, .str "all" tk2_FORM_LENGTHS, .int 2 ti2_FORM_LENGTHS⟩, ⟨h3_FORM_LENGTHS, .str "one" tk3_FORM_LENGTHS, .int 2 ti3_FORM_LENGTHS⟩, ⟨h4_FORM_LENGTHS, .str "within" tk4_FORM_LENGTHS, .int 3 ti4_FORM_LENGTHS⟩, ⟨h5_FORM_LENGTHS, .str "calls" tk5_FORM_LENGTHS, .int 3 ti5_FORM_LENGTHS⟩] nt_FORM_LENGTHS, #[]⟩)
    (hh0_FORM_LENGTHS : h0_FORM_LENGTHS = PyData.keyHash w.params "none")
    (hh1_FORM_LENGTHS : h1_FORM_LENGTHS = PyData.keyHash w.params "call")
    (hh2_FORM_LENGTHS : h2_FORM_LENGTHS = PyData.keyHash w.params "all")
    (hh3_FORM_LENGTHS : h3_FORM_LENGTHS = PyData.keyHash w.params "one")
    (hh4_FORM_LENGTHS : h4_FORM_LENGTHS = PyData.keyHash w.params "within")
    (hh5_FORM_LENGTHS : h5_FORM_LENGTHS = PyData.keyHash w.params "calls")
    (lo_FORM_LENGTHS : (at_FORM_LENGTHS == sysModules) = false)
    (a_0 : PySem.W.nsIn K mainGlobals "_law_mixed" = some (some (.ref f0)))
    (l_0 : K.lookup f0 = some ⟨oc0, od0, .func (PySem.W.fnOf "_law_mixed" "_law_mixed" (defArgs s_l_mixed) (defBody s_l_mixed) (defScope s_l_mixed) .none kv0 dc0 pm0 an0 cd0 ct0), sl0⟩)
    (c_0 : PySem.W.codeIn K cd0 "_law_mixed" = true)
    (k_0 : PySem.W.keepIn K (.ref f0) = true)
    (a_1 : PySem.W.nsIn K mainGlobals "_law_cell" = some (some (.ref f1)))
    (l_1 : K.lookup f1 = some ⟨oc1, od1, .func (PySem.W.fnOf "_law_cell" "_law_cell" (defArgs s_l_cell) (defBody s_l_cell) (defScope s_l_cell) .none kv1 dc1 pm1 an1 cd1 ct1), sl1⟩)
    (c_1 : PySem.W.codeIn K cd1 "_law_cell" = true)
    (k_1 : PySem.W.keepIn K (.ref f1) = true)
    (a_2 : PySem.W.nsIn K mainGlobals "_law_high" = some (some (.ref f2)))
    (l_2 : K.lookup f2 = some ⟨oc2, od2, .func (PySem.W.fnOf "_law_high" "_law_high" (defArgs s_l_high) (defBody s_l_high) (defScope s_l_high) .none kv2 dc2 pm2 an2 cd2 ct2), sl2⟩)
    (c_2 : PySem.W.codeIn K cd2 "_law_high" = true)
    (k_2 : PySem.W.keepIn K (.ref f2) = true)
    (a_3 : PySem.W.nsIn K mainGlobals "_law_lines" = some (some (.ref f3)))
    (l_3 : K.lookup f3 = some ⟨oc3, od3, .func (PySem.W.fnOf "_law_lines" "_law_lines" (defArgs s_l_lines) (defBody s_l_lines) (defScope s_l_lines) .none kv3 dc3 pm3 an3 cd3 ct3), sl3⟩)
    (c_3 : PySem.W.codeIn K cd3 "_law_lines" = true)
    (k_3 : PySem.W.keepIn K (.ref f3) = true)
    (a_4 : PySem.W.nsIn K mainGlobals "_law_length" = some (some (.ref f4)))
    (l_4 : K.lookup f4 = some ⟨oc4, od4, .func (PySem.W.fnOf "_law_length" "_law_length" (defArgs s_l_length) (defBody s_l_length) (defScope s_l_length) .none kv4 dc4 pm4 an4 cd4 ct4), sl4⟩)
    (c_4 : PySem.W.codeIn K cd4 "_law_length" = true)
    (k_4 : PySem.W.keepIn K (.ref f4) = true)
    (a_5 : PySem.W.nsIn K mainGlobals "_law_row" = some (some (.ref f5)))
    (l_5 : K.lookup f5 = some ⟨oc5, od5, .func (PySem.W.fnOf "_law_row" "_law_row" (defArgs s_l_row) (defBody s_l_row) (defScope s_l_row) .none kv5 dc5 pm5 an5 cd5 ct5), sl5⟩)
    (c_5 : PySem.W.codeIn K cd5 "_law_row" = true)
    (k_5 : PySem.W.keepIn K (.ref f5) = true)
    (a_6 : PySem.W.nsIn K mainGlobals "_law_top" = some (some (.ref f6)))
    (l_6 : K.lookup f6 = some ⟨oc6, od6, .func (PySem.W.fnOf "_law_top" "_law_top" (defArgs s_l_top) (defBody s_l_top) (defScope s_l_top) .none kv6 dc6 pm6 an6 cd6 ct6), sl6⟩)
    (c_6 : PySem.W.codeIn K cd6 "_law_top" = true)
    (k_6 : PySem.W.keepIn K (.ref f6) = true)
    (a_7 : PySem.W.nsIn K mainGlobals "_law_due" = some (some (.ref f7)))
    (l_7 : K.lookup f7 = some ⟨oc7, od7, .func (PySem.W.fnOf "_law_due" "_law_due" (defArgs s_l_due) (defBody s_l_due) (defScope s_l_due) .none kv7 dc7 pm7 an7 cd7 ct7), sl7⟩)
    (c_7 : PySem.W.codeIn K cd7 "_law_due" = true)
    (k_7 : PySem.W.keepIn K (.ref f7) = true)
    (a_8 : PySem.W.nsIn K mainGlobals "_calls_from" = some (some (.ref f8)))
    (l_8 : K.lookup f8 = some ⟨oc8, od8, .func (PySem.W.fnOf "_calls_from" "_calls_from" (defArgs s__calls_from) (defBody s__calls_from) (defScope s__calls_from) .none kv8 dc8 pm8 an8 cd8 ct8), sl8⟩)
    (c_8 : PySem.W.codeIn K cd8 "_calls_from" = true)
    (k_8 : PySem.W.keepIn K (.ref f8) = true)
    (a_9 : PySem.W.nsIn K mainGlobals "_has_form" = some (some (.ref f9)))
    (l_9 : K.lookup f9 = some ⟨oc9, od9, .func (PySem.W.fnOf "_has_form" "_has_form" (defArgs s__has_form) (defBody s__has_form) (defScope s__has_form) .none kv9 dc9 pm9 an9 cd9 ct9), sl9⟩)
    (c_9 : PySem.W.codeIn K cd9 "_has_form" = true)
    (k_9 : PySem.W.keepIn K (.ref f9) = true)
    (a_10 : PySem.W.nsIn K mainGlobals "is_name" = some (some (.ref f10)))
    (l_10 : K.lookup f10 = some ⟨oc10, od10, .func (PySem.W.fnOf "is_name" "is_name" (defArgs s_is_name) (defBody s_is_name) (defScope s_is_name) .none kv10 dc10 pm10 an10 (.ref cc) ct10), sl10⟩)
    (c_10 : PySem.W.codeIn K (.ref cc) "is_name" = true)
    (k_10 : PySem.W.keepIn K (.ref f10) = true)
    (a_11 : PySem.W.nsIn K mainGlobals "is_number" = some (some (.ref f11)))
    (l_11 : K.lookup f11 = some ⟨oc11, od11, .func (PySem.W.fnOf "is_number" "is_number" (defArgs s_is_number) (defBody s_is_number) (defScope s_is_number) .none kv11 dc11 pm11 an11 cd11 ct11), sl11⟩)
    (c_11 : PySem.W.codeIn K cd11 "is_number" = true)
    (k_11 : PySem.W.keepIn K (.ref f11) = true)
    (a_12 : PySem.W.nsIn K mainGlobals "_is_new_call" = some (some (.ref f12)))
    (l_12 : K.lookup f12 = some ⟨oc12, od12, .func (PySem.W.fnOf "_is_new_call" "_is_new_call" (defArgs s__is_new_call) (defBody s__is_new_call) (defScope s__is_new_call) .none kv12 dc12 pm12 an12 cd12 ct12), sl12⟩)
    (c_12 : PySem.W.codeIn K cd12 "_is_new_call" = true)
    (k_12 : PySem.W.keepIn K (.ref f12) = true)
    (a_13 : PySem.W.nsIn K mainGlobals "straight_within" = some (some (.ref f13)))
    (l_13 : K.lookup f13 = some ⟨oc13, od13, .func (PySem.W.fnOf "straight_within" "straight_within" (defArgs s_straight_within) (defBody s_straight_within) (defScope s_straight_within) .none kv13 dc13 pm13 an13 cd13 ct13), sl13⟩)
    (c_13 : PySem.W.codeIn K cd13 "straight_within" = true)
    (k_13 : PySem.W.keepIn K (.ref f13) = true)
    (a_14 : PySem.W.nsIn K mainGlobals "_is_new_right" = some (some (.ref f14)))
    (l_14 : K.lookup f14 = some ⟨oc14, od14, .func (PySem.W.fnOf "_is_new_right" "_is_new_right" (defArgs s__is_new_right) (defBody s__is_new_right) (defScope s__is_new_right) .none kv14 dc14 pm14 an14 cd14 ct14), sl14⟩)
    (c_14 : PySem.W.codeIn K cd14 "_is_new_right" = true)
    (k_14 : PySem.W.keepIn K (.ref f14) = true)
    (a_15 : PySem.W.nsIn K mainGlobals "is_right" = some (some (.ref f15)))
    (l_15 : K.lookup f15 = some ⟨oc15, od15, .func (PySem.W.fnOf "is_right" "is_right" (defArgs s_is_right) (defBody s_is_right) (defScope s_is_right) .none kv15 dc15 pm15 an15 cd15 ct15), sl15⟩)
    (c_15 : PySem.W.codeIn K cd15 "is_right" = true)
    (k_15 : PySem.W.keepIn K (.ref f15) = true)
    (a_16 : PySem.W.nsIn K mainGlobals "check_right" = some (some (.ref f16)))
    (l_16 : K.lookup f16 = some ⟨oc16, od16, .func (PySem.W.fnOf "check_right" "check_right" (defArgs s_check_right) (defBody s_check_right) (defScope s_check_right) .none kv16 dc16 pm16 an16 cd16 ct16), sl16⟩)
    (c_16 : PySem.W.codeIn K cd16 "check_right" = true)
    (k_16 : PySem.W.keepIn K (.ref f16) = true)
    (a_17 : PySem.W.nsIn K mainGlobals "_has_small_mosts" = some (some (.ref f17)))
    (l_17 : K.lookup f17 = some ⟨oc17, od17, .func (PySem.W.fnOf "_has_small_mosts" "_has_small_mosts" (defArgs s__has_small_mosts) (defBody s__has_small_mosts) (defScope s__has_small_mosts) .none kv17 dc17 pm17 an17 cd17 ct17), sl17⟩)
    (c_17 : PySem.W.codeIn K cd17 "_has_small_mosts" = true)
    (k_17 : PySem.W.keepIn K (.ref f17) = true)
    (a_18 : PySem.W.nsIn K mainGlobals "_amount_below" = some (some (.ref f18)))
    (l_18 : K.lookup f18 = some ⟨oc18, od18, .func (PySem.W.fnOf "_amount_below" "_amount_below" (defArgs s__amount_below) (defBody s__amount_below) (defScope s__amount_below) .none kv18 dc18 pm18 an18 cd18 ct18), sl18⟩)
    (c_18 : PySem.W.codeIn K cd18 "_amount_below" = true)
    (k_18 : PySem.W.keepIn K (.ref f18) = true)
    (a_19 : PySem.W.nsIn K mainGlobals "_most_calls" = some (some (.ref f19)))
    (l_19 : K.lookup f19 = some ⟨oc19, od19, .func (PySem.W.fnOf "_most_calls" "_most_calls" (defArgs s__most_calls) (defBody s__most_calls) (defScope s__most_calls) .none kv19 dc19 pm19 an19 cd19 ct19), sl19⟩)
    (c_19 : PySem.W.codeIn K cd19 "_most_calls" = true)
    (k_19 : PySem.W.keepIn K (.ref f19) = true)
    (a_20 : PySem.W.nsIn K mainGlobals "_cut_at_count" = some (some (.ref f20)))
    (l_20 : K.lookup f20 = some ⟨oc20, od20, .func (PySem.W.fnOf "_cut_at_count" "_cut_at_count" (defArgs s__cut_at_count) (defBody s__cut_at_count) (defScope s__cut_at_count) .none kv20 dc20 pm20 an20 cd20 ct20), sl20⟩)
    (c_20 : PySem.W.codeIn K cd20 "_cut_at_count" = true)
    (k_20 : PySem.W.keepIn K (.ref f20) = true)
    (a_21 : PySem.W.nsIn K mainGlobals "_cut_at_sum" = some (some (.ref f21)))
    (l_21 : K.lookup f21 = some ⟨oc21, od21, .func (PySem.W.fnOf "_cut_at_sum" "_cut_at_sum" (defArgs s__cut_at_sum) (defBody s__cut_at_sum) (defScope s__cut_at_sum) .none kv21 dc21 pm21 an21 cd21 ct21), sl21⟩)
    (c_21 : PySem.W.codeIn K cd21 "_cut_at_sum" = true)
    (k_21 : PySem.W.keepIn K (.ref f21) = true)
    (a_22 : PySem.W.nsIn K mainGlobals "sum_of_first" = some (some (.ref f22)))
    (l_22 : K.lookup f22 = some ⟨oc22, od22, .func (PySem.W.fnOf "sum_of_first" "sum_of_first" (defArgs s_sum_of_first) (defBody s_sum_of_first) (defScope s_sum_of_first) .none kv22 dc22 pm22 an22 cd22 ct22), sl22⟩)
    (c_22 : PySem.W.codeIn K cd22 "sum_of_first" = true)
    (k_22 : PySem.W.keepIn K (.ref f22) = true)
    (a_23 : PySem.W.nsIn K mainGlobals "_outdoes" = some (some (.ref f23)))
    (l_23 : K.lookup f23 = some ⟨oc23, od23, .func (PySem.W.fnOf "_outdoes" "_outdoes" (defArgs s__outdoes) (defBody s__outdoes) (defScope s__outdoes) .none kv23 dc23 pm23 an23 cd23 ct23), sl23⟩)
    (c_23 : PySem.W.codeIn K cd23 "_outdoes" = true)
    (k_23 : PySem.W.keepIn K (.ref f23) = true)
    (a_24 : PySem.W.nsIn K mainGlobals "_not_outdone" = some (some (.ref f24)))
    (l_24 : K.lookup f24 = some ⟨oc24, od24, .func (PySem.W.fnOf "_not_outdone" "_not_outdone" (defArgs s__not_outdone) (defBody s__not_outdone) (defScope s__not_outdone) .none kv24 dc24 pm24 an24 cd24 ct24), sl24⟩)
    (c_24 : PySem.W.codeIn K cd24 "_not_outdone" = true)
    (k_24 : PySem.W.keepIn K (.ref f24) = true)
    (a_25 : PySem.W.nsIn K mainGlobals "rows_of" = some (some (.ref f25)))
    (l_25 : K.lookup f25 = some ⟨oc25, od25, .func (PySem.W.fnOf "rows_of" "rows_of" (defArgs s_rows_of) (defBody s_rows_of) (defScope s_rows_of) .none kv25 dc25 pm25 an25 cd25 ct25), sl25⟩)
    (c_25 : PySem.W.codeIn K cd25 "rows_of" = true)
    (k_25 : PySem.W.keepIn K (.ref f25) = true)
    (a_26 : PySem.W.nsIn K mainGlobals "_rows_of_all" = some (some (.ref f26)))
    (l_26 : K.lookup f26 = some ⟨oc26, od26, .func (PySem.W.fnOf "_rows_of_all" "_rows_of_all" (defArgs s__rows_of_all) (defBody s__rows_of_all) (defScope s__rows_of_all) .none kv26 dc26 pm26 an26 cd26 ct26), sl26⟩)
    (c_26 : PySem.W.codeIn K cd26 "_rows_of_all" = true)
    (k_26 : PySem.W.keepIn K (.ref f26) = true)
    (a_27 : PySem.W.nsIn K mainGlobals "_sum_of_all_calls" = some (some (.ref f27)))
    (l_27 : K.lookup f27 = some ⟨oc27, od27, .func (PySem.W.fnOf "_sum_of_all_calls" "_sum_of_all_calls" (defArgs s__sum_of_all_calls) (defBody s__sum_of_all_calls) (defScope s__sum_of_all_calls) .none kv27 dc27 pm27 an27 cd27 ct27), sl27⟩)
    (c_27 : PySem.W.codeIn K cd27 "_sum_of_all_calls" = true)
    (k_27 : PySem.W.keepIn K (.ref f27) = true)
    (a_28 : PySem.W.nsIn K mainGlobals "greatest_sum" = some (some (.ref f28)))
    (l_28 : K.lookup f28 = some ⟨oc28, od28, .func (PySem.W.fnOf "greatest_sum" "greatest_sum" (defArgs s_greatest_sum) (defBody s_greatest_sum) (defScope s_greatest_sum) .none kv28 dc28 pm28 an28 cd28 ct28), sl28⟩)
    (c_28 : PySem.W.codeIn K cd28 "greatest_sum" = true)
    (k_28 : PySem.W.keepIn K (.ref f28) = true)
    (a_29 : PySem.W.nsIn K mainGlobals "greatest_sum" = some (some (.ref f29)))
    (l_29 : K.lookup f29 = some ⟨oc29, od29, .func (PySem.W.fnOf "greatest_sum" "greatest_sum" (defArgs s_greatest_sum) (defBody s_greatest_sum) (defScope s_greatest_sum) .none kv29 dc29 pm29 an29 cd29 ct29), sl29⟩)
    (c_29 : PySem.W.codeIn K cd29 "greatest_sum" = true)
    (k_29 : PySem.W.keepIn K (.ref f29) = true)
    (a_30 : PySem.W.nsIn K mainGlobals "check_small_right" = some (some (.ref f30)))
    (l_30 : K.lookup f30 = some ⟨oc30, od30, .func (PySem.W.fnOf "check_small_right" "check_small_right" (defArgs s_check_small_right) (defBody s_check_small_right) (defScope s_check_small_right) .none kv30 dc30 pm30 an30 cd30 ct30), sl30⟩)
    (c_30 : PySem.W.codeIn K cd30 "check_small_right" = true)
    (k_30 : PySem.W.keepIn K (.ref f30) = true)
    (a_31 : PySem.W.nsIn K mainGlobals "greatest_call" = some (some (.ref f31)))
    (l_31 : K.lookup f31 = some ⟨oc31, od31, .func (PySem.W.fnOf "greatest_call" "greatest_call" (defArgs s_greatest_call) (defBody s_greatest_call) (defScope s_greatest_call) .none kv31 dc31 pm31 an31 cd31 ct31), sl31⟩)
    (c_31 : PySem.W.codeIn K cd31 "greatest_call" = true)
    (k_31 : PySem.W.keepIn K (.ref f31) = true)
    (a_32 : PySem.W.nsIn K mainGlobals "sums_below" = some (some (.ref f32)))
    (l_32 : K.lookup f32 = some ⟨oc32, od32, .func (PySem.W.fnOf "sums_below" "sums_below" (defArgs s_sums_below) (defBody s_sums_below) (defScope s_sums_below) .none kv32 dc32 pm32 an32 cd32 ct32), sl32⟩)
    (c_32 : PySem.W.codeIn K cd32 "sums_below" = true)
    (k_32 : PySem.W.keepIn K (.ref f32) = true)
    (a_33 : PySem.W.nsIn K mainGlobals "cover" = some (some (.ref f33)))
    (l_33 : K.lookup f33 = some ⟨oc33, od33, .func (PySem.W.fnOf "cover" "cover" (defArgs s_cover) (defBody s_cover) (defScope s_cover) .none kv33 dc33 pm33 an33 cd33 ct33), sl33⟩)
    (c_33 : PySem.W.codeIn K cd33 "cover" = true)
    (k_33 : PySem.W.keepIn K (.ref f33) = true)
    (a_34 : PySem.W.nsIn K mainGlobals "_law_good" = some (some (.ref f34)))
    (l_34 : K.lookup f34 = some ⟨oc34, od34, .func (PySem.W.fnOf "_law_good" "_law_good" (defArgs s_l_good) (defBody s_l_good) (defScope s_l_good) .none kv34 dc34 pm34 an34 cd34 ct34), sl34⟩)
    (c_34 : PySem.W.codeIn K cd34 "_law_good" = true)
    (k_34 : PySem.W.keepIn K (.ref f34) = true)
    (a_35 : PySem.W.nsIn K mainGlobals "_law_take" = some (some (.ref f35)))
    (l_35 : K.lookup f35 = some ⟨oc35, od35, .func (PySem.W.fnOf "_law_take" "_law_take" (defArgs s_l_take) (defBody s_l_take) (defScope s_l_take) .none kv35 dc35 pm35 an35 cd35 ct35), sl35⟩)
    (c_35 : PySem.W.codeIn K cd35 "_law_take" = true)
    (k_35 : PySem.W.keepIn K (.ref f35) = true)
    (a_36 : PySem.W.nsIn K mainGlobals "_law_right" = some (some (.ref f36)))
    (l_36 : K.lookup f36 = some ⟨oc36, od36, .func (PySem.W.fnOf "_law_right" "_law_right" (defArgs s_l_right) (defBody s_l_right) (defScope s_l_right) .none kv36 dc36 pm36 an36 cd36 ct36), sl36⟩)
    (c_36 : PySem.W.codeIn K cd36 "_law_right" = true)
    (k_36 : PySem.W.keepIn K (.ref f36) = true)
    (a_37 : PySem.W.nsIn K mainGlobals "law" = some (some (.ref f37)))
    (l_37 : K.lookup f37 = some ⟨oc37, od37, .func (PySem.W.fnOf "law" "law" (defArgs s_law) (defBody s_law) (defScope s_law) .none kv37 dc37 pm37 an37 cd37 ct37), sl37⟩)
    (c_37 : PySem.W.codeIn K cd37 "law" = true)
    (k_37 : PySem.W.keepIn K (.ref f37) = true)
    (tabK : K.lookup T0 = none)
    (cod : PySem.W.codeHdIn K cc T0 = true)
    (hlaw : ∀ (κ : Pv.Cls) (T : Tx K κ mg) (ns : List Int), f_law T [.d (.lst (ns.map .int))] = .ok (.d (.bl true)) [.d (.lst (ns.map .int))]) :
    ∃ (fd : FuncData) (c T0 : Addr), h.get? T0 = some { cls := .none, data := .fields #[] } ∧ K.lookup T0 = none ∧ PySem.W.CodeHd h c T0 ∧ (∀ (s : Shared) (u : Value), BindsTo s fd ⟨[u], []⟩ [("_law_script", u)]) ∧ ∀ base : Heap, K.In base → base.Ns mainGlobals mg → GxR.TabB base mg c T0 → FnG P w K mg base 36 fa fd ["_law_script"] (spT K T0) := by
  have e := hfa.symm.trans (PySem.W.mg_of X G a_37)
  cases e
  have T : Tx K (kls at_FORM_LENGTHS T0) mg :=
    { tab0 := List.mem_cons_self, z_all := PySem.W.mg_none_of X G z_all, z_any := PySem.W.mg_none_of X G z_any, z_bool := PySem.W.mg_none_of X G z_bool, z_int := PySem.W.mg_none_of X G z_int, z_isinstance := PySem.W.mg_none_of X G z_isinstance, z_len := PySem.W.mg_none_of X G z_len, z_list := PySem.W.mg_none_of X G z_list, z_max := PySem.W.mg_none_of X G z_max, z_min := PySem.W.mg_none_of X G z_min, z_range := PySem.W.mg_none_of X G z_range, z_sorted := PySem.W.mg_none_of X G z_sorted, z_str := PySem.W.mg_none_of X G z_str, z_sum := PySem.W.mg_none_of X G z_sum, z_tuple := PySem.W.mg_none_of X G z_tuple, z_zip := PySem.W.mg_none_of X G z_zip, c_MOST_DEEP := ⟨_, PySem.W.mg_of X G s_MOST_DEEP⟩, c_MOST_LETTERS := ⟨_, PySem.W.mg_of X G s_MOST_LETTERS⟩, c_SMALL := ⟨_, PySem.W.mg_of X G s_SMALL⟩, g_FORM_LENGTHS := PySem.W.mg_of X G s_FORM_LENGTHS, v_FORM_LENGTHS := kvals_of (l := [(h0_FORM_LENGTHS, "none", tk0_FORM_LENGTHS, 1, ti0_FORM_LENGTHS), (h1_FORM_LENGTHS, "call", tk1_FORM_LENGTHS, 4, ti1_FORM_LENGTHS), (h2_FORM_LENGTHS, "all", tk2_FORM_LENGTHS, 2, ti2_FORM_LENGTHS), (h3_FORM_LENGTHS, "one", tk3_FORM_LENGTHS, 2, ti3_FORM_LENGTHS), (h4_FORM_LENGTHS, "within", tk4_FORM_LENGTHS, 3, ti4_FORM_LENGTHS), (h5_FORM_LENGTHS, "calls", tk5_FORM_LENGTHS, 3, ti5_FORM_LENGTHS)]) d_FORM_LENGTHS }
  have D_kd_FORM_LENGTHS : ∃ es n, KDict K w at_FORM_LENGTHS es n := ⟨_, _, d_FORM_LENGTHS, kd_of (a := at_FORM_LENGTHS) (n := nt_FORM_LENGTHS) (l := [(h0_FORM_LENGTHS, "none", tk0_FORM_LENGTHS, 1, ti0_FORM_LENGTHS), (h1_FORM_LENGTHS, "call", tk1_FORM_LENGTHS, 4, ti1_FORM_LENGTHS), (h2_FORM_LENGTHS, "all", tk2_FORM_LENGTHS, 2, ti2_FORM_LENGTHS), (h3_FORM_LENGTHS, "one", tk3_FORM_LENGTHS, 2, ti3_FORM_LENGTHS), (h4_FORM_LENGTHS, "within", tk4_FORM_LENGTHS, 3, ti4_FORM_LENGTHS), (h5_FORM_LENGTHS, "calls", tk5_FORM_LENGTHS, 3, ti5_FORM_LENGTHS)]) (List.forall_mem_cons.mpr ⟨hh0_FORM_LENGTHS, List.forall_mem_cons.mpr ⟨hh1_FORM_LENGTHS, List.forall_mem_cons.mpr ⟨hh2_FORM_LENGTHS, List.forall_mem_cons.mpr ⟨hh3_FORM_LENGTHS, List.forall_mem_cons.mpr ⟨hh4_FORM_LENGTHS, List.forall_mem_cons.mpr ⟨hh5_FORM_LENGTHS, fun _ h => (nomatch h)⟩⟩⟩⟩⟩⟩), lo_FORM_LENGTHS⟩
  have F0 := fun_mk (st := s_l_mixed) l_0 c_0 k_0
  have b0 := F0.binds (ps := p_l_mixed) fun _ _ _ _ _ _ us hl => match us, hl with | [_, _], _ => rfl
  have F1 := fun_mk (st := s_l_cell) l_1 c_1 k_1
  have b1 := F1.binds (ps := p_l_cell) fun _ _ _ _ _ _ us hl => match us, hl with | [_, _], _ => rfl
  have F2 := fun_mk (st := s_l_high) l_2 c_2 k_2
  have b2 := F2.binds (ps := p_l_high) fun _ _ _ _ _ _ us hl => match us, hl with | [_], _ => rfl
  have F3 := fun_mk (st := s_l_lines) l_3 c_3 k_3
  have b3 := F3.binds (ps := p_l_lines) fun _ _ _ _ _ _ us hl => match us, hl with | [_], _ => rfl
  have F4 := fun_mk (st := s_l_length) l_4 c_4 k_4
  have b4 := F4.binds (ps := p_l_length) fun _ _ _ _ _ _ us hl => match us, hl with | [_], _ => rfl
  have F5 := fun_mk (st := s_l_row) l_5 c_5 k_5
  have b5 := F5.binds (ps := p_l_row) fun _ _ _ _ _ _ us hl => match us, hl with | [_, _, _], _ => rfl
  have F6 := fun_mk (st := s_l_top) l_6 c_6 k_6
  have b6 := F6.binds (ps := p_l_top) fun _ _ _ _ _ _ us hl => match us, hl with | [_, _], _ => rfl
  have F7 := fun_mk (st := s_l_due) l_7 c_7 k_7
  have b7 := F7.binds (ps := p_l_due) fun _ _ _ _ _ _ us hl => match us, hl with | [_], _ => rfl
  have F8 := fun_mk (st := s__calls_from) l_8 c_8 k_8
  have b8 := F8.binds (ps := p__calls_from) fun _ _ _ _ _ _ us hl => match us, hl with | [_, _, _], _ => rfl
  have F9 := fun_mk (st := s__has_form) l_9 c_9 k_9
  have b9 := F9.binds (ps := p__has_form) fun _ _ _ _ _ _ us hl => match us, hl with | [_], _ => rfl
  have FC10 : FunC K "is_name" "is_name" s_is_name f10 (PySem.W.fnOf "is_name" "is_name" (defArgs s_is_name) (defBody s_is_name) (defScope s_is_name) .none kv10 dc10 pm10 an10 (.ref cc) ct10) cc := ⟨⟨_, _, _, _, _, _, _, _, rfl, l_10, c_10⟩, k_10⟩
  have F10 := FC10.fun
  have b10 := F10.binds (ps := p_is_name) fun _ _ _ _ _ _ us hl => match us, hl with | [_], _ => rfl
  have F11 := fun_mk (st := s_is_number) l_11 c_11 k_11
  have b11 := F11.binds (ps := p_is_number) fun _ _ _ _ _ _ us hl => match us, hl with | [_, _], _ => rfl
  have F12 := fun_mk (st := s__is_new_call) l_12 c_12 k_12
  have b12 := F12.binds (ps := p__is_new_call) fun _ _ _ _ _ _ us hl => match us, hl with | [_, _], _ => rfl
  have F13 := fun_mk (st := s_straight_within) l_13 c_13 k_13
  have b13 := F13.binds (ps := p_straight_within) fun _ _ _ _ _ _ us hl => match us, hl with | [_], _ => rfl
  have F14 := fun_mk (st := s__is_new_right) l_14 c_14 k_14
  have b14 := F14.binds (ps := p__is_new_right) fun _ _ _ _ _ _ us hl => match us, hl with | [_, _, _], _ => rfl
  have F15 := fun_mk (st := s_is_right) l_15 c_15 k_15
  have b15 := F15.binds (ps := p_is_right) fun _ _ _ _ _ _ us hl => match us, hl with | [_], _ => rfl
  have F16 := fun_mk (st := s_check_right) l_16 c_16 k_16
  have b16 := F16.binds (ps := p_check_right) fun _ _ _ _ _ _ us hl => match us, hl with | [_], _ => rfl
  have F17 := fun_mk (st := s__has_small_mosts) l_17 c_17 k_17
  have b17 := F17.binds (ps := p__has_small_mosts) fun _ _ _ _ _ _ us hl => match us, hl with | [_], _ => rfl
  have F18 := fun_mk (st := s__amount_below) l_18 c_18 k_18
  have b18 := F18.binds (ps := p__amount_below) fun _ _ _ _ _ _ us hl => match us, hl with | [_, _], _ => rfl
  have F19 := fun_mk (st := s__most_calls) l_19 c_19 k_19
  have b19 := F19.binds (ps := p__most_calls) fun _ _ _ _ _ _ us hl => match us, hl with | [_], _ => rfl
  have F20 := fun_mk (st := s__cut_at_count) l_20 c_20 k_20
  have b20 := F20.binds (ps := p__cut_at_count) fun _ _ _ _ _ _ us hl => match us, hl with | [_, _], _ => rfl
  have F21 := fun_mk (st := s__cut_at_sum) l_21 c_21 k_21
  have b21 := F21.binds (ps := p__cut_at_sum) fun _ _ _ _ _ _ us hl => match us, hl with | [_, _], _ => rfl
  have F22 := fun_mk (st := s_sum_of_first) l_22 c_22 k_22
  have b22 := F22.binds (ps := p_sum_of_first) fun _ _ _ _ _ _ us hl => match us, hl with | [_, _], _ => rfl
  have F23 := fun_mk (st := s__outdoes) l_23 c_23 k_23
  have b23 := F23.binds (ps := p__outdoes) fun _ _ _ _ _ _ us hl => match us, hl with | [_, _], _ => rfl
  have F24 := fun_mk (st := s__not_outdone) l_24 c_24 k_24
  have b24 := F24.binds (ps := p__not_outdone) fun _ _ _ _ _ _ us hl => match us, hl with | [_], _ => rfl
  have F25 := fun_mk (st := s_rows_of) l_25 c_25 k_25
  have b25 := F25.binds (ps := p_rows_of) fun _ _ _ _ _ _ us hl => match us, hl with | [_, _], _ => rfl
  have F26 := fun_mk (st := s__rows_of_all) l_26 c_26 k_26
  have b26 := F26.binds (ps := p__rows_of_all) fun _ _ _ _ _ _ us hl => match us, hl with | [_, _], _ => rfl
  have F27 := fun_mk (st := s__sum_of_all_calls) l_27 c_27 k_27
  have b27 := F27.binds (ps := p__sum_of_all_calls) fun _ _ _ _ _ _ us hl => match us, hl with | [_, _], _ => rfl
  have F28 := fun_mk (st := s_greatest_sum) l_28 c_28 k_28
  have b28 := F28.binds (ps := p_greatest_sum) fun _ _ _ _ _ _ us hl => match us, hl with | [_, _, _], _ => rfl
  have F29 := fun_mk (st := s_greatest_sum) l_29 c_29 k_29
  have b29 := F29.binds (ps := p_greatest_sum) fun _ _ _ _ _ _ us hl => match us, hl with | [_, _, _], _ => rfl
  have F30 := fun_mk (st := s_check_small_right) l_30 c_30 k_30
  have b30 := F30.binds (ps := p_check_small_right) fun _ _ _ _ _ _ us hl => match us, hl with | [_], _ => rfl
  have F31 := fun_mk (st := s_greatest_call) l_31 c_31 k_31
  have b31 := F31.binds (ps := p_greatest_call) fun _ _ _ _ _ _ us hl => match us, hl with | [_], _ => rfl
  have F32 := fun_mk (st := s_sums_below) l_32 c_32 k_32
  have b32 := F32.binds (ps := p_sums_below) fun _ _ _ _ _ _ us hl => match us, hl with | [_], _ => rfl
  have F33 := fun_mk (st := s_cover) l_33 c_33 k_33
  have b33 := F33.binds (ps := p_cover) fun _ _ _ _ _ _ us hl => match us, hl with | [_], _ => rfl
  have F34 := fun_mk (st := s_l_good) l_34 c_34 k_34
  have b34 := F34.binds (ps := p_l_good) fun _ _ _ _ _ _ us hl => match us, hl with | [_], _ => rfl
  have F35 := fun_mk (st := s_l_take) l_35 c_35 k_35
  have b35 := F35.binds (ps := p_l_take) fun _ _ _ _ _ _ us hl => match us, hl with | [_, _], _ => rfl
  have F36 := fun_mk (st := s_l_right) l_36 c_36 k_36
  have b36 := F36.binds (ps := p_l_right) fun _ _ _ _ _ _ us hl => match us, hl with | [_, _, _, _], _ => rfl
  have F37 := fun_mk (st := s_law) l_37 c_37 k_37
  exact ⟨PySem.W.fnOf "law" "law" (defArgs s_law) (defBody s_law) (defScope s_law) .none kv37 dc37 pm37 an37 cd37 ct37, cc, T0, tab, tabK, PySem.W.codeHd_of_K X cod, fun s us => .of_eq rfl, fun base _ _ TB => by
    have D_l_mixed : Def P w K (kls at_FORM_LENGTHS T0) mg base "_law_mixed" 1 p_l_mixed (f_l_mixed T) := def_of F0 (PySem.W.mg_of X G a_0) b0 (ok_l_mixed T F0 )
    have D_l_cell : Def P w K (kls at_FORM_LENGTHS T0) mg base "_law_cell" 2 p_l_cell (f_l_cell T) := def_of F1 (PySem.W.mg_of X G a_1) b1 (ok_l_cell T F1 D_l_mixed)
    have D_l_high : Def P w K (kls at_FORM_LENGTHS T0) mg base "_law_high" 7 p_l_high (f_l_high T 7) := def_of F2 (PySem.W.mg_of X G a_2) b2 (ok_l_high T F2 (fun l F' h => def_of F2 (PySem.W.mg_of X G a_2) b2 h)  7)
    have D_l_lines : Def P w K (kls at_FORM_LENGTHS T0) mg base "_law_lines" 1 p_l_lines (f_l_lines T) := def_of F3 (PySem.W.mg_of X G a_3) b3 (ok_l_lines T F3 )
    have D_l_length : Def P w K (kls at_FORM_LENGTHS T0) mg base "_law_length" 7 p_l_length (f_l_length T 7) := def_of F4 (PySem.W.mg_of X G a_4) b4 (ok_l_length T F4 (fun l F' h => def_of F4 (PySem.W.mg_of X G a_4) b4 h)  7)
    have D_l_row : Def P w K (kls at_FORM_LENGTHS T0) mg base "_law_row" 7 p_l_row (f_l_row T 7) := def_of F5 (PySem.W.mg_of X G a_5) b5 (ok_l_row T F5 (fun l F' h => def_of F5 (PySem.W.mg_of X G a_5) b5 h)  7)
    have D_l_top : Def P w K (kls at_FORM_LENGTHS T0) mg base "_law_top" 14 p_l_top (f_l_top T 7) := def_of F6 (PySem.W.mg_of X G a_6) b6 (ok_l_top T F6 (fun l F' h => def_of F6 (PySem.W.mg_of X G a_6) b6 h) D_l_length D_l_row 7)
    have D_l_due : Def P w K (kls at_FORM_LENGTHS T0) mg base "_law_due" 15 p_l_due (f_l_due T) := def_of F7 (PySem.W.mg_of X G a_7) b7 (ok_l_due T F7 D_l_high D_l_lines D_l_top)
    have D__calls_from : Def P w K (kls at_FORM_LENGTHS T0) mg base "_calls_from" 1 p__calls_from (f__calls_from T) := def_of F8 (PySem.W.mg_of X G a_8) b8 (ok__calls_from T F8 )
    have D__has_form : Def P w K (kls at_FORM_LENGTHS T0) mg base "_has_form" 1 p__has_form (f__has_form T) := def_of F9 (PySem.W.mg_of X G a_9) b9 (ok__has_form T F9 D_kd_FORM_LENGTHS)
    have D_is_name : Def P w K (kls at_FORM_LENGTHS T0) mg base "is_name" 1 p_is_name (f_is_name T) := def_of F10 (PySem.W.mg_of X G a_10) b10 (ok_is_name T FC10 TB )
    have D_is_number : Def P w K (kls at_FORM_LENGTHS T0) mg base "is_number" 1 p_is_number (f_is_number T) := def_of F11 (PySem.W.mg_of X G a_11) b11 (ok_is_number T F11 )
    have D__is_new_call : Def P w K (kls at_FORM_LENGTHS T0) mg base "_is_new_call" 2 p__is_new_call (f__is_new_call T) := def_of F12 (PySem.W.mg_of X G a_12) b12 (ok__is_new_call T F12 D_is_name D_is_number)
    have D_straight_within : Def P w K (kls at_FORM_LENGTHS T0) mg base "straight_within" 1 p_straight_within (f_straight_within T) := def_of F13 (PySem.W.mg_of X G a_13) b13 (ok_straight_within T F13 )
    have D__is_new_right : Def P w K (kls at_FORM_LENGTHS T0) mg base "_is_new_right" 9 p__is_new_right (f__is_new_right T 7) := def_of F14 (PySem.W.mg_of X G a_14) b14 (ok__is_new_right T F14 (fun l F' h => def_of F14 (PySem.W.mg_of X G a_14) b14 h) D__has_form D__is_new_call D_is_number D_straight_within 7)
    have D_is_right : Def P w K (kls at_FORM_LENGTHS T0) mg base "is_right" 10 p_is_right (f_is_right T) := def_of F15 (PySem.W.mg_of X G a_15) b15 (ok_is_right T F15 D__is_new_right)
    have D_check_right : Def P w K (kls at_FORM_LENGTHS T0) mg base "check_right" 11 p_check_right (f_check_right T) := def_of F16 (PySem.W.mg_of X G a_16) b16 (ok_check_right T F16 D_is_right)
    have D__has_small_mosts : Def P w K (kls at_FORM_LENGTHS T0) mg base "_has_small_mosts" 8 p__has_small_mosts (f__has_small_mosts T 7) := def_of F17 (PySem.W.mg_of X G a_17) b17 (ok__has_small_mosts T F17 (fun l F' h => def_of F17 (PySem.W.mg_of X G a_17) b17 h) D_straight_within 7)
    have D__amount_below : Def P w K (kls at_FORM_LENGTHS T0) mg base "_amount_below" 1 p__amount_below (f__amount_below T) := def_of F18 (PySem.W.mg_of X G a_18) b18 (ok__amount_below T F18 )
    have D__most_calls : Def P w K (kls at_FORM_LENGTHS T0) mg base "_most_calls" 7 p__most_calls (f__most_calls T 7) := def_of F19 (PySem.W.mg_of X G a_19) b19 (ok__most_calls T F19 (fun l F' h => def_of F19 (PySem.W.mg_of X G a_19) b19 h)  7)
    have D__cut_at_count : Def P w K (kls at_FORM_LENGTHS T0) mg base "_cut_at_count" 1 p__cut_at_count (f__cut_at_count T) := def_of F20 (PySem.W.mg_of X G a_20) b20 (ok__cut_at_count T F20 )
    have D__cut_at_sum : Def P w K (kls at_FORM_LENGTHS T0) mg base "_cut_at_sum" 1 p__cut_at_sum (f__cut_at_sum T) := def_of F21 (PySem.W.mg_of X G a_21) b21 (ok__cut_at_sum T F21 )
    have D_sum_of_first : Def P w K (kls at_FORM_LENGTHS T0) mg base "sum_of_first" 1 p_sum_of_first (f_sum_of_first T) := def_of F22 (PySem.W.mg_of X G a_22) b22 (ok_sum_of_first T F22 )
    have D__outdoes : Def P w K (kls at_FORM_LENGTHS T0) mg base "_outdoes" 2 p__outdoes (f__outdoes T) := def_of F23 (PySem.W.mg_of X G a_23) b23 (ok__outdoes T F23 D_sum_of_first)
    have D__not_outdone : Def P w K (kls at_FORM_LENGTHS T0) mg base "_not_outdone" 3 p__not_outdone (f__not_outdone T) := def_of F24 (PySem.W.mg_of X G a_24) b24 (ok__not_outdone T F24 D__outdoes)
    have D_rows_of : Def P w K (kls at_FORM_LENGTHS T0) mg base "rows_of" 17 p_rows_of (f_rows_of T 7) := def_of F25 (PySem.W.mg_of X G a_25) b25 (ok_rows_of T F25 (fun l F' h => def_of F25 (PySem.W.mg_of X G a_25) b25 h) F26 (fun l F' h => def_of F26 (PySem.W.mg_of X G a_26) b26 h) D__amount_below D__cut_at_count D__cut_at_sum D__not_outdone 7)
    have D__rows_of_all : Def P w K (kls at_FORM_LENGTHS T0) mg base "_rows_of_all" 18 p__rows_of_all (f__rows_of_all T (f_rows_of T 7)) := def_of F26 (PySem.W.mg_of X G a_26) b26 (ok__rows_of_all T F26 (lv := 17) (by decide) D_rows_of)
    have D__sum_of_all_calls : Def P w K (kls at_FORM_LENGTHS T0) mg base "_sum_of_all_calls" 31 p__sum_of_all_calls (f__sum_of_all_calls T 7) := def_of F27 (PySem.W.mg_of X G a_27) b27 (ok__sum_of_all_calls T F27 (fun l F' h => def_of F27 (PySem.W.mg_of X G a_27) b27 h) F28 (fun l F' h => def_of F28 (PySem.W.mg_of X G a_28) b28 h) D__amount_below D__most_calls D_rows_of D_sum_of_first 7)
    have D_greatest_sum : Def P w K (kls at_FORM_LENGTHS T0) mg base "greatest_sum" 32 p_greatest_sum (f_greatest_sum T (f__sum_of_all_calls T 7)) := def_of F28 (PySem.W.mg_of X G a_28) b28 (ok_greatest_sum T F28 (lv := 31) (by decide) D__sum_of_all_calls D__most_calls D_rows_of D_sum_of_first)
    have D_greatest_sum : Def P w K (kls at_FORM_LENGTHS T0) mg base "greatest_sum" 32 p_greatest_sum (f_greatest_sum T (f__sum_of_all_calls T 7)) := def_of F29 (PySem.W.mg_of X G a_29) b29 (ok_greatest_sum T F29 (lv := 31) (by decide) D__sum_of_all_calls D__most_calls D_rows_of D_sum_of_first)
    have D_check_small_right : Def P w K (kls at_FORM_LENGTHS T0) mg base "check_small_right" 33 p_check_small_right (f_check_small_right T) := def_of F30 (PySem.W.mg_of X G a_30) b30 (ok_check_small_right T F30 D__has_small_mosts D_greatest_sum)
    have D_greatest_call : Def P w K (kls at_FORM_LENGTHS T0) mg base "greatest_call" 8 p_greatest_call (f_greatest_call T 7) := def_of F31 (PySem.W.mg_of X G a_31) b31 (ok_greatest_call T F31 (fun l F' h => def_of F31 (PySem.W.mg_of X G a_31) b31 h) D_straight_within 7)
    have D_sums_below : Def P w K (kls at_FORM_LENGTHS T0) mg base "sums_below" 33 p_sums_below (f_sums_below T) := def_of F32 (PySem.W.mg_of X G a_32) b32 (ok_sums_below T F32 D_greatest_call D_greatest_sum)
    have D_cover : Def P w K (kls at_FORM_LENGTHS T0) mg base "cover" 34 p_cover (f_cover T) := def_of F33 (PySem.W.mg_of X G a_33) b33 (ok_cover T F33 D__calls_from D_check_right D_check_small_right D_sums_below)
    have D_l_good : Def P w K (kls at_FORM_LENGTHS T0) mg base "_law_good" 35 p_l_good (f_l_good T) := def_of F34 (PySem.W.mg_of X G a_34) b34 (ok_l_good T F34 D_l_due D_cover)
    have D_l_take : Def P w K (kls at_FORM_LENGTHS T0) mg base "_law_take" 1 p_l_take (f_l_take T) := def_of F35 (PySem.W.mg_of X G a_35) b35 (ok_l_take T F35 )
    have D_l_right : Def P w K (kls at_FORM_LENGTHS T0) mg base "_law_right" 8 p_l_right (f_l_right T 7) := def_of F36 (PySem.W.mg_of X G a_36) b36 (ok_l_right T F36 (fun l F' h => def_of F36 (PySem.W.mg_of X G a_36) b36 h) D_l_take 7)
    exact FnG.imp (ok_law T F37 D_l_cell D_l_due D_l_good D_l_right D_cover) (spT_of rfl (hlaw _ T))⟩
end K33
open PySem PySem.W PyProof.Rows
set_option maxRecDepth 100000
set_option maxHeartbeats 0
local macro_rules | `(tactic| o_head ($f:ident $k:term $a:term $e:term)) => `(tactic| o_head (PySem.W.kmHook $k $a $e [61]))
theorem PySem.Challenge.cw_blindtill_k33_covers_of_calls_alone_holds : PySem.Challenge.rw_blindtill_k33_covers_of_calls_alone.Holds := by
  w_on; o_law; k_head; (case hw => w_witness2)
  k_fill
  refine K33.law_end (l := PySem.Challenge.rw_blindtill_k33_covers_of_calls_alone) (n := 63) (k := 36) (x := "_law_script") rfl (by decide) rfl ⟨rfl, by decide, by decide⟩ (fun w h Y => PySem.W.km_in_of Y) ?F
  case F =>
    intro w mg fa h Y KX G hmg
    refine' K33.all_mk KX (PySem.W.km_tabs_of Y 61 (by simp)) G hmg ?z_all ?z_any ?z_bool ?z_int ?z_isinstance ?z_len ?z_list ?z_max ?z_min ?z_range ?z_sorted ?z_str ?z_sum ?z_tuple ?z_zip ?s_MOST_DEEP ?s_MOST_LETTERS ?s_SMALL ?s_FORM_LENGTHS ?d_FORM_LENGTHS ?hh0_FORM_LENGTHS ?hh1_FORM_LENGTHS ?hh2_FORM_LENGTHS ?hh3_FORM_LENGTHS ?hh4_FORM_LENGTHS ?hh5_FORM_LENGTHS ?lo_FORM_LENGTHS ?a_0 ?l_0 ?c_0 ?k_0 ?a_1 ?l_1 ?c_1 ?k_1 ?a_2 ?l_2 ?c_2 ?k_2 ?a_3 ?l_3 ?c_3 ?k_3 ?a_4 ?l_4 ?c_4 ?k_4 ?a_5 ?l_5 ?c_5 ?k_5 ?a_6 ?l_6 ?c_6 ?k_6 ?a_7 ?l_7 ?c_7 ?k_7 ?a_8 ?l_8 ?c_8 ?k_8 ?a_9 ?l_9 ?c_9 ?k_9 ?a_10 ?l_10 ?c_10 ?k_10 ?a_11 ?l_11 ?c_11 ?k_11 ?a_12 ?l_12 ?c_12 ?k_12 ?a_13 ?l_13 ?c_13 ?k_13 ?a_14 ?l_14 ?c_14 ?k_14 ?a_15 ?l_15 ?c_15 ?k_15 ?a_16 ?l_16 ?c_16 ?k_16 ?a_17 ?l_17 ?c_17 ?k_17 ?a_18 ?l_18 ?c_18 ?k_18 ?a_19 ?l_19 ?c_19 ?k_19 ?a_20 ?l_20 ?c_20 ?k_20 ?a_21 ?l_21 ?c_21 ?k_21 ?a_22 ?l_22 ?c_22 ?k_22 ?a_23 ?l_23 ?c_23 ?k_23 ?a_24 ?l_24 ?c_24 ?k_24 ?a_25 ?l_25 ?c_25 ?k_25 ?a_26 ?l_26 ?c_26 ?k_26 ?a_27 ?l_27 ?c_27 ?k_27 ?a_28 ?l_28 ?c_28 ?k_28 ?a_29 ?l_29 ?c_29 ?k_29 ?a_30 ?l_30 ?c_30 ?k_30 ?a_31 ?l_31 ?c_31 ?k_31 ?a_32 ?l_32 ?c_32 ?k_32 ?a_33 ?l_33 ?c_33 ?k_33 ?a_34 ?l_34 ?c_34 ?k_34 ?a_35 ?l_35 ?c_35 ?k_35 ?a_36 ?l_36 ?c_36 ?k_36 ?a_37 ?l_37 ?c_37 ?k_37 ?tabK ?cod (fun κ T ns => K33.law_true T ns)
    (case z_all => k_is)
    (case z_any => k_is)
    (case z_bool => k_is)
    (case z_int => k_is)
    (case z_isinstance => k_is)
    (case z_len => k_is)
    (case z_list => k_is)
    (case z_max => k_is)
    (case z_min => k_is)
    (case z_range => k_is)
    (case z_sorted => k_is)
    (case z_str => k_is)
    (case z_sum => k_is)
    (case z_tuple => k_is)
    (case z_zip => k_is)
    (case s_MOST_DEEP => k_is)
    (case s_MOST_LETTERS => k_is)
    (case s_SMALL => k_is)
    (case s_FORM_LENGTHS => k_is)
    (case d_FORM_LENGTHS => k_is)
    (case hh0_FORM_LENGTHS => rfl)
    (case hh1_FORM_LENGTHS => rfl)
    (case hh2_FORM_LENGTHS => rfl)
    (case hh3_FORM_LENGTHS => rfl)
    (case hh4_FORM_LENGTHS => rfl)
    (case hh5_FORM_LENGTHS => rfl)
    (case lo_FORM_LENGTHS => rfl)
    (case a_0 => k_is)
    (case l_0 => k_is)
    (case c_0 => k_is)
    (case k_0 => k_is)
    (case a_1 => k_is)
    (case l_1 => k_is)
    (case c_1 => k_is)
    (case k_1 => k_is)
    (case a_2 => k_is)
    (case l_2 => k_is)
    (case c_2 => k_is)
    (case k_2 => k_is)
    (case a_3 => k_is)
    (case l_3 => k_is)
    (case c_3 => k_is)
    (case k_3 => k_is)
    (case a_4 => k_is)
    (case l_4 => k_is)
    (case c_4 => k_is)
    (case k_4 => k_is)
    (case a_5 => k_is)
    (case l_5 => k_is)
    (case c_5 => k_is)
    (case k_5 => k_is)
    (case a_6 => k_is)
    (case l_6 => k_is)
    (case c_6 => k_is)
    (case k_6 => k_is)
    (case a_7 => k_is)
    (case l_7 => k_is)
    (case c_7 => k_is)
    (case k_7 => k_is)
    (case a_8 => k_is)
    (case l_8 => k_is)
    (case c_8 => k_is)
    (case k_8 => k_is)
    (case a_9 => k_is)
    (case l_9 => k_is)
    (case c_9 => k_is)
    (case k_9 => k_is)
    (case a_10 => k_is)
    (case l_10 => k_is)
    (case c_10 => k_is)
    (case k_10 => k_is)
    (case a_11 => k_is)
    (case l_11 => k_is)
    (case c_11 => k_is)
    (case k_11 => k_is)
    (case a_12 => k_is)
    (case l_12 => k_is)
    (case c_12 => k_is)
    (case k_12 => k_is)
    (case a_13 => k_is)
    (case l_13 => k_is)
    (case c_13 => k_is)
    (case k_13 => k_is)
    (case a_14 => k_is)
    (case l_14 => k_is)
    (case c_14 => k_is)
    (case k_14 => k_is)
    (case a_15 => k_is)
    (case l_15 => k_is)
    (case c_15 => k_is)
    (case k_15 => k_is)
    (case a_16 => k_is)
    (case l_16 => k_is)
    (case c_16 => k_is)
    (case k_16 => k_is)
    (case a_17 => k_is)
    (case l_17 => k_is)
    (case c_17 => k_is)
    (case k_17 => k_is)
    (case a_18 => k_is)
    (case l_18 => k_is)
    (case c_18 => k_is)
    (case k_18 => k_is)
    (case a_19 => k_is)
    (case l_19 => k_is)
    (case c_19 => k_is)
    (case k_19 => k_is)
    (case a_20 => k_is)
    (case l_20 => k_is)
    (case c_20 => k_is)
    (case k_20 => k_is)
    (case a_21 => k_is)
    (case l_21 => k_is)
    (case c_21 => k_is)
    (case k_21 => k_is)
    (case a_22 => k_is)
    (case l_22 => k_is)
    (case c_22 => k_is)
    (case k_22 => k_is)
    (case a_23 => k_is)
    (case l_23 => k_is)
    (case c_23 => k_is)
    (case k_23 => k_is)
    (case a_24 => k_is)
    (case l_24 => k_is)
    (case c_24 => k_is)
    (case k_24 => k_is)
    (case a_25 => k_is)
    (case l_25 => k_is)
    (case c_25 => k_is)
    (case k_25 => k_is)
    (case a_26 => k_is)
    (case l_26 => k_is)
    (case c_26 => k_is)
    (case k_26 => k_is)
    (case a_27 => k_is)
    (case l_27 => k_is)
    (case c_27 => k_is)
    (case k_27 => k_is)
    (case a_28 => k_is)
    (case l_28 => k_is)
    (case c_28 => k_is)
    (case k_28 => k_is)
    (case a_29 => k_is)
    (case l_29 => k_is)
    (case c_29 => k_is)
    (case k_29 => k_is)
    (case a_30 => k_is)
    (case l_30 => k_is)
    (case c_30 => k_is)
    (case k_30 => k_is)
    (case a_31 => k_is)
    (case l_31 => k_is)
    (case c_31 => k_is)
    (case k_31 => k_is)
    (case a_32 => k_is)
    (case l_32 => k_is)
    (case c_32 => k_is)
    (case k_32 => k_is)
    (case a_33 => k_is)
    (case l_33 => k_is)
    (case c_33 => k_is)
    (case k_33 => k_is)
    (case a_34 => k_is)
    (case l_34 => k_is)
    (case c_34 => k_is)
    (case k_34 => k_is)
    (case a_35 => k_is)
    (case l_35 => k_is)
    (case c_35 => k_is)
    (case k_35 => k_is)
    (case a_36 => k_is)
    (case l_36 => k_is)
    (case c_36 => k_is)
    (case k_36 => k_is)
    (case a_37 => k_is)
    (case l_37 => k_is)
    (case c_37 => k_is)
    (case k_37 => k_is)
    (case tabK => kernel_rfl)
    (case cod => kernel_rfl)
