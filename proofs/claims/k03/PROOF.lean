import PyProof.Rows.All
import HandS.ForMost
import HandS.ForExc
import HandS.Sort
import HandS.IsInst
import HandS.Star
import HandS.Gcd
import HandS.RevRange
import HandS.Conv
import HandS.Rev
import HandS.Zip
import HandS.DictComp
import HandS.Set
import HandS.Strs
import HandS.TupSets
import KE.SortData
import KE.DataCmp
import KE.DataFind
import KE.DataIsa
import KE.DataMinMax
import KE.DatumIndex
import HandS.TupMul
import HandS.TupLen
import HandS.RevTup
import HandS.TupAny
import HandS.Style
import KE.KMathGC
import KE.GoesMore
import KE.KDictDisplayH
import KE.GoesEnum
import KE.GoesEnumKw
import HandS.Iter
import KE.KDictSum
import KE.KDictCopyH
import HandS.Defaults
import HandS.Head0
import HandS.Head1
import HandS.Head2
import HandS.HeadEnd
import HandS.HeadHook1
import HandS.HeadHook2
import PySem.Challenge.RW_nolothome_k03_whole_all_rows
import HandS.Head3
import KE.DataEq

section TP0
set_option Elab.async false
set_option linter.all false
set_option maxRecDepth 100000
set_option maxHeartbeats 1200000
namespace Pu
open PyProof.Rows L2 PySem PySem.Spec

/-! ### data that a heap holds -/
abbrev LIM : Nat := 1000000
theorem lim_lt {n : Nat} (h : n ≤ LIM) : n < sizeLine := by rw [sizeLine_eq]; exact Nat.lt_of_le_of_lt h (by decide)
theorem lim_le {n : Nat} (h : n ≤ LIM) : n ≤ sizeLine := Nat.le_of_lt (lim_lt h)
def keyV1 : Key → PyData
  | .inl i => .int i
  | .inr x => .str x
def keyD (k : List Key) : PyData := .tuple (k.map keyV1)

def Ex (G H : Hp) : Prop := ∀ a o, G a = some o → H a = some o
theorem Ex.refl (H : Hp) : Ex H H := fun _ _ => id
theorem Ex.trans {G H J : Hp} (p : Ex G H) (q : Ex H J) : Ex G J := fun x o h => q x o (p x o h)
theorem Ex.new {G : Hp} {p : Addr} {o : HO} (no : G p = none) : Ex G (upd G p o) := fun _ _ e => (upd_ne (ne_of_none e no)).trans e
theorem Ex.rd {G H : Hp} {a : Addr} {u : HO} (e : Ex G H) (h : Rd G a u) : Rd H a u := by
  rcases h with h | ⟨o, h⟩
  · exact .inl (e a _ h)
  · exact .inr ⟨o, e a _ h⟩
theorem Ex.free {G H : Hp} (e : Ex G H) {p : Addr} (h : H p = none) : G p = none := by
  cases q : G p with
  | none => rfl
  | some o => rw [e p o q] at h; cases h

mutual
inductive Rp (G : Hp) : V → PyData → Prop
  | non : Rp G .non .none
  | bl (b : Bool) : Rp G (.bl b) (.bool b)
  | int (i : Int) : Rp G (.int i) (.int i)
  | str (x : Str) : Rp G (.str x) (.str x)
  | lst {a : Addr} {xs : List V} {ds : List PyData} : G a = some (.lst xs) → ds.length ≤ LIM → RpA G xs ds → Rp G (.ref a) (.list ds)
  | tup {a : Addr} {xs : List V} {ds : List PyData} : G a = some (.tup xs) → ds.length ≤ LIM → RpA G xs ds → Rp G (.ref a) (.tuple ds)
  | dic {a : Addr} {ws : List (List Key × V)} {kvs : List (PyData × PyData)} : Rd G a (.dT ws) → kvs.length ≤ LIM → RpK G ws kvs → Rp G (.ref a) (.dict kvs)
inductive RpA (G : Hp) : List V → List PyData → Prop
  | nil : RpA G [] []
  | cons {v : V} {vs : List V} {d : PyData} {ds : List PyData} : Rp G v d → RpA G vs ds → RpA G (v :: vs) (d :: ds)
inductive RpK (G : Hp) : List (List Key × V) → List (PyData × PyData) → Prop
  | nil : RpK G [] []
  | cons {k : List Key} {v : V} {ws : List (List Key × V)} {d : PyData} {ds : List (PyData × PyData)} : k.length ≤ LIM → Rp G v d → RpK G ws ds → RpK G ((k, v) :: ws) ((keyD k, d) :: ds)
end

mutual
theorem Rp.mono {G G' : Hp} (e : Ex G G') : ∀ {v d}, Rp G v d → Rp G' v d
  | _, _, .non => .non
  | _, _, .bl b => .bl b
  | _, _, .int i => .int i
  | _, _, .str x => .str x
  | _, _, .lst h l r => .lst (e _ _ h) l (RpA.mono e r)
  | _, _, .tup h l r => .tup (e _ _ h) l (RpA.mono e r)
  | _, _, .dic h l r => .dic (e.rd h) l (RpK.mono e r)
theorem RpA.mono {G G' : Hp} (e : Ex G G') : ∀ {v d}, RpA G v d → RpA G' v d
  | _, _, .nil => .nil
  | _, _, .cons h r => .cons (Rp.mono e h) (RpA.mono e r)
theorem RpK.mono {G G' : Hp} (e : Ex G G') : ∀ {v d}, RpK G v d → RpK G' v d
  | _, _, .nil => .nil
  | _, _, .cons l h r => .cons l (Rp.mono e h) (RpK.mono e r)
end
mutual
theorem Rp.lock {G G' : Hp} (e1 : ∀ a ws, Rd G a (.dT ws) → Rd G' a (.dT ws)) (e2 : ∀ a xs, G a = some (.tup xs) → G' a = some (.tup xs)) (e3 : ∀ a xs, G a = some (.lst xs) → G' a = some (.lst xs)) : ∀ {v d}, Rp G v d → Rp G' v d
  | _, _, .non => .non
  | _, _, .bl b => .bl b
  | _, _, .int i => .int i
  | _, _, .str x => .str x
  | _, _, .lst h l r => .lst (e3 _ _ h) l (RpA.lock e1 e2 e3 r)
  | _, _, .tup h l r => .tup (e2 _ _ h) l (RpA.lock e1 e2 e3 r)
  | _, _, .dic h l r => .dic (e1 _ _ h) l (RpK.lock e1 e2 e3 r)
theorem RpA.lock {G G' : Hp} (e1 : ∀ a ws, Rd G a (.dT ws) → Rd G' a (.dT ws)) (e2 : ∀ a xs, G a = some (.tup xs) → G' a = some (.tup xs)) (e3 : ∀ a xs, G a = some (.lst xs) → G' a = some (.lst xs)) : ∀ {v d}, RpA G v d → RpA G' v d
  | _, _, .nil => .nil
  | _, _, .cons h r => .cons (Rp.lock e1 e2 e3 h) (RpA.lock e1 e2 e3 r)
theorem RpK.lock {G G' : Hp} (e1 : ∀ a ws, Rd G a (.dT ws) → Rd G' a (.dT ws)) (e2 : ∀ a xs, G a = some (.tup xs) → G' a = some (.tup xs)) (e3 : ∀ a xs, G a = some (.lst xs) → G' a = some (.lst xs)) : ∀ {v d}, RpK G v d → RpK G' v d
  | _, _, .nil => .nil
  | _, _, .cons l h r => .cons l (Rp.lock e1 e2 e3 h) (RpK.lock e1 e2 e3 r)
end
theorem RpA.length {G : Hp} : ∀ {vs ds}, RpA G vs ds → vs.length = ds.length
  | _, _, .nil => rfl
  | _, _, .cons _ r => congrArg (· + 1) (RpA.length r)
theorem RpK.length {G : Hp} : ∀ {vs ds}, RpK G vs ds → vs.length = ds.length
  | _, _, .nil => rfl
  | _, _, .cons _ _ r => congrArg (· + 1) (RpK.length r)
theorem RpA.get {G : Hp} : ∀ {vs ds} {i : Nat} {d : PyData}, RpA G vs ds → ds[i]? = some d → ∃ v, vs[i]? = some v ∧ Rp G v d
  | _, _, _, _, .nil, e => nomatch e
  | _, _, 0, _, .cons h _, e => by simp at e; subst e; exact ⟨_, rfl, h⟩
  | _, _, i + 1, _, .cons _ r, e => by
    obtain ⟨v, h1, h2⟩ := RpA.get (i := i) r (by simpa using e)
    exact ⟨v, by simpa using h1, h2⟩
theorem RpA.get' {G : Hp} : ∀ {vs ds} {i : Nat} {v : V}, RpA G vs ds → vs[i]? = some v → ∃ d, ds[i]? = some d ∧ Rp G v d
  | _, _, _, _, .nil, e => nomatch e
  | _, _, 0, _, .cons h _, e => by simp at e; subst e; exact ⟨_, rfl, h⟩
  | _, _, i + 1, _, .cons _ r, e => by
    obtain ⟨v, h1, h2⟩ := RpA.get' (i := i) r (by simpa using e)
    exact ⟨v, by simpa using h1, h2⟩
theorem RpA.append {G : Hp} : ∀ {vs ds us es}, RpA G vs ds → RpA G us es → RpA G (vs ++ us) (ds ++ es)
  | _, _, _, _, .nil, r => r
  | _, _, _, _, .cons h t, r => .cons h (RpA.append t r)
theorem RpA.take {G : Hp} : ∀ {vs ds} (n : Nat), RpA G vs ds → RpA G (vs.take n) (ds.take n)
  | _, _, 0, _ => .nil
  | _, _, _ + 1, .nil => .nil
  | _, _, n + 1, .cons h t => .cons h (RpA.take n t)
theorem RpA.drop {G : Hp} : ∀ {vs ds} (n : Nat), RpA G vs ds → RpA G (vs.drop n) (ds.drop n)
  | _, _, 0, r => r
  | _, _, _ + 1, .nil => .nil
  | _, _, n + 1, .cons _ t => RpA.drop n t
theorem RpA.set {G : Hp} {v d} (h : Rp G v d) : ∀ {vs ds} (i : Nat), RpA G vs ds → RpA G (vs.set i v) (ds.set i d)
  | _, _, _, .nil => .nil
  | _, _, 0, .cons _ t => .cons h t
  | _, _, i + 1, .cons q t => .cons q (RpA.set h i t)
theorem RpA.rep {G : Hp} {xs ds} (h : RpA G xs ds) : ∀ k : Nat, RpA G (List.replicate k xs).flatten (List.replicate k ds).flatten
  | 0 => .nil
  | k + 1 => by
    simp only [List.replicate_succ, List.flatten_cons]
    exact h.append (RpA.rep h k)
theorem RpA.reverse {G : Hp} {xs ds} (h : RpA G xs ds) : RpA G xs.reverse ds.reverse := by
  induction h using RpA.rec (motive_1 := fun _ _ _ => True) (motive_3 := fun _ _ _ => True) with
  | nil => exact .nil
  | cons h1 _ _ ih => rw [List.reverse_cons, List.reverse_cons]; exact ih.append (.cons h1 .nil)
  | _ => trivial

/-! ### the environment -/
/-- the state of the draws: the law's row -/
structure Drw where
  script : List Int
  a : Int
  b : Int
  c : Int
def RowAt (κ : PySem.W.Frag) (G H : Hp) (p : Addr) (d : Drw) : Prop := ∃ sa, H p = some (.lst [.ref sa, .int d.a, .int d.b, .int d.c]) ∧ SqL κ G sa (d.script.map V.int)
theorem sqL_ex {κ : PySem.W.Frag} {G G' : Hp} {a : Addr} {xs : List V} (e : Ex G G') : SqL κ G a xs → SqL κ G' a xs
  | .inl h => .inl (e.rd h)
  | .inr h => .inr h
theorem RowAt.some {κ : PySem.W.Frag} {G H : Hp} {p : Addr} {d : Drw} : RowAt κ G H p d → ∃ o, H p = some o ∧ (∀ xs, o ≠ .tup xs) ∧ Mut (some o)
  | ⟨_, h, _⟩ => ⟨_, h, (fun _ z => nomatch z), trivial⟩
theorem RowAt.mono {κ : PySem.W.Frag} {G H G' H' : Hp} {p : Addr} {d : Drw} (e : Ex G G') (h : H p = H' p) : RowAt κ G H p d → RowAt κ G' H' p d
  | ⟨sa, x, r⟩ => ⟨sa, by rw [← h]; exact x, sqL_ex e r⟩
inductive Sl where
  | un | dat (d : PyData) | own (d : PyData) | par (loc : Bool) (d : Drw) | scr (s : List Int)
abbrev Env := List Sl
def OwnAt (G H : Hp) (p : Addr) : PyData → Prop
  | .list ds => ds.length ≤ LIM ∧ ∃ vs, H p = some (.lst vs) ∧ RpA G vs ds
  | .dict kvs => kvs.length ≤ LIM ∧ ∃ ws, H p = some (.dT ws) ∧ RpK G ws kvs
  | _ => False
theorem OwnAt.some {G H : Hp} {p : Addr} : ∀ {d : PyData}, OwnAt G H p d → ∃ o, H p = some o ∧ (∀ xs, o ≠ .tup xs) ∧ Mut (some o)
  | .list _, ⟨_, vs, h, _⟩ => ⟨_, h, (fun _ z => nomatch z), trivial⟩
  | .dict _, ⟨_, vs, h, _⟩ => ⟨_, h, (fun _ z => nomatch z), trivial⟩
theorem OwnAt.mono {G H G' H' : Hp} {p : Addr} (e : Ex G G') (h : H p = H' p) : ∀ {d : PyData}, OwnAt G H p d → OwnAt G' H' p d
  | .list _, ⟨l, vs, x, r⟩ => ⟨l, vs, by rw [← h]; exact x, r.mono e⟩
  | .dict _, ⟨l, vs, x, r⟩ => ⟨l, vs, by rw [← h]; exact x, r.mono e⟩

/-- the entry of a def: what was tracked, what was data, whose contents it may change -/
structure Fc (κ : PySem.W.Frag) where
  H0 : Hp
  G0 : Hp
  P : Addr → Prop
def SlOk {κ : PySem.W.Frag} (c : Fc κ) (G H : Hp) (x : Option V) : Sl → Prop
  | .un => True
  | .dat d => ∃ v, x = some v ∧ Rp G v d
  | .own d => ∃ p, x = some (.ref p) ∧ G p = none ∧ c.H0 p = none ∧ OwnAt G H p d
  | .par loc d => ∃ p, x = some (.ref p) ∧ G p = none ∧ (if loc = true then c.H0 p = none else c.P p) ∧ RowAt κ G H p d
  | .scr s => ∃ sa, x = some (.ref sa) ∧ SqL κ G sa (s.map V.int)
def isMut : Sl → Bool
  | .own _ => true
  | .par _ _ => true
  | _ => false
/-- what may become data: what is new, and what no one can change -/
def Ad (H : Hp) (a : Addr) : Prop := H a = none ∨ ∃ xs, H a = some (.tup xs)
def NtA (H : Hp) (a : Addr) : Prop := ∃ o, H a = some o ∧ ∀ xs, o ≠ .tup xs
theorem NtA.ad {H : Hp} {a : Addr} {q : Prop} : NtA H a → Ad H a → q
  | ⟨o, h, n⟩, .inl e => by rw [h] at e; cases e
  | ⟨o, h, n⟩, .inr ⟨xs, e⟩ => by rw [h] at e; cases e; exact absurd rfl (n xs)
structure Stt {κ : PySem.W.Frag} (c : Fc κ) (G H : Hp) (σ : L2.St) (ρ : Env) : Prop where
  ex : Ex G H
  ex0 : Ex c.G0 G
  old : ∀ a o, c.H0 a = some o → ¬ c.P a → H a = some o
  new : ∀ a o, G a = some o → c.G0 a = some o ∨ Ad c.H0 a
  pin : ∀ a, c.P a → (G a = none ∧ ∃ o, c.H0 a = some o ∧ ∀ xs, o ≠ .tup xs) ∧ NtA H a
  len : σ.length = ρ.length
  sl : ∀ (i : Nat) s, ρ[i]? = some s → ∃ x, σ[i]? = some x ∧ SlOk c G H x s
  apart : ∀ (i j : Nat) s t p, ρ[i]? = some s → ρ[j]? = some t → isMut s = true → isMut t = true → σ[i]? = some (some (V.ref p)) → σ[j]? = some (some (V.ref p)) → i = j

/-- the heaps have grown -/
structure Gr (G H G' H' : Hp) : Prop where
  g : Ex G G'
  h : Ex H H'
  gh : Ex G' H'
  new : ∀ a o, G' a = some o → G a = some o ∨ Ad H a
theorem Gr.refl {G H : Hp} (e : Ex G H) : Gr G H G H := ⟨.refl G, .refl H, e, fun _ _ h => .inl h⟩
theorem Gr.trans {G H G1 H1 G2 H2 : Hp} (a : Gr G H G1 H1) (b : Gr G1 H1 G2 H2) : Gr G H G2 H2 :=
  ⟨a.g.trans b.g, a.h.trans b.h, b.gh, fun x o e => by
    rcases b.new x o e with q | q
    · exact a.new x o q
    · rcases q with q | ⟨xs, q⟩
      · exact .inr (.inl (a.h.free q))
      · cases e1 : H x with
        | none => exact .inr (.inl e1)
        | some u => rw [a.h x u e1] at q; cases q; exact .inr (.inr ⟨xs, e1⟩)⟩
/-- a new object that is data at once -/
theorem Gr.laid {G H : Hp} {p : Addr} {o : HO} (e : Ex G H) (h : H p = none) : Gr G H (upd G p o) (upd H p o) :=
  ⟨.new (e.free h), .new h, fun a u q => by
    by_cases z : a = p
    · subst z; rw [upd_same] at q ⊢; exact q
    · rw [upd_ne z] at q ⊢; exact e a u q, fun a u q => by
    by_cases z : a = p
    · subst z; exact .inr (.inl h)
    · rw [upd_ne z] at q; exact .inl q⟩
/-- a new object that is nobody's data yet -/
theorem Gr.apart {G H : Hp} {p : Addr} {o : HO} (e : Ex G H) (h : H p = none) : Gr G H G (upd H p o) :=
  ⟨.refl G, .new h, fun a u q => Ex.new h a u (e a u q), fun _ _ q => .inl q⟩
/-- an object known to H alone becomes data -/
theorem Stt.gr {κ : PySem.W.Frag} {c : Fc κ} {G H G' H' : Hp} {σ : L2.St} {ρ : Env} (S : Stt c G H σ ρ) (g : Gr G H G' H') : Stt c G' H' σ ρ where
  ex := g.gh
  ex0 := S.ex0.trans g.g
  old := fun a o h n => g.h a o (S.old a o h n)
  new := fun a o h => by
    rcases g.new a o h with q | q
    · exact S.new a o q
    · right
      cases e : c.H0 a with
      | none => exact .inl e
      | some u =>
        by_cases hp : c.P a
        · exact (S.pin a hp).2.ad q
        · rcases q with q | ⟨xs, q⟩
          · rw [S.old a u e hp] at q; cases q
          · rw [S.old a u e hp] at q; cases q; exact .inr ⟨xs, e⟩
  pin := fun a h => by
    obtain ⟨⟨g1, g2⟩, o, ho, nt⟩ := S.pin a h
    refine ⟨⟨?_, g2⟩, o, g.h a o ho, nt⟩
    cases e : G' a with
    | none => rfl
    | some u =>
      rcases g.new a u e with q | q
      · rw [g1] at q; cases q
      · exact NtA.ad ⟨o, ho, nt⟩ q
  len := S.len
  sl := fun i s e => by
    obtain ⟨x, hx, ok⟩ := S.sl i s e
    refine ⟨x, hx, ?_⟩
    have keep : ∀ {p o}, G p = none → H p = some o → (∀ xs, o ≠ .tup xs) → G' p = none ∧ H p = H' p := fun {p o} gn ho nt => by
      refine ⟨?_, by rw [ho, g.h _ _ ho]⟩
      cases e : G' p with
      | none => rfl
      | some u =>
        rcases g.new p u e with q | q
        · rw [gn] at q; cases q
        · exact NtA.ad ⟨o, ho, nt⟩ q
    cases s with
    | un => trivial
    | dat d => obtain ⟨v, e1, r⟩ := ok; exact ⟨v, e1, r.mono g.g⟩
    | own d => obtain ⟨p, e1, gn, h0, ow⟩ := ok; obtain ⟨o, ho, nt, _⟩ := ow.some; exact ⟨p, e1, (keep gn ho nt).1, h0, ow.mono g.g (keep gn ho nt).2⟩
    | par loc d => obtain ⟨p, e1, gn, h0, ow⟩ := ok; obtain ⟨o, ho, nt, _⟩ := ow.some; exact ⟨p, e1, (keep gn ho nt).1, h0, ow.mono g.g (keep gn ho nt).2⟩
    | scr l => obtain ⟨p, e1, r⟩ := ok; exact ⟨p, e1, sqL_ex g.g r⟩
  apart := S.apart
theorem Stt.lt {κ : PySem.W.Frag} {c : Fc κ} {G H : Hp} {σ : L2.St} {ρ : Env} (S : Stt c G H σ ρ) {i : Nat} {s : Sl} (h : ρ[i]? = some s) : i < σ.length := by
  rw [S.len]; exact (List.getElem?_eq_some_iff.mp h).1
/-- a slot gets a value that is data -/
theorem Stt.setDat {κ : PySem.W.Frag} {c : Fc κ} {G H : Hp} {σ : L2.St} {ρ : Env} (S : Stt c G H σ ρ) {i : Nat} {v : V} {d : PyData} (r : Rp G v d) : Stt c G H (σ.set i (some v)) (ρ.set i (.dat d)) where
  ex := S.ex
  ex0 := S.ex0
  old := S.old
  new := S.new
  pin := S.pin
  len := by simp [S.len]
  sl := fun j s e => by
    by_cases z : i = j
    · subst z
      have hi : i < ρ.length := by simpa using (List.getElem?_eq_some_iff.mp e).1
      rw [List.getElem?_set_self hi] at e
      rw [List.getElem?_set_self (by rw [S.len]; exact hi)]
      cases e
      exact ⟨_, rfl, v, rfl, r⟩
    · rw [List.getElem?_set_ne z] at e ⊢
      exact S.sl j s e
  apart := fun a b s t p e1 e2 m1 m2 h1 h2 => by
    have na : ∀ {k u}, (ρ.set i (.dat d))[k]? = some u → isMut u = true → i ≠ k := fun {k u} e m z => by
      subst z
      have hi : i < ρ.length := by simpa using (List.getElem?_eq_some_iff.mp e).1
      rw [List.getElem?_set_self hi] at e
      cases e; cases m
    have n1 := na e1 m1
    have n2 := na e2 m2
    rw [List.getElem?_set_ne n1] at e1 h1
    rw [List.getElem?_set_ne n2] at e2 h2
    exact S.apart a b s t p e1 e2 m1 m2 h1 h2
/-- a slot gets an object of its own: known to no one else -/
theorem Stt.setOwn {κ : PySem.W.Frag} {c : Fc κ} {G H : Hp} {σ : L2.St} {ρ : Env} (S : Stt c G H σ ρ) {i : Nat} {p : Addr} {d : PyData} (hg : G p = none) (h0 : c.H0 p = none) (ow : OwnAt G H p d)
    (free : ∀ (j : Nat) s, ρ[j]? = some s → isMut s = true → σ[j]? ≠ some (some (V.ref p))) : Stt c G H (σ.set i (some (.ref p))) (ρ.set i (.own d)) where
  ex := S.ex
  ex0 := S.ex0
  old := S.old
  new := S.new
  pin := S.pin
  len := by simp [S.len]
  sl := fun j s e => by
    by_cases z : i = j
    · subst z
      have hi : i < ρ.length := by simpa using (List.getElem?_eq_some_iff.mp e).1
      rw [List.getElem?_set_self hi] at e
      rw [List.getElem?_set_self (by rw [S.len]; exact hi)]
      cases e
      exact ⟨_, rfl, p, rfl, hg, h0, ow⟩
    · rw [List.getElem?_set_ne z] at e ⊢
      exact S.sl j s e
  apart := fun a b s t q e1 e2 m1 m2 h1 h2 => by
    by_cases za : i = a
    · by_cases zb : i = b
      · omega
      · rw [List.getElem?_set_ne zb] at e2 h2
        subst za
        have hi : i < ρ.length := by simpa using (List.getElem?_eq_some_iff.mp e1).1
        rw [List.getElem?_set_self (by rw [S.len]; exact hi)] at h1
        cases h1
        exact absurd h2 (free b t e2 m2)
    · rw [List.getElem?_set_ne za] at e1 h1
      by_cases zb : i = b
      · subst zb
        have hi : i < ρ.length := by simpa using (List.getElem?_eq_some_iff.mp e2).1
        rw [List.getElem?_set_self (by rw [S.len]; exact hi)] at h2
        cases h2
        exact absurd h1 (free a s e1 m1)
      · rw [List.getElem?_set_ne zb] at e2 h2
        exact S.apart a b s t q e1 e2 m1 m2 h1 h2
/-- the object of a slot is changed -/
theorem Stt.change {κ : PySem.W.Frag} {c : Fc κ} {G H : Hp} {σ : L2.St} {ρ : Env} (S : Stt c G H σ ρ) {i : Nat} {p : Addr} {s s' : Sl} {o : HO} (hs : ρ[i]? = some s) (hx : σ[i]? = some (some (V.ref p))) (m : isMut s = true)
    (new : ∀ d d', s = .own d → s' = .own d' → OwnAt G (upd H p o) p d') (new' : ∀ l d d', s = .par l d → s' = .par l d' → RowAt κ G (upd H p o) p d')
    (sh : (∃ d d', s = .own d ∧ s' = .own d') ∨ ∃ l d d', s = .par l d ∧ s' = .par l d') (nt : ∀ xs, o ≠ .tup xs := by intro _ z; cases z) : Stt c G (upd H p o) σ (ρ.set i s') := by
  obtain ⟨x, hx', ok⟩ := S.sl i s hs
  rw [hx] at hx'; cases hx'
  have hgp : G p = none ∧ (c.H0 p = none ∨ c.P p) := by
    cases s with
    | own d => obtain ⟨q, e, gn, h0, _⟩ := ok; cases e; exact ⟨gn, .inl h0⟩
    | par loc d =>
      obtain ⟨q, e, gn, h0, _⟩ := ok; cases e
      cases loc with
      | true => exact ⟨gn, .inl h0⟩
      | false => exact ⟨gn, .inr h0⟩
    | _ => cases m
  have hi : i < ρ.length := (List.getElem?_eq_some_iff.mp hs).1
  refine ⟨fun a u e => ?_, S.ex0, fun a u e n => ?_, S.new, fun a h => ?_, by simp [S.len], fun j t e => ?_, fun a b t u q e1 e2 m1 m2 h1 h2 => ?_⟩
  · rw [upd_ne (ne_of_none e hgp.1)]; exact S.ex a u e
  · have hne : a ≠ p := fun z => by
      subst z
      rcases hgp.2 with z | z
      · rw [z] at e; cases e
      · exact n z
    rw [upd_ne hne]; exact S.old a u e n
  · obtain ⟨g1, u, hu⟩ := S.pin a h
    refine ⟨g1, ?_⟩
    by_cases z : a = p
    · subst z; exact ⟨o, upd_same, nt⟩
    · exact ⟨u, by rw [upd_ne z]; exact hu.1, hu.2⟩
  · by_cases z : i = j
    · subst z
      rw [List.getElem?_set_self hi] at e
      cases e
      refine ⟨_, hx, ?_⟩
      rcases sh with ⟨d, d', rfl, rfl⟩ | ⟨l, d, d', rfl, rfl⟩
      · obtain ⟨q, e, gn, h0, _⟩ := ok; cases e
        exact ⟨p, rfl, gn, h0, new d d' rfl rfl⟩
      · obtain ⟨q, e, gn, h0, _⟩ := ok; cases e
        exact ⟨p, rfl, gn, h0, new' l d d' rfl rfl⟩
    · rw [List.getElem?_set_ne z] at e
      obtain ⟨y, hy, ok2⟩ := S.sl j t e
      refine ⟨y, hy, ?_⟩
      have far : ∀ {q}, isMut t = true → y = some (.ref q) → q ≠ p := fun {q} mt ey z2 => by
        subst z2; subst ey
        exact z (S.apart i j s t q hs e m mt hx hy)
      cases t with
      | un => trivial
      | dat d => exact ok2
      | scr l => exact ok2
      | own d => obtain ⟨q, e1, gn, h0, ow⟩ := ok2; exact ⟨q, e1, gn, h0, ow.mono (.refl G) (by rw [upd_ne (far rfl e1)])⟩
      | par loc d => obtain ⟨q, e1, gn, h0, ow⟩ := ok2; exact ⟨q, e1, gn, h0, ow.mono (.refl G) (by rw [upd_ne (far rfl e1)])⟩
  · have old : ∀ {k t}, (ρ.set i s')[k]? = some t → isMut t = true → ∃ t', ρ[k]? = some t' ∧ isMut t' = true := fun {k t} e mt => by
      by_cases z : i = k
      · subst z; exact ⟨s, hs, m⟩
      · rw [List.getElem?_set_ne z] at e; exact ⟨t, e, mt⟩
    obtain ⟨t', e1', m1'⟩ := old e1 m1
    obtain ⟨u', e2', m2'⟩ := old e2 m2
    exact S.apart a b t' u' q e1' e2' m1' m2' h1 h2
/-- an own object becomes data -/
theorem Stt.frz {κ : PySem.W.Frag} {c : Fc κ} {G H : Hp} {σ : L2.St} {ρ : Env} (S : Stt c G H σ ρ) {i : Nat} {d : PyData} (hs : ρ[i]? = some (.own d)) :
    ∃ v G', σ[i]? = some (some v) ∧ Stt c G' H σ (ρ.set i (.dat d)) ∧ Ex G G' ∧ Rp G' v d := by
  obtain ⟨x, hx, p, rfl, gn, h0, ow⟩ := S.sl i _ hs
  have hi : i < ρ.length := (List.getElem?_eq_some_iff.mp hs).1
  obtain ⟨o, ho, nt, _⟩ := ow.some
  have eg : Ex G (upd G p o) := .new gn
  have rp : Rp (upd G p o) (.ref p) d := by
    cases d with
    | list ds => obtain ⟨l, vs, h, r⟩ := ow; rw [ho] at h; cases h; exact .lst upd_same l (r.mono eg)
    | dict ds => obtain ⟨l, vs, h, r⟩ := ow; rw [ho] at h; cases h; exact .dic (.inl upd_same) l (r.mono eg)
    | _ => cases ow
  refine ⟨_, upd G p o, hx, ?_, eg, rp⟩
  have nP : ∀ a, c.P a → a ≠ p := fun a h z => by
    subst z
    obtain ⟨⟨_, u, hu, _⟩, _⟩ := S.pin a h
    rw [h0] at hu; cases hu
  have far : ∀ {j t q}, ρ[j]? = some t → i ≠ j → isMut t = true → σ[j]? = some (some (V.ref q)) → q ≠ p := fun {j t q} e z mt ey z2 => by
    subst z2
    exact z (S.apart i j _ t q hs e rfl mt hx ey)
  refine ⟨fun a u e => ?_, S.ex0.trans eg, S.old, fun a u e => ?_, fun a h => ?_, by simp [S.len], fun j t e => ?_, fun a b t u q e1 e2 m1 m2 h1 h2 => ?_⟩
  · by_cases z : a = p
    · subst z; rw [upd_same] at e; cases e; exact ho
    · rw [upd_ne z] at e; exact S.ex a u e
  · by_cases z : a = p
    · subst z; exact .inr (.inl h0)
    · rw [upd_ne z] at e; exact S.new a u e
  · obtain ⟨⟨g1, g2⟩, u, hu⟩ := S.pin a h
    exact ⟨⟨by rw [upd_ne (nP a h)]; exact g1, g2⟩, u, hu⟩
  · by_cases z : i = j
    · subst z
      rw [List.getElem?_set_self hi] at e
      cases e
      exact ⟨_, hx, _, rfl, rp⟩
    · rw [List.getElem?_set_ne z] at e
      obtain ⟨y, hy, ok2⟩ := S.sl j t e
      refine ⟨y, hy, ?_⟩
      cases t with
      | un => trivial
      | dat d => obtain ⟨v, e1, r⟩ := ok2; exact ⟨v, e1, r.mono eg⟩
      | scr l => obtain ⟨v, e1, r⟩ := ok2; exact ⟨v, e1, sqL_ex eg r⟩
      | own d =>
        obtain ⟨q, e1, gn, h0, ow⟩ := ok2
        subst e1
        exact ⟨q, rfl, by rw [upd_ne (far e z rfl hy)]; exact gn, h0, ow.mono eg rfl⟩
      | par loc d =>
        obtain ⟨q, e1, gn, h0, ow⟩ := ok2
        subst e1
        exact ⟨q, rfl, by rw [upd_ne (far e z rfl hy)]; exact gn, h0, ow.mono eg rfl⟩
  · have old : ∀ {k t}, (ρ.set i (.dat d))[k]? = some t → isMut t = true → ρ[k]? = some t := fun {k t} e mt => by
      by_cases z : i = k
      · subst z
        rw [List.getElem?_set_self hi] at e
        cases e; cases mt
      · rw [List.getElem?_set_ne z] at e; exact e
    exact S.apart a b t u q (old e1 m1) (old e2 m2) m1 m2 h1 h2
end Pu
end TP0

section TP1
set_option Elab.async false
set_option linter.all false
set_option maxRecDepth 100000
set_option maxHeartbeats 1200000
namespace Pu
open PyProof.Rows L2 PySem PySem.Spec

structure Exn where
  name : Str
  fs : List (Str × PyData)
inductive R (α : Type) where
  | ok (a : α) (ρ : Env) | exc (e : Exn) (ρ : Env) | no
abbrev M (α : Type) := Env → R α
def M.bind {α β : Type} (m : M α) (k : α → M β) : M β := fun ρ => match m ρ with
  | .ok a ρ1 => k a ρ1
  | .exc e ρ1 => .exc e ρ1
  | .no => .no
def M.lift {α : Type} (o : Option α) : M α := fun ρ => match o with
  | some a => .ok a ρ
  | none => .no
def M.pure {α : Type} (a : α) : M α := fun ρ => .ok a ρ

def ExcRep (mg : Str → Option Value) (G H : Hp) (e : Exn) (cls : Value) (dd : Option Addr) : Prop :=
  (∃ C, mg e.name = some (.ref C) ∧ cls = .ref C) ∧
  ((e.fs = [] ∧ dd = none) ∨ ∃ d vs, dd = some d ∧ H d = some (.xd vs) ∧ vs.map (·.1) = e.fs.map (·.1) ∧ RpA G (vs.map (·.2)) (e.fs.map (·.2)))

/-- what an exception is wanted to do; the module's objects -/
structure WK where
  w : WX
  K : PySem.W.Frag
abbrev WK.z (W : WK) : WK := ⟨fun _ _ _ _ => False, W.K⟩
abbrev Rel (β α : Type) := (κ : PySem.W.Frag) → Fc κ → Hp → Hp → L2.St → Env → β → α → Prop
def rD : Rel V PyData := fun _ _ G _ _ _ v d => Rp G v d
def rA : Rel (List V) (List PyData) := fun _ _ G _ _ _ v d => RpA G v d
def rB : Rel Bool Bool := fun _ _ _ _ _ _ v d => v = d
def rI : Rel (Option Int) (Option Int) := fun _ _ _ _ _ _ v d => v = d
def Free (σ : L2.St) (ρ : Env) (p : Addr) : Prop := ∀ (j : Nat) s, ρ[j]? = some s → isMut s = true → σ[j]? ≠ some (some (V.ref p))
def rO : Rel V PyData := fun _ c G H σ ρ v d => ∃ p, v = .ref p ∧ G p = none ∧ c.H0 p = none ∧ OwnAt G H p d ∧ Free σ ρ p

def Res {β α : Type} (mg : Str → Option Value) (W : WK) (rel : Rel β α) {κ : PySem.W.Frag} (c : Fc κ) (G : Hp) (σ : L2.St) (Q : β → Hp → Prop) : R α → Prop
  | .ok a ρ' => ∀ b G' H', Stt c G' H' σ ρ' → Ex G G' → rel κ c G' H' σ ρ' b a → Q b H'
  | .exc e ρ' => ∀ cls dd G' H', Stt c G' H' σ ρ' → Ex G G' → ExcRep mg G' H' e cls dd → W.w cls dd σ H'
  | .no => False
theorem Res.mono {β α : Type} {mg : Str → Option Value} {W : WK} {rel : Rel β α} {c : Fc W.K} {G G1 : Hp} {σ : L2.St} {Q : β → Hp → Prop} (e : Ex G G1) : ∀ {r : R α}, Res mg W rel c G σ Q r → Res mg W rel c G1 σ Q r
  | .ok _ _, h => fun b G' H' S g r => h b G' H' S (e.trans g) r
  | .exc _ _, h => fun b d G' H' S g r => h b d G' H' S (e.trans g) r
  | .no, h => h
def wOf {β α : Type} (mg : Str → Option Value) (W : WK) (rel : Rel β α) (f : M α) : L2.St → Hp → (β → Hp → Prop) → Prop := fun σ H Q =>
  ∃ (c : Fc W.K) (G : Hp) (ρ : Env), Stt c G H σ ρ ∧ Res mg W rel c G σ Q (f ρ)
abbrev tOf (mg : Str → Option Value) (W : WK) (f : M PyData) : TE := wOf mg W rD f
abbrev toOf (mg : Str → Option Value) (W : WK) (f : M PyData) : TE := wOf mg W rO f
abbrev taOf (mg : Str → Option Value) (W : WK) (f : M (List PyData)) : TA := wOf mg W rA f
abbrev ttOf (mg : Str → Option Value) (W : WK) (f : M Bool) : TT := wOf mg W rB f
abbrev tiOf (mg : Str → Option Value) (W : WK) (f : M (Option Int)) : TO := wOf mg W rI f

section
variable {mg : Str → Option Value} {W : WK} {c : Fc W.K} {G H : Hp} {σ : L2.St} {ρ : Env}
/-- one part is evaluated -/
theorem step {β α β' α' : Type} {rel : Rel β α} {rel' : Rel β' α'} {Q : β' → Hp → Prop} {fa : M α} {k : α → M α'} {QQ : β → Hp → Prop} (S : Stt c G H σ ρ) (h : Res mg W rel' c G σ Q (fa.bind k ρ))
    (n : ∀ v G1 H1 ρ1 a, Stt c G1 H1 σ ρ1 → Ex G G1 → rel W.K c G1 H1 σ ρ1 v a → Res mg W rel' c G1 σ Q (k a ρ1) → QQ v H1) : wOf mg W rel fa σ H QQ := by
  refine ⟨c, G, ρ, S, ?_⟩
  unfold M.bind at h
  cases e : fa ρ with
  | ok a ρ1 =>
    rw [e] at h
    exact fun v G1 H1 S1 g r => n v G1 H1 ρ1 a S1 g r (Res.mono g h)
  | exc x ρ1 =>
    rw [e] at h
    exact fun cls dd G1 H1 S1 g r => h cls dd G1 H1 S1 g r
  | no => rw [e] at h; exact h
/-- the last: a value out of the parts -/
theorem lift_some {β α : Type} {rel : Rel β α} {Q : β → Hp → Prop} {o : Option α} (h : Res mg W rel c G σ Q (M.lift o ρ)) : ∃ a, o = some a ∧ ∀ b G' H', Stt c G' H' σ ρ → Ex G G' → rel W.K c G' H' σ ρ b a → Q b H' := by
  unfold M.lift at h
  cases o with
  | none => exact h.elim
  | some a => exact ⟨a, rfl, h⟩
theorem lift_gr {α : Type} {Q : V → Hp → Prop} {o : Option PyData} (S : Stt c G H σ ρ) (h : Res mg W rD c G σ Q (M.lift o ρ)) : ∃ a, o = some a ∧ ∀ v G' H', Gr G H G' H' → Rp G' v a → Q v H' := by
  obtain ⟨a, e, k⟩ := lift_some h
  exact ⟨a, e, fun v G' H' g r => k v G' H' (S.gr g) g.g r⟩
end

end Pu
namespace L2
open PyProof.Rows PySem PySem.Spec
theorem PE.imp {X : Cx} {e : Expr} {t t' : TE} (h : PE X e t) (i : ∀ σ H Q, t' σ H Q → t σ H Q) : PE X e t' := ⟨fun pins s σ H Q I w => h.run pins s σ H Q I (i _ _ _ w)⟩
theorem PT.imp {X : Cx} {e : Expr} {t t' : TT} (h : PT X e t) (i : ∀ σ H Q, t' σ H Q → t σ H Q) : PT X e t' := ⟨fun pins s σ H Q I w => h.run pins s σ H Q I (i _ _ _ w)⟩
theorem PW.imp {X : Cx} {e : Expr} {t t' : TT} (h : PW X e t) (i : ∀ σ H Q, t' σ H Q → t σ H Q) : PW X e t' := ⟨fun wh pins s σ H Q I w => h.run wh pins s σ H Q I (i _ _ _ w)⟩
theorem PA.imp {X : Cx} {e : List Expr} {t t' : TA} (h : PA X e t) (i : ∀ σ H Q, t' σ H Q → t σ H Q) : PA X e t' := ⟨fun p pins s σ H Q I w => h.run p pins s σ H Q I (i _ _ _ w)⟩
theorem PO.imp {X : Cx} {e : Option Expr} {t t' : TO} (h : PO X e t) (i : ∀ σ H Q, t' σ H Q → t σ H Q) : PO X e t' := ⟨fun pins s σ H Q I w => h.run pins s σ H Q I (i _ _ _ w)⟩
theorem PS.imp {X : Cx} {e : Stmt} {t t' : TS} (h : PS X e t) (i : ∀ D σ H, t' D σ H → t D σ H) : PS X e t' := ⟨fun pins s σ H D I w => h.run pins s σ H D I (i _ _ _ w)⟩
theorem PSs.imp {X : Cx} {e : List Stmt} {t t' : TS} (h : PSs X e t) (i : ∀ D σ H, t' D σ H → t D σ H) : PSs X e t' := ⟨fun pins s σ H D I w => h.run pins s σ H D I (i _ _ _ w)⟩
theorem PS.or {X : Cx} {e : Stmt} {t t' : TS} (h : PS X e t) (h' : PS X e t') : PS X e (fun D σ H => t D σ H ∨ t' D σ H) := ⟨fun pins s σ H D I w => w.elim (h.run pins s σ H D I) (h'.run pins s σ H D I)⟩
theorem PE.or {X : Cx} {e : Expr} {t t' : TE} (h : PE X e t) (h' : PE X e t') : PE X e (fun D σ H => t D σ H ∨ t' D σ H) := ⟨fun pins s σ H Q I w => w.elim (h.run pins s σ H Q I) (h'.run pins s σ H Q I)⟩

end L2
namespace Pu
open PyProof.Rows L2 PySem PySem.Spec
/-! ### where one stands -/
structure Fit (X : Cx) (mg : Str → Option Value) (W : WK) (k : Nat) : Prop where
  mg : X.mg = mg
  calm : X.calm = true
  nd : X.N.Nodup
  tk : Takes X W.w
  kk : X.K = W.K
  room : Room k X.A
  own : PassesOwn (model X.prog X.w) X.A X.env X.xe
theorem Fit.blk {X : Cx} {mg : Str → Option Value} {W : WK} {k : Nat} (F : Fit X mg W k) (s : Shared) (H : Hp) (scope : Scope) (cl : List (Str × Addr)) (C : Addr) (fp : List Addr) : Fit (X.blk s H scope (compEnvC scope cl C X.env) fp) mg W.z k :=
  ⟨F.mg, F.calm, F.nd, takes0, F.kk, F.room, PassesOwn.never⟩

/-! ### expressions -/
def fC (d : PyData) : M PyData := M.pure d
def fV (i : Nat) : M PyData := fun ρ => match ρ[i]? with
  | some (.dat d) => .ok d ρ
  | some (.own d) => .ok d (ρ.set i (.dat d))
  | _ => .no
def f1 {α β : Type} (g : α → Option β) (fa : M α) : M β := fa.bind fun a => M.lift (g a)
def f2 {α β γ : Type} (g : α → β → Option γ) (fa : M α) (fb : M β) : M γ := fa.bind fun a => fb.bind fun b => M.lift (g a b)
def fNil : M (List PyData) := M.pure []
def fCons (fa : M PyData) (fr : M (List PyData)) : M (List PyData) := fa.bind fun a => fr.bind fun r => M.pure (a :: r)

section
variable {X : Cx} {mg : Str → Option Value} {W : WK} {k : Nat} {pos : Pos}
theorem x_const {e : Expr} {v : V} {d : PyData} (h : PE X e (tC v)) (r : ∀ G, Rp G v d) : PE X e (tOf mg W (fC d)) := h.imp fun σ H Q ⟨c, G, ρ, S, k⟩ => k v G H S (.refl G) (r G)
theorem x_int {i : Int} {j pos} : PE X (.Constant (.int i) j pos) (tOf mg W (fC (.int i))) := x_const pe_int fun _ => .int i
theorem x_str {i : Str} {j pos} : PE X (.Constant (.str i) j pos) (tOf mg W (fC (.str i))) := x_const pe_str fun _ => .str i
theorem x_bl {i : Bool} {j pos} : PE X (.Constant (.bool i) j pos) (tOf mg W (fC (.bool i))) := x_const pe_bl fun _ => .bl i
theorem x_non {j pos} : PE X (.Constant .none j pos) (tOf mg W (fC .none)) := x_const pe_non fun _ => .non
/-- a constant of the module -/
theorem x_glob {x : Str} {v : V} {d : PyData} {u : Value} (F : Fit X mg W k) (hm : mg x = some u) (rv : RelV v u) (r : ∀ G, Rp G v d) (hg : Gl X x := by rfl) (hd : (x == ("__debug__" : Str)) = false := by decide) : PE X (.Name x pos) (tOf mg W (fC d)) :=
  x_const (pe_glob hg (by rw [F.mg]; exact hm) rv hd) r
theorem r_var {σ : L2.St} {H : Hp} {Q : VK} {i : Nat} (w : tOf mg W (fV i) σ H Q) : tVar i σ H Q := by
  obtain ⟨c, G, ρ, S, k⟩ := w
  unfold fV at k
  cases e : ρ[i]? with
  | none => rw [e] at k; exact k.elim
  | some s =>
    rw [e] at k
    cases s with
    | un => exact k.elim
    | par l d => exact k.elim
    | scr l => exact k.elim
    | dat d =>
      obtain ⟨x, hx, v, rfl, r⟩ := S.sl i _ e
      exact ⟨v, hx, k v G H S (.refl G) r⟩
    | own d =>
      obtain ⟨v, G', hx, S', e', r⟩ := S.frz e
      exact ⟨v, hx, k v G' H S' e' r⟩
theorem x_v (i : Nat) {x : Str} (hN : X.N[i]? = some x := by rfl) (hv : Vis X.env.scope x := by first | exact Or.inl rfl | exact Or.inr (Or.inl rfl) | exact Or.inr (Or.inr rfl)) (hd : (x == ("__debug__" : Str)) = false := by decide)
    (hcd : (x == ("__classdict__" : Str)) = false := by decide) : PE X (.Name x pos) (tOf mg W (fV i)) := (pe_var hN hv hd hcd).imp fun _ _ _ w => r_var w

/-- what is asked of values, told of data -/
def RO1 (r : V → Hp → VK → Prop) (g : PyData → Option PyData) : Prop := ∀ G H u d z Q, Ex G H → Rp G u d → g d = some z → (∀ w G' H', Gr G H G' H' → Rp G' w z → Q w H') → r u H Q
def RO2 (r : R2) (g : PyData → PyData → Option PyData) : Prop := ∀ G H u v d e z Q, Ex G H → Rp G u d → Rp G v e → g d e = some z → (∀ w G' H', Gr G H G' H' → Rp G' w z → Q w H') → r u v H Q
def ROA (r : List V → Hp → VK → Prop) (g : List PyData → Option PyData) : Prop := ∀ G H us ds z Q, Ex G H → RpA G us ds → g ds = some z → (∀ w G' H', Gr G H G' H' → Rp G' w z → Q w H') → r us H Q
theorem RO2.or {r r' : R2} {g g' : PyData → PyData → Option PyData} (h : RO2 r g) (h' : RO2 r' g') : RO2 (fun x y H Q => r x y H Q ∨ r' x y H Q) (fun d e => (g d e).or (g' d e)) := fun G H u v d e z Q ex ru rv hz n => by
  dsimp only at hz
  cases q : g d e with
  | some a => rw [q] at hz; exact .inl (h G H u v d e a Q ex ru rv q (by cases hz; exact n))
  | none => rw [q] at hz; exact .inr (h' G H u v d e z Q ex ru rv (by simpa using hz) n)
theorem ROA.or {r r' : List V → Hp → VK → Prop} {g g' : List PyData → Option PyData} (h : ROA r g) (h' : ROA r' g') : ROA (fun x H Q => r x H Q ∨ r' x H Q) (fun d => (g d).or (g' d)) := fun G H u d z Q ex ru hz n => by
  dsimp only at hz
  cases q : g d with
  | some a => rw [q] at hz; exact .inl (h G H u d a Q ex ru q (by cases hz; exact n))
  | none => rw [q] at hz; exact .inr (h' G H u d z Q ex ru (by simpa using hz) n)

theorem r_op2 {r : R2} {g : PyData → PyData → Option PyData} {fa fb : M PyData} (ro : RO2 r g) {σ : L2.St} {H : Hp} {Q : VK} (w : tOf mg W (f2 g fa fb) σ H Q) : tOp r (tOf mg W fa) (tOf mg W fb) σ H Q := by
  obtain ⟨c, G, ρ, S, h⟩ := w
  refine step S h fun u G1 H1 ρ1 a S1 e1 r1 h1 => step S1 h1 fun v G2 H2 ρ2 b S2 e2 r2 h2 => ?_
  obtain ⟨z, hz, n⟩ := lift_gr (α := PyData) S2 h2
  exact ro G2 H2 u v a b z Q S2.ex (Rp.mono e2 r1) r2 hz n
theorem x_bin {op : Operator} {r : R2} {g : PyData → PyData → Option PyData} {a b : Expr} {fa fb : M PyData} (ho : OpR X (binaryOp op) r) (ro : RO2 r g) (ha : PE X a (tOf mg W fa)) (hb : PE X b (tOf mg W fb)) : PE X (.BinOp a op b pos) (tOf mg W (f2 g fa fb)) :=
  (pe_op ho ha hb).imp fun _ _ _ w => r_op2 ro w
theorem x_cmp {op : CmpOp} {r : R2} {g : PyData → PyData → Option PyData} {a b : Expr} {fa fb : M PyData} (ho : OpR X (compareOp op) r) (ro : RO2 r g) (ha : PE X a (tOf mg W fa)) (hb : PE X b (tOf mg W fb)) (hm : behindInMarks op b = false := by rfl) : PE X (.Compare a [op] [b] pos) (tOf mg W (f2 g fa fb)) :=
  (pe_cmpR ho ha hb hm).imp fun _ _ _ w => r_op2 ro w
theorem x_ix {r : R2} {g : PyData → PyData → Option PyData} {a b : Expr} {fa fb : M PyData} (hr : IxR X r) (ro : RO2 r g) (ha : PE X a (tOf mg W fa)) (hb : PE X b (tOf mg W fb)) (hs : PlainIx b := by exact fun _ _ => rfl) : PE X (.Subscript a b pos) (tOf mg W (f2 g fa fb)) :=
  (pe_ix hr ha hb hs).imp fun _ _ _ w => r_op2 ro w
theorem x_nil : PA X [] (taOf mg W fNil) := pa_nil.imp fun σ H Q ⟨c, G, ρ, S, k⟩ => k [] G H S (.refl G) .nil
theorem x_cons {e : Expr} {es : List Expr} {fa : M PyData} {fr : M (List PyData)} (ha : PE X e (tOf mg W fa)) (hr : PA X es (taOf mg W fr)) (hs : starEach (e :: es) X.env = (false, eval e X.env) :: starEach es X.env := by rfl) : PA X (e :: es) (taOf mg W (fCons fa fr)) :=
  (pa_cons ha hr hs).imp fun σ H Q ⟨c, G, ρ, S, h⟩ => by
    refine step S h fun u G1 H1 ρ1 a S1 e1 r1 h1 => step S1 h1 fun v G2 H2 ρ2 b S2 e2 r2 h2 => ?_
    exact h2 (u :: v) G2 H2 S2 (.refl _) (.cons (Rp.mono e2 r1) r2)
theorem r_call {r : List V → Hp → VK → Prop} {g : List PyData → Option PyData} {fs : M (List PyData)} (ro : ROA r g) {σ : L2.St} {H : Hp} {Q : VK} (w : tOf mg W (f1 g fs) σ H Q) : tCB r (taOf mg W fs) σ H Q := by
  obtain ⟨c, G, ρ, S, h⟩ := w
  refine step S h fun u G1 H1 ρ1 a S1 e1 r1 h1 => ?_
  obtain ⟨z, hz, n⟩ := lift_gr (α := PyData) S1 h1
  exact ro G1 H1 u a z Q S1.ex r1 hz n
theorem x_callB {x : Str} {id : String} {e : Expr} {es : List Expr} {p : Pos} {r : List V → Hp → VK → Prop} {g : List PyData → Option PyData} {fs : M (List PyData)} (F : Fit X mg W k) (hm : mg x = none) (hc : CallR X (.builtin id) r) (ro : ROA r g) (hv : bootBuiltins x = some (.builtin id)) (ha : PA X (e :: es) (taOf mg W fs))
    (hg : Gl X x := by rfl) (hn : x ≠ "__name__" := by decide) (hdb : (x == ("__debug__" : Str)) = false := by decide) (he : starEach (e :: es) X.env = (false, eval e X.env) :: starEach es X.env := by rfl) (hpl : (backTo pos (starEach es X.env)).any (·.1) = false := by rfl) :
    PE X (.Call (.Name x p) (e :: es) [] pos) (tOf mg W (f1 g fs)) :=
  (pe_callB hc hg (by rw [F.mg]; exact hm) hv ha hn hdb he hpl).imp fun _ _ _ w => r_call ro w
theorem x_callT {x : Str} {T : String} {e : Expr} {es : List Expr} {p : Pos} {r : List V → Hp → VK → Prop} {g : List PyData → Option PyData} {fs : M (List PyData)} (F : Fit X mg W k) (hm : mg x = none) (hc : CallR X (.type T) r) (ro : ROA r g) (hv : bootBuiltins x = some (.type T)) (ha : PA X (e :: es) (taOf mg W fs))
    (hg : Gl X x := by rfl) (hn : x ≠ "__name__" := by decide) (hdb : (x == ("__debug__" : Str)) = false := by decide) (he : starEach (e :: es) X.env = (false, eval e X.env) :: starEach es X.env := by rfl) (hpl : (backTo pos (starEach es X.env)).any (·.1) = false := by rfl) :
    PE X (.Call (.Name x p) (e :: es) [] pos) (tOf mg W (f1 g fs)) :=
  (pe_callTy hc hg (by rw [F.mg]; exact hm) hv ha hn hdb he hpl).imp fun _ _ _ w => r_call ro w
end
end Pu
end TP1

section TP2
set_option Elab.async false
set_option linter.all false
set_option maxRecDepth 100000
set_option maxHeartbeats 4200000
namespace Pu
open PyProof.Rows L2 PySem PySem.Spec

/-! ### readings by data -/
def rD1 (g : PyData → Option PyData) : V → Hp → VK → Prop := fun x H Q => ∃ G d z, Ex G H ∧ Rp G x d ∧ g d = some z ∧ ∀ w G' H', Gr G H G' H' → Rp G' w z → Q w H'
def rD2 (g : PyData → PyData → Option PyData) : R2 := fun x y H Q => ∃ G d e z, Ex G H ∧ Rp G x d ∧ Rp G y e ∧ g d e = some z ∧ ∀ w G' H', Gr G H G' H' → Rp G' w z → Q w H'
def rDA (g : List PyData → Option PyData) : List V → Hp → VK → Prop := fun xs H Q => ∃ G ds z, Ex G H ∧ RpA G xs ds ∧ g ds = some z ∧ ∀ w G' H', Gr G H G' H' → Rp G' w z → Q w H'
theorem ro2 {g : PyData → PyData → Option PyData} : RO2 (rD2 g) g := fun G H u v d e z Q ex ru rv hz n => ⟨G, d, e, z, ex, ru, rv, hz, n⟩
theorem roA {g : List PyData → Option PyData} : ROA (rDA g) g := fun G H u d z Q ex ru hz n => ⟨G, d, z, ex, ru, hz, n⟩
theorem OpR.imp {X : Cx} {f : Value → Value → Sem Value} {r r' : R2} (h : OpR X f r) (i : ∀ x y H Q, r' x y H Q → r x y H Q) : OpR X f r' := fun pins s σ H x y v u Q I rx ry hh => h pins s σ H x y v u Q I rx ry (i _ _ _ _ hh)
theorem CallR.imp {X : Cx} {f : Value} {r r' : List V → Hp → VK → Prop} (h : CallR X f r) (i : ∀ x H Q, r' x H Q → r x H Q) : CallR X f r' := fun pins s σ H xs us Q I rx hh => h pins s σ H xs us Q I rx (i _ _ _ hh)
theorem IxR.imp {X : Cx} {r r' : R2} (h : IxR X r) (i : ∀ x y H Q, r' x y H Q → r x y H Q) : IxR X r' := by
  intro va sl pins s σ H x y v u Q I rx ry hh hs
  exact h va sl _ _ _ _ _ _ _ _ _ I rx ry (i _ _ _ _ hh) hs

section
variable {X : Cx} {pins : List (Addr × Obj)} {σ : L2.St} {G H : Hp} {s : Shared}
mutual
theorem Rp.reads (I : Inv X pins σ H s) (ex : Ex G H) : ∀ {d : PyData} {v : V} {u : Value}, Rp G v d → RelV v u → d.plain = true → ∃ as, Reads s.heap u d as
  | _, _, _, .non, r, _ => by cases r; exact ⟨_, .none⟩
  | _, _, _, .bl b, r, _ => by cases r; exact ⟨_, .bool b⟩
  | _, _, _, .int i, r, _ => by obtain ⟨t, rfl⟩ := r; exact ⟨_, .int i t⟩
  | _, _, _, .str i, r, _ => by obtain ⟨t, rfl⟩ := r; exact ⟨_, .str i t⟩
  | _, _, _, .lst h l q, r, p => by
    cases r
    obtain ⟨its, rv, ⟨o, n, ho, hc, _, hd⟩, _⟩ := I.list (SqL.of (ex _ _ h))
    obtain ⟨as, hr⟩ := RpA.reads I ex q rv (by unfold PyData.plain at p; exact p)
    exact ⟨_, .list ho hc hd hr⟩
  | _, _, _, .tup h l q, r, p => by
    cases r
    obtain ⟨its, rv, ⟨o, ho, hc, n, hd⟩, _⟩ := I.tuple (SqT.of (ex _ _ h))
    obtain ⟨as, hr⟩ := RpA.reads I ex q rv (by unfold PyData.plain at p; exact p)
    exact ⟨_, .tuple ho hc hd hr⟩
  | _, _, _, .dic h l q, r, p => by unfold PyData.plain at p; cases p
theorem RpA.reads (I : Inv X pins σ H s) (ex : Ex G H) : ∀ {d : List PyData} {v : List V} {u : List Value}, RpA G v d → Vals v u → PyData.plainAll d = true → ∃ as, ReadsAll s.heap u d as
  | _, _, _, .nil, r, _ => by cases r; exact ⟨_, .nil⟩
  | _, _, _, .cons h q, r, p => by
    cases r with
    | cons r1 r2 =>
      unfold PyData.plainAll at p
      rw [Bool.and_eq_true] at p
      obtain ⟨as, q1⟩ := Rp.reads I ex h r1 p.1
      obtain ⟨bs, q2⟩ := RpA.reads I ex q r2 p.2
      exact ⟨_, .cons q1 q2⟩
end
end
/-- small depth: what the stack's line asks -/
abbrev shal (d : PyData) : Bool := d.plain && decide (d.depth ≤ 32)
theorem shal_of {d : PyData} (h : shal d = true) : d.plain = true ∧ d.depth ≤ 32 := by
  rw [Bool.and_eq_true] at h
  exact ⟨h.1, of_decide_eq_true h.2⟩

/-! ### operators -/
def pAdd : PyData → PyData → Option PyData
  | .int i, .int j => some (.int (i + j))
  | .list xs, .list ys => if xs.length + ys.length ≤ LIM then some (.list (xs ++ ys)) else none
  | .tuple xs, .tuple ys => if xs.length + ys.length ≤ LIM then some (.tuple (xs ++ ys)) else none
  | .str x, .str y => if x.length + y.length ≤ LIM then some (.str (x ++ y)) else none
  | _, _ => none
def pSub : PyData → PyData → Option PyData
  | .int i, .int j => some (.int (i - j))
  | _, _ => none
def pMul : PyData → PyData → Option PyData
  | .int i, .int j => if (-(2 ^ 64) < i ∧ i < 2 ^ 64) ∨ (-(2 ^ 64) < j ∧ j < 2 ^ 64) then some (.int (i * j)) else none
  | .list xs, .int k => if -(2 ^ 63) ≤ k ∧ k < 2 ^ 63 ∧ xs.length * k.toNat ≤ LIM then some (.list (List.replicate k.toNat xs).flatten) else none
  | .tuple xs, .int k => if 0 ≤ k ∧ k ≤ 1000 ∧ xs.length ≤ 1000 then some (.tuple (List.replicate k.toNat xs).flatten) else none
  | _, _ => none
def pMod : PyData → PyData → Option PyData
  | .int i, .int j => if 0 < j then some (.int (i % j)) else none
  | _, _ => none
def pDiv : PyData → PyData → Option PyData
  | .int i, .int j => if 0 < j ∧ j < 1073741824 then some (.int (i / j)) else none
  | _, _ => none
def pPow : PyData → PyData → Option PyData
  | .int i, .int j => if 0 ≤ j ∧ j ≤ 1000000 ∧ i.natAbs < 2 ^ 64 then some (.int (i ^ j.toNat)) else none
  | _, _ => none
def pShl : PyData → PyData → Option PyData
  | .int i, .int j => if 0 ≤ j ∧ j ≤ 1000000 ∧ i.natAbs < 2 ^ 64 then some (.int (i * 2 ^ j.toNat)) else none
  | _, _ => none
def pShr : PyData → PyData → Option PyData
  | .int i, .int j => if 0 ≤ j then some (.int (i / 2 ^ j.toNat)) else none
  | _, _ => none
def pAnd : PyData → PyData → Option PyData
  | .int i, .int j => some (.int (Builtin.bitAnd i j))
  | _, _ => none
def pOr : PyData → PyData → Option PyData
  | .int i, .int j => some (.int (Builtin.bitOr i j))
  | _, _ => none
theorem gr0 {G H : Hp} (e : Ex G H) : Gr G H G H := .refl e
section
variable {X : Cx}
theorem opInt {f : Value → Value → Sem Value} {C : Int → Int → Prop} {h : Int → Int → Int} {g : PyData → PyData → Option PyData} (o : OpR X f (L2.rI C fun i j => .int (h i j)))
    (hg : ∀ d e z, g d e = some z → ∃ i j, d = .int i ∧ e = .int j ∧ C i j ∧ z = .int (h i j)) : OpR X f (rD2 g) := OpR.imp o fun x y H Q ⟨G, d, e, z, ex, rx, ry, hz, n⟩ => by
  obtain ⟨i, j, rfl, rfl, c, rfl⟩ := hg d e z hz
  cases rx; cases ry
  exact ⟨i, j, rfl, rfl, c, n _ G H (gr0 ex) (.int _)⟩
theorem opInt0 {f : Value → Value → Sem Value} {h : Int → Int → Int} {g : PyData → PyData → Option PyData} (o : OpR X f (L2.rI0 fun i j => .int (h i j)))
    (hg : ∀ d e z, g d e = some z → ∃ i j, d = .int i ∧ e = .int j ∧ z = .int (h i j)) : OpR X f (rD2 g) := OpR.imp o fun x y H Q ⟨G, d, e, z, ex, rx, ry, hz, n⟩ => by
  obtain ⟨i, j, rfl, rfl, rfl⟩ := hg d e z hz
  cases rx; cases ry
  exact ⟨i, j, rfl, rfl, n _ G H (gr0 ex) (.int _)⟩
theorem o_sub : OpR X (binaryOp .Sub) (rD2 pSub) := opInt0 op_sub fun d e z h => by
  unfold pSub at h; split at h <;> cases h; exact ⟨_, _, rfl, rfl, rfl⟩
theorem o_mod : OpR X (binaryOp .Mod) (rD2 pMod) := opInt op_mod fun d e z h => by
  unfold pMod at h; split at h <;> try cases h
  split at h <;> cases h; exact ⟨_, _, rfl, rfl, by assumption, rfl⟩
theorem o_div : OpR X (binaryOp .FloorDiv) (rD2 pDiv) := opInt op_fdiv fun d e z h => by
  unfold pDiv at h; split at h <;> try cases h
  split at h <;> cases h; exact ⟨_, _, rfl, rfl, by assumption, rfl⟩
theorem o_pow : OpR X (binaryOp .Pow) (rD2 pPow) := opInt op_pow fun d e z h => by
  unfold pPow at h; split at h <;> try cases h
  split at h <;> cases h; exact ⟨_, _, rfl, rfl, by assumption, rfl⟩
theorem o_shl : OpR X (binaryOp .LShift) (rD2 pShl) := opInt op_shl fun d e z h => by
  unfold pShl at h; split at h <;> try cases h
  split at h <;> cases h; exact ⟨_, _, rfl, rfl, by assumption, rfl⟩
theorem o_shr : OpR X (binaryOp .RShift) (rD2 pShr) := opInt op_shr fun d e z h => by
  unfold pShr at h; split at h <;> try cases h
  split at h <;> cases h; exact ⟨_, _, rfl, rfl, by assumption, rfl⟩
theorem o_and : OpR X (binaryOp .BitAnd) (rD2 pAnd) := opInt0 op_and fun d e z h => by
  unfold pAnd at h; split at h <;> cases h; exact ⟨_, _, rfl, rfl, rfl⟩
theorem o_or : OpR X (binaryOp .BitOr) (rD2 pOr) := opInt0 op_or fun d e z h => by
  unfold pOr at h; split at h <;> cases h; exact ⟨_, _, rfl, rfl, rfl⟩

theorem o_add : OpR X (binaryOp .Add) (rD2 pAdd) := OpR.imp (OpR.or op_add (OpR.or op_cat (OpR.or op_catA op_add_str))) fun x y H Q ⟨G, d, e, z, ex, rx, ry, hz, n⟩ => by
  unfold pAdd at hz
  split at hz
  · cases hz; cases rx; cases ry
    exact .inl ⟨_, _, rfl, rfl, n _ G H (gr0 ex) (.int _)⟩
  · split at hz <;> cases hz
    rename_i hl
    cases rx with
    | lst h1 l1 r1 =>
      cases ry with
      | lst h2 l2 r2 =>
        refine .inr (.inl ⟨_, _, _, _, rfl, rfl, ex _ _ h1, ex _ _ h2, by rw [r1.length, r2.length]; exact lim_le hl, fun p hp => ?_⟩)
        exact n _ _ _ (.laid ex hp) (.lst upd_same (by rw [List.length_append]; exact hl) ((r1.append r2).mono (.new (ex.free hp))))
  · split at hz <;> cases hz
    rename_i hl
    cases rx with
    | @tup a xs _ h1 l1 r1 =>
      cases ry with
      | @tup b ys _ h2 l2 r2 =>
        refine .inr (.inr (.inl ⟨_, _, xs, ys, rfl, rfl, SqT.of (ex _ _ h1), SqT.of (ex _ _ h2), by rw [r1.length, r2.length]; exact lim_le hl, fun hx => ?_, fun _ hy => ?_, fun _ _ p hp => ?_⟩))
        · subst hx
          cases r1
          exact n _ G H (gr0 ex) (.tup h2 l2 r2)
        · subst hy
          cases r2
          rw [List.append_nil] at n
          exact n _ G H (gr0 ex) (.tup h1 l1 r1)
        · exact n _ _ _ (.laid ex hp) (.tup upd_same (by rw [List.length_append]; exact hl) ((r1.append r2).mono (.new (ex.free hp))))
  · split at hz <;> cases hz
    rename_i hl
    cases rx; cases ry
    exact .inr (.inr (.inr ⟨_, _, rfl, rfl, lim_le hl, n _ G H (gr0 ex) (.str _)⟩))
  · cases hz

/-! a tuple times 0 or 1, the void one times anything -/
def MulFew (l : Addr) (o : Obj) (same : Prop) : PySem.Spec := fun _ R s => s.heap.get? l = some o ∧ (same → R (.ok (.ret (.ref l))) s) ∧ (¬ same → R (.ok (.ret (.ref s.heap.objs.size))) { s with heap := s.heap.push { cls := .type "tuple", data := .seq #[] } })
theorem tuple_mul_few (l : Addr) (items : Array Value) (n : Nat) (dd : Option Addr) (sl : Array (Option Value)) {x : Int} (u : Tok) (h0 : 0 ≤ x) (h1 : x < 2 ^ 63) (few : items.isEmpty = true ∨ x = 1 ∨ x = 0) :
    Meets (Builtin.«tuple.__mul__» ⟨[.ref l, .int x u], []⟩) (MulFew l { cls := .type "tuple", dict := dd, data := .seq items n, slots := sl } (items.isEmpty = true ∨ x = 1)) := by
  have far : ¬ (decide (x < -(2 ^ 63)) || decide (x ≥ 2 ^ 63)) = true := by
    have a : ¬ x < -(2 ^ 63) := by omega
    have b : ¬ x ≥ 2 ^ 63 := by omega
    rw [decide_eq_false a, decide_eq_false b]
    decide
  have tt := AutoSeq1.sub_tuple_tuple
  have ii := AutoSeq1.idx_int
  by_cases same : items.isEmpty = true ∨ x = 1
  · have y : (items.isEmpty || x == 1) = true := by rcases same with e | e <;> simp [e]
    exact .of_wp fun P w A R ⟨hp, g, d, tk, os⟩ ⟨hl, k, _⟩ => by
      wp_walk using AutoSeq1.wpAny_loadPart' hl
      refine wpAny_ite_false (decide_eq_false far) ?_
      wp_walk using AutoSeq1.wpAny_loadPart' hl
      exact ⟨_, rfl, k same⟩
  · have z : x = 0 := few.elim (fun e => absurd (.inl e) same) (fun e => e.elim (fun e => absurd (.inr e) same) id)
    have y : ¬ (items.isEmpty || x == 1) = true := fun e => by
      rw [z, Bool.or_eq_true] at e
      exact e.elim (fun e => same (.inl e)) (fun e => absurd e (by decide))
    have v : (decide (x ≤ 0) || items.isEmpty) = true := by rw [z]; rfl
    exact .of_wp fun P w A R ⟨hp, g, d, tk, os⟩ ⟨hl, _, k⟩ => by
      wp_walk using AutoSeq1.wpAny_loadPart' hl
      wp_walk using AutoSeq1.wpAny_loadPart' hl
      refine wpAny_ite_false (decide_eq_false y) ?_
      wp_walk using AutoSeq1.wpAny_loadPart' hl
      exact ⟨_, rfl, k same⟩
end
end Pu
end TP2

section TP3
set_option Elab.async false
set_option linter.all false
set_option maxRecDepth 100000
set_option maxHeartbeats 4200000
namespace Pu
open PyProof.Rows L2 PySem PySem.Spec
section
variable {X : Cx}
theorem op_repFew : OpR X (binaryOp .Mult) (fun x y H Q => ∃ l xs k, x = .ref l ∧ y = .int k ∧ SqT X.K H l xs ∧ 0 ≤ k ∧ k ≤ 1000 ∧ (xs = [] ∨ k = 1 ∨ k = 0) ∧ ((xs = [] ∨ k = 1) → Q (.ref l) H) ∧ (¬ (xs = [] ∨ k = 1) → ∀ p, H p = none → Q (.ref p) (upd H p (.tup [])))) := by
  rintro pins s σ H _ _ v u Q I rx ry ⟨l, xs, k, rfl, rfl, hT, h0, h1, few, q1, q2⟩
  obtain ⟨tk, rfl⟩ := ry
  cases rx
  obtain ⟨its, r, ⟨o, ho, hc, n, hd⟩, hs⟩ := I.tuple hT
  rcases o with ⟨cls, dd, data, sl⟩
  obtain rfl : cls = .type "tuple" := hc
  obtain rfl : data = .seq its.toArray n := hd
  have void : its.toArray.isEmpty = true ↔ xs = [] := by cases r <;> simp
  have few' : its.toArray.isEmpty = true ∨ k = 1 ∨ k = 0 := few.imp void.mpr id
  have m := tuple_mul_few l its.toArray n dd sl tk h0 (show k < 2 ^ 63 by omega) few'
  refine wpAny_binaryOp_repeat_ref (T := "tuple") (U := "int") (by decide) ⟨_, ho, rfl⟩ (fun s' => typeIs_int s' k tk) noFill_tuple_mul F.fills_int_mul F.slot_int_rmul repeat_tuple F.slot_int_index.lookup
    (call_meets F.slot_int_rmul (typeIs_int s k tk) F.entry_int_rmul (F.args_int_rmul_2 _ _) (int_rmul_tuple k tk l its.toArray n dd sl) ⟨ho, rfl, ⟨_, ho, rfl⟩, call_meets F.slot_tuple_mul ⟨_, ho, rfl⟩ F.entry_tuple_mul (F.args_tuple_mul_2 _ _) m ⟨ho, fun e => ?_, fun e => ?_⟩⟩)
  · exact ⟨.ref l, H, I.tok _, rfl, q1 (e.imp void.mp id)⟩
  · have new : ObjOk X.prog X.w (upd H s.heap.objs.size (.tup [])) (s.heap.push { cls := .type "tuple", data := .seq #[] }) s.heap.objs.size (.tup []) := ⟨Nat.zero_le _, [], .nil, _, Heap.get?_push_size s.heap rfl, rfl, 0, rfl⟩
    exact ⟨.ref s.heap.objs.size, _, I.laid (t' := s.toks) (fun b ob e => Heap.get?_push_of_some _ e) (Nat.le_refl _) new, rfl, q2 (fun z => e (z.imp void.mpr id)) _ (I.hok.fresh (Nat.le_refl _))⟩
theorem rep_len {α : Type} (xs : List α) : ∀ k : Nat, (List.replicate k xs).flatten.length = k * xs.length
  | 0 => by simp
  | k + 1 => by rw [List.replicate_succ, List.flatten_cons, List.length_append, rep_len xs k, Nat.succ_mul, Nat.add_comm]
theorem o_mul : OpR X (binaryOp .Mult) (rD2 pMul) := OpR.imp (OpR.or op_mul (OpR.or op_rep (OpR.or op_repFew op_repT))) fun x y H Q ⟨G, d, e, z, ex, rx, ry, hz, n⟩ => by
  unfold pMul at hz
  split at hz
  · split at hz <;> cases hz
    rename_i hc
    cases rx; cases ry
    exact .inl ⟨_, _, rfl, rfl, hc, n _ G H (gr0 ex) (.int _)⟩
  · split at hz <;> cases hz
    rename_i hc
    obtain ⟨c1, c2, c3⟩ := hc
    cases ry
    cases rx with
    | lst h1 l1 r1 =>
      refine .inr (.inl ⟨_, _, _, rfl, rfl, ex _ _ h1, c1, c2, by rw [r1.length]; exact lim_le c3, fun p hp => ?_⟩)
      exact n _ _ _ (.laid ex hp) (.lst upd_same (by rw [rep_len, Nat.mul_comm]; exact c3) ((r1.rep _).mono (.new (ex.free hp))))
  · split at hz <;> cases hz
    rename_i ds k hc
    obtain ⟨c1, c2, c3⟩ := hc
    cases ry
    cases rx with
    | @tup a xs _ h1 l1 r1 =>
      have sq := SqT.of (K := X.K) (ex _ _ h1)
      by_cases few : xs = [] ∨ k = 1 ∨ k = 0
      · refine .inr (.inr (.inl ⟨_, _, _, rfl, rfl, sq, c1, c2, few, fun he => n _ G H (gr0 ex) ?_, fun he p hp => ?_⟩))
        · rcases he with rfl | rfl
          · cases r1
            rw [show (List.replicate k.toNat ([] : List PyData)).flatten = [] by simp]
            exact .tup h1 l1 .nil
          · rw [show (List.replicate (1 : Int).toNat ds).flatten = ds by simp]
            exact .tup h1 l1 r1
        · obtain rfl : k = 0 := few.elim (fun e => absurd (.inl e) he) fun e => e.elim (fun e => absurd (.inr e) he) id
          exact n _ _ _ (.laid ex hp) (.tup upd_same (by simp) .nil)
      · refine .inr (.inr (.inr ⟨_, _, _, rfl, rfl, sq, fun e => few (.inl e), ?_, c2, by rw [r1.length]; exact c3, fun p hp => ?_⟩))
        · have a : k ≠ 0 := fun e => few (.inr (.inr e))
          have b : k ≠ 1 := fun e => few (.inr (.inl e))
          omega
        · refine n _ _ _ (.laid ex hp) (.tup upd_same ?_ ((r1.rep _).mono (.new (ex.free hp))))
          have a1 : k.toNat * ds.length ≤ 1000 * 1000 := Nat.mul_le_mul (by omega) c3
          rw [rep_len]
          exact a1
  · cases hz

/-! ### comparisons -/
def pEq (d e : PyData) : Option PyData := if d.plain && e.plain && (decide (d.depth ≤ 32) && decide (e.depth ≤ 32)) then some (.bool (PyData.eqv d e)) else none
def pNe (d e : PyData) : Option PyData := if d.plain && e.plain && (decide (d.depth ≤ 32) && decide (e.depth ≤ 32)) then some (.bool (!PyData.eqv d e)) else none
theorem eq_sides {d e : PyData} (h : (d.plain && e.plain && (decide (d.depth ≤ 32) && decide (e.depth ≤ 32))) = true) : d.plain = true ∧ e.plain = true ∧ d.depth ≤ 32 ∧ e.depth ≤ 32 := by
  rw [Bool.and_eq_true, Bool.and_eq_true, Bool.and_eq_true, decide_eq_true_eq, decide_eq_true_eq] at h
  exact ⟨h.1.1, h.1.2, h.2.1, h.2.2⟩
end
section
variable {X : Cx}
/-- by what the values read as -/
theorem o_eq (hu : X.A.units + 64 < cLine) : OpR X (compareOp .Eq) (rD2 pEq) := by
  intro pins s σ H x y v u Q I rx ry ⟨G, d, e, z, ex, rd, re, hz, n⟩
  unfold pEq at hz
  split at hz <;> cases hz
  rename_i h
  obtain ⟨p1, p2, p3, p4⟩ := eq_sides h
  obtain ⟨as, r1⟩ := rd.reads I ex rx p1
  obtain ⟨bs, r2⟩ := re.reads I ex ry p2
  exact SeqAt.eq_plain r1 r2 p1 p2 (by omega) ⟨.bl _, H, I, rfl, n _ G H (gr0 ex) (.bl _)⟩
theorem o_ne (hu : X.A.units + 64 < cLine) : OpR X (compareOp .NotEq) (rD2 pNe) := by
  intro pins s σ H x y v u Q I rx ry ⟨G, d, e, z, ex, rd, re, hz, n⟩
  unfold pNe at hz
  split at hz <;> cases hz
  rename_i h
  obtain ⟨p1, p2, p3, p4⟩ := eq_sides h
  obtain ⟨as, r1⟩ := rd.reads I ex rx p1
  obtain ⟨bs, r2⟩ := re.reads I ex ry p2
  exact SeqAt.ne_plain r1 r2 p1 p2 (by omega) ⟨.bl _, H, I, rfl, n _ G H (gr0 ex) (.bl _)⟩
def isNone : PyData → Bool
  | .none => true
  | _ => false
abbrev ordB (d e : PyData) : Bool := PySem.W.alike d e && !isNone d && (d.plain && e.plain) && (decide (d.depth ≤ 32))
theorem ord_of {d e : PyData} (h : ordB d e = true) : PySem.W.alike d e = true ∧ d ≠ .none ∧ d.plain = true ∧ e.plain = true ∧ d.depth ≤ 32 := by
  simp only [ordB, Bool.and_eq_true, decide_eq_true_eq, Bool.not_eq_true'] at h
  exact ⟨h.1.1.1, fun z => by rw [z] at h; exact absurd h.1.1.2 (by decide), h.1.2.1, h.1.2.2, h.2⟩
def pLt : PyData → PyData → Option PyData
  | .int i, .int j => some (.bool (decide (i < j)))
  | d, e => if ordB d e then some (.bool (PySem.W.dataLt d e)) else none
def pLe : PyData → PyData → Option PyData
  | .int i, .int j => some (.bool (decide (i ≤ j)))
  | d, e => if ordB d e then some (.bool (!PySem.W.dataLt e d)) else none
def pGt : PyData → PyData → Option PyData
  | .int i, .int j => some (.bool (decide (j < i)))
  | d, e => if ordB d e then some (.bool (PySem.W.dataLt e d)) else none
def pGe : PyData → PyData → Option PyData
  | .int i, .int j => some (.bool (decide (j ≤ i)))
  | d, e => if ordB d e then some (.bool (!PySem.W.dataLt d e)) else none
def rOrd (b : PyData → PyData → Bool) : R2 := fun x y H Q => ∃ G d e, Ex G H ∧ Rp G x d ∧ Rp G y e ∧ ordB d e = true ∧ Q (.bl (b d e)) H
theorem op_ltD (hu : X.A.units + 64 < cLine) : OpR X (compareOp .Lt) (rOrd PySem.W.dataLt) := by
  intro pins s σ H x y v u Q I rx ry ⟨G, d, e, ex, rd, re, h, n⟩
  obtain ⟨p0, p1, p2, p3, p4⟩ := ord_of h
  obtain ⟨as, r1⟩ := rd.reads I ex rx p2
  obtain ⟨bs, r2⟩ := re.reads I ex ry p3
  exact PySem.W.lt_data r1 r2 p0 p1 (by omega) ⟨.bl _, H, I, rfl, n⟩
theorem op_leD (hu : X.A.units + 64 < cLine) : OpR X (compareOp .LtE) (rOrd fun d e => !PySem.W.dataLt e d) := by
  intro pins s σ H x y v u Q I rx ry ⟨G, d, e, ex, rd, re, h, n⟩
  obtain ⟨p0, p1, p2, p3, p4⟩ := ord_of h
  obtain ⟨as, r1⟩ := rd.reads I ex rx p2
  obtain ⟨bs, r2⟩ := re.reads I ex ry p3
  exact PySem.W.le_data r1 r2 p0 p1 (by omega) ⟨.bl _, H, I, rfl, n⟩
theorem op_gtD (hu : X.A.units + 64 < cLine) : OpR X (compareOp .Gt) (rOrd fun d e => PySem.W.dataLt e d) := by
  intro pins s σ H x y v u Q I rx ry ⟨G, d, e, ex, rd, re, h, n⟩
  obtain ⟨p0, p1, p2, p3, p4⟩ := ord_of h
  obtain ⟨as, r1⟩ := rd.reads I ex rx p2
  obtain ⟨bs, r2⟩ := re.reads I ex ry p3
  exact PySem.W.gt_data r1 r2 p0 p1 (by omega) ⟨.bl _, H, I, rfl, n⟩
theorem op_geD (hu : X.A.units + 64 < cLine) : OpR X (compareOp .GtE) (rOrd fun d e => !PySem.W.dataLt d e) := by
  intro pins s σ H x y v u Q I rx ry ⟨G, d, e, ex, rd, re, h, n⟩
  obtain ⟨p0, p1, p2, p3, p4⟩ := ord_of h
  obtain ⟨as, r1⟩ := rd.reads I ex rx p2
  obtain ⟨bs, r2⟩ := re.reads I ex ry p3
  exact PySem.W.ge_data r1 r2 p0 p1 (by omega) ⟨.bl _, H, I, rfl, n⟩
theorem ordOp {op : CmpOp} {b : PyData → PyData → Bool} {bi : Int → Int → Bool} {g : PyData → PyData → Option PyData} (h1 : OpR X (compareOp op) (L2.rI0 fun i j => .bl (bi i j))) (h2 : OpR X (compareOp op) (rOrd b))
    (hg : ∀ d e z, g d e = some z → (∃ i j, d = .int i ∧ e = .int j ∧ z = .bool (bi i j)) ∨ (ordB d e = true ∧ z = .bool (b d e))) : OpR X (compareOp op) (rD2 g) := OpR.imp (OpR.or h1 h2) fun x y H Q ⟨G, d, e, z, ex, rx, ry, hz, n⟩ => by
  rcases hg d e z hz with ⟨i, j, rfl, rfl, rfl⟩ | ⟨ho, rfl⟩
  · cases rx; cases ry
    exact .inl ⟨i, j, rfl, rfl, n _ G H (gr0 ex) (.bl _)⟩
  · exact .inr ⟨G, d, e, ex, rx, ry, ho, n _ G H (gr0 ex) (.bl _)⟩
theorem o_lt (hu : X.A.units + 64 < cLine) : OpR X (compareOp .Lt) (rD2 pLt) := ordOp op_lt (op_ltD hu) fun d e z h => by
  unfold pLt at h
  split at h
  · cases h; exact .inl ⟨_, _, rfl, rfl, rfl⟩
  · split at h <;> cases h; exact .inr ⟨by assumption, rfl⟩
theorem o_le (hu : X.A.units + 64 < cLine) : OpR X (compareOp .LtE) (rD2 pLe) := ordOp op_le (op_leD hu) fun d e z h => by
  unfold pLe at h
  split at h
  · cases h; exact .inl ⟨_, _, rfl, rfl, rfl⟩
  · split at h <;> cases h; exact .inr ⟨by assumption, rfl⟩
theorem o_gt (hu : X.A.units + 64 < cLine) : OpR X (compareOp .Gt) (rD2 pGt) := ordOp op_gt (op_gtD hu) fun d e z h => by
  unfold pGt at h
  split at h
  · cases h; exact .inl ⟨_, _, rfl, rfl, rfl⟩
  · split at h <;> cases h; exact .inr ⟨by assumption, rfl⟩
theorem o_ge (hu : X.A.units + 64 < cLine) : OpR X (compareOp .GtE) (rD2 pGe) := ordOp op_ge (op_geD hu) fun d e z h => by
  unfold pGe at h
  split at h
  · cases h; exact .inl ⟨_, _, rfl, rfl, rfl⟩
  · split at h <;> cases h; exact .inr ⟨by assumption, rfl⟩
/-- is, is not: with None, True, False on the right -/
def pIs : PyData → PyData → Option PyData
  | d, .none => some (.bool (isNone d))
  | .bool a, .bool b => some (.bool (decide (a = b)))
  | _, _ => none
def pIsNot : PyData → PyData → Option PyData
  | d, .none => some (.bool (!isNone d))
  | .bool a, .bool b => some (.bool (!decide (a = b)))
  | _, _ => none
theorem o_is : OpR X (compareOp .Is) (rD2 pIs) := OpR.imp (OpR.or op_isN op_isBl) fun x y H Q ⟨G, d, e, z, ex, rx, ry, hz, n⟩ => by
  unfold pIs at hz
  split at hz
  · cases hz; cases ry
    refine .inl ⟨rfl, ?_⟩
    have e : decide (x = V.non) = isNone d := by cases rx <;> simp [isNone]
    rw [e]
    exact n _ G H (gr0 ex) (.bl _)
  · cases hz; cases rx; cases ry
    exact .inr ⟨_, _, rfl, rfl, n _ G H (gr0 ex) (.bl _)⟩
  · cases hz
theorem o_isNot : OpR X (compareOp .IsNot) (rD2 pIsNot) := OpR.imp (OpR.or op_notN op_notBl) fun x y H Q ⟨G, d, e, z, ex, rx, ry, hz, n⟩ => by
  unfold pIsNot at hz
  split at hz
  · cases hz; cases ry
    refine .inl ⟨rfl, ?_⟩
    have e : (!decide (x = V.non)) = !isNone d := by cases rx <;> simp [isNone]
    rw [e]
    exact n _ G H (gr0 ex) (.bl _)
  · cases hz; cases rx; cases ry
    exact .inr ⟨_, _, rfl, rfl, n _ G H (gr0 ex) (.bl _)⟩
  · cases hz
/-! ### in -/
def anyEq (d : PyData) (xs : List PyData) : Bool := xs.any fun y => PyData.eqv y d
def okIn (d : PyData) (xs : List PyData) : Bool := PyData.plainAll xs && d.plain && decide (d.depth ≤ 32)
def pIn : PyData → PyData → Option PyData
  | d, .list xs => if okIn d xs then some (.bool (anyEq d xs)) else none
  | d, .tuple xs => if okIn d xs then some (.bool (anyEq d xs)) else none
  | _, _ => none
def pNotIn : PyData → PyData → Option PyData
  | d, .list xs => if okIn d xs then some (.bool (!anyEq d xs)) else none
  | d, .tuple xs => if okIn d xs then some (.bool (!anyEq d xs)) else none
  | _, _ => none
theorem okIn_of {d : PyData} {xs : List PyData} (h : okIn d xs = true) : PyData.plainAll xs = true ∧ d.plain = true ∧ d.depth ≤ 32 := by
  simp only [okIn, Bool.and_eq_true, decide_eq_true_eq] at h
  exact ⟨h.1.1, h.1.2, h.2⟩
theorem o_in (hu : X.A.units + 64 < cLine) : OpR X (compareOp .In) (rD2 pIn) := by
  intro pins s σ H x y v u Q I rx ry ⟨G, d, e, z, ex, rd, re, hz, n⟩
  unfold pIn at hz
  split at hz
  · split at hz <;> cases hz
    rename_i h
    obtain ⟨p1, p2, p3⟩ := okIn_of h
    obtain ⟨as, r1⟩ := rd.reads I ex rx p2
    obtain ⟨bs, r2⟩ := re.reads I ex ry (by unfold PyData.plain; exact p1)
    exact SeqAt.in_list_data r2 r1 p1 p2 (by omega) ⟨.bl _, H, I, rfl, n _ G H (gr0 ex) (.bl _)⟩
  · split at hz <;> cases hz
    rename_i h
    obtain ⟨p1, p2, p3⟩ := okIn_of h
    obtain ⟨as, r1⟩ := rd.reads I ex rx p2
    obtain ⟨bs, r2⟩ := re.reads I ex ry (by unfold PyData.plain; exact p1)
    exact SeqAt.in_tuple_data r2 r1 p1 p2 (by omega) ⟨.bl _, H, I, rfl, n _ G H (gr0 ex) (.bl _)⟩
  · cases hz
theorem o_notIn (hu : X.A.units + 64 < cLine) : OpR X (compareOp .NotIn) (rD2 pNotIn) := by
  intro pins s σ H x y v u Q I rx ry ⟨G, d, e, z, ex, rd, re, hz, n⟩
  unfold pNotIn at hz
  split at hz
  · split at hz <;> cases hz
    rename_i h
    obtain ⟨p1, p2, p3⟩ := okIn_of h
    obtain ⟨as, r1⟩ := rd.reads I ex rx p2
    obtain ⟨bs, r2⟩ := re.reads I ex ry (by unfold PyData.plain; exact p1)
    exact SeqAt.notIn_list_data r2 r1 p1 p2 (by omega) ⟨.bl _, H, I, rfl, n _ G H (gr0 ex) (.bl _)⟩
  · split at hz <;> cases hz
    rename_i h
    obtain ⟨p1, p2, p3⟩ := okIn_of h
    obtain ⟨as, r1⟩ := rd.reads I ex rx p2
    obtain ⟨bs, r2⟩ := re.reads I ex ry (by unfold PyData.plain; exact p1)
    exact SeqAt.notIn_tuple_data r2 r1 p1 p2 (by omega) ⟨.bl _, H, I, rfl, n _ G H (gr0 ex) (.bl _)⟩
  · cases hz
/-! ### items -/
def pIx : PyData → PyData → Option PyData
  | .list xs, .int i => atI xs i
  | .tuple xs, .int i => atI xs i
  | _, _ => none
theorem RpA.atI {G : Hp} {vs : List V} {ds : List PyData} {i : Int} {d : PyData} (r : RpA G vs ds) (h : L2.atI ds i = some d) : ∃ v, L2.atI vs i = some v ∧ Rp G v d := by
  unfold L2.atI at h ⊢
  rw [r.length]
  cases e : ixN ds.length i with
  | none => rw [e] at h; exact nomatch h
  | some j =>
    rw [e] at h
    exact r.get (i := j) h
theorem o_ix : IxR X (rD2 pIx) := IxR.imp (IxR.or ix_list ix_tup) fun x y H Q ⟨G, d, e, z, ex, rx, ry, hz, n⟩ => by
  unfold pIx at hz
  split at hz
  · cases ry
    cases rx with
    | lst h l r =>
      obtain ⟨v, h1, h2⟩ := r.atI hz
      exact .inl ⟨_, _, _, _, rfl, rfl, SqL.of (ex _ _ h), h1, n _ G H (gr0 ex) h2⟩
  · cases ry
    cases rx with
    | tup h l r =>
      obtain ⟨v, h1, h2⟩ := r.atI hz
      exact .inr ⟨_, _, _, _, rfl, rfl, SqT.of (ex _ _ h), h1, n _ G H (gr0 ex) h2⟩
  · cases hz
/-! ### built-in calls -/
def pLen : List PyData → Option PyData
  | [.list xs] => some (.int xs.length)
  | [.tuple xs] => some (.int xs.length)
  | [.str x] => if x.length ≤ LIM then some (.int x.length) else none
  | _ => none
theorem c_len : CallR X (.builtin "len") (rDA pLen) := CallR.imp call_len fun xs H Q ⟨G, ds, z, ex, r, hz, n⟩ => by
  unfold pLen at hz
  split at hz
  · cases hz
    cases r with
    | cons r1 r2 =>
      cases r2; cases r1 with
      | lst h l q => exact ⟨_, _, rfl, .inl ⟨_, SqL.of (ex _ _ h), q.length.symm⟩, n _ G H (gr0 ex) (.int _)⟩
  · cases hz
    cases r with
    | cons r1 r2 =>
      cases r2; cases r1 with
      | tup h l q => exact ⟨_, _, rfl, .inr ⟨_, SqT.of (ex _ _ h), q.length.symm⟩, n _ G H (gr0 ex) (.int _)⟩
  · split at hz <;> cases hz
    rename_i hl
    cases r with
    | cons r1 r2 =>
      cases r2; cases r1
      exact ⟨_, _, rfl, ⟨lim_le hl, rfl⟩, n _ G H (gr0 ex) (.int _)⟩
  · cases hz
def pTuple : List PyData → Option PyData
  | [.list xs] => some (.tuple xs)
  | [.tuple xs] => some (.tuple xs)
  | _ => none
theorem c_tuple : CallR X (.type "tuple") (rDA pTuple) := CallR.imp call_tuple_of fun xs H Q ⟨G, ds, z, ex, r, hz, n⟩ => by
  unfold pTuple at hz
  split at hz
  · cases hz
    cases r with
    | cons r1 r2 =>
      cases r2; cases r1 with
      | lst h l q => exact ⟨_, _, rfl, .inl ⟨SqL.of (ex _ _ h), fun p hp => n _ _ _ (.laid ex hp) (.tup upd_same l (q.mono (.new (ex.free hp))))⟩⟩
  · cases hz
    cases r with
    | cons r1 r2 =>
      cases r2; cases r1 with
      | tup h l q => exact ⟨_, _, rfl, .inr ⟨SqT.of (ex _ _ h), n _ G H (gr0 ex) (.tup h l q)⟩⟩
  · cases hz
def pList : List PyData → Option PyData
  | [.list xs] => some (.list xs)
  | [.tuple xs] => some (.list xs)
  | _ => none
theorem c_list : CallR X (.type "list") (rDA pList) := CallR.imp call_list_of fun xs H Q ⟨G, ds, z, ex, r, hz, n⟩ => by
  unfold pList at hz
  split at hz
  · cases hz
    cases r with
    | cons r1 r2 =>
      cases r2; cases r1 with
      | lst h l q => exact ⟨_, _, rfl, .inl (SqL.of (ex _ _ h)), fun p hp => n _ _ _ (.laid ex hp) (.lst upd_same l (q.mono (.new (ex.free hp))))⟩
  · cases hz
    cases r with
    | cons r1 r2 =>
      cases r2; cases r1 with
      | tup h l q => exact ⟨_, _, rfl, .inr (SqT.of (ex _ _ h)), fun p hp => n _ _ _ (.laid ex hp) (.lst upd_same l (q.mono (.new (ex.free hp))))⟩
  · cases hz
def pInt : List PyData → Option PyData
  | [.int i] => some (.int i)
  | [.bool b] => some (.int (if b then 1 else 0))
  | _ => none
theorem c_int : CallR X (.type "int") (rDA pInt) := CallR.imp call_int1 fun xs H Q ⟨G, ds, z, ex, r, hz, n⟩ => by
  unfold pInt at hz
  split at hz
  · cases hz
    cases r with
    | cons r1 r2 => cases r2; cases r1; exact .inl ⟨_, rfl, n _ G H (gr0 ex) (.int _)⟩
  · cases hz
    cases r with
    | cons r1 r2 => cases r2; cases r1; exact .inr ⟨_, rfl, n _ G H (gr0 ex) (.int _)⟩
  · cases hz
end
end Pu
end TP3

section TP4
set_option Elab.async false
set_option linter.all false
set_option maxRecDepth 100000
set_option maxHeartbeats 4200000
namespace Pu
open PyProof.Rows L2 PySem PySem.Spec

/-! ### sequences that an iterator draws from -/
abbrev SqOf := PySem.W.Frag → Hp → Addr → List V → Prop
structure Dr (Sq : SqOf) where
  At : Heap → Addr → Array Value → Prop
  It : Heap → Addr → Addr → Nat → Prop
  ob : Addr → Obj
  read : ∀ {X : Cx} {pins : List (Addr × Obj)} {σ : L2.St} {H : Hp} {s : Shared} {a : Addr} {xs : List V}, Inv X pins σ H s → Sq X.K H a xs → ∃ its : List Value, Vals xs its ∧ At s.heap a its.toArray
  one : ∀ {X : Cx} {pins : List (Addr × Obj)} {σ : L2.St} {H : Hp} {s : Shared} {a : Addr} {xs ys : List V}, Inv X pins σ H s → Sq X.K H a xs → Sq X.K H a ys → xs = ys
  old : ∀ {h : Heap} {a : Addr} {its : Array Value}, At h a its → a < h.objs.size
  beg : ∀ (a : Addr) (its : Array Value), Begins (.ref a) (ob a) (fun h => At h a its)
  new : ∀ {h : Heap} {it a : Addr}, h.get? it = some (ob a) → It h it a 0
  live : ∀ {h : Heap} {it a : Addr} {i : Nat}, It h it a i → ∃ o, h.get? it = some o ∧ ∀ v, o.data ≠ .cell v
  stay : ∀ {h h' : Heap} {it a : Addr} {i : Nat}, It h it a i → (∀ o, h.get? it = some o → h'.get? it = some o) → It h' it a i
  walks : ∀ (P : Program) (w : World) (A : Around) (it a : Addr) (its : Array Value), A.handled = none → a ≠ it → Walks P w A it [it, a] [it] its.size (fun i v => its[i]? = some v) (fun i h => It h it a i ∧ At h a its)
  cl : String
  ty : ∀ {s : Shared} {a : Addr} {its : Array Value}, At s.heap a its → s.TypeIs (.ref a) cl
  up : ∀ {h h' : Heap} {a : Addr} {its : Array Value}, At h a its → (∀ b o, h.get? b = some o → h'.get? b = some o) → At h' a its
  nset : isSubtype (.type cl) (.type "set") = pure false
  nfro : isSubtype (.type cl) (.type "frozenset") = pure false
  ndic : (Value.type cl == Value.type "dict") = false
  draws : ∀ (P : Program) (w : World) (A : Around) (it a : Addr) (its : Array Value), A.handled = none → a ≠ it → Draws P w A it [it, a] its.size (fun i v => its[i]? = some v) (fun i h => It h it a i ∧ At h a its)
def drT : Dr SqT where
  At := fun h a its => h.IsTuple a its
  It := fun h it a i => h.IsTupleIter it a i
  ob := fun a => { cls := .type "tuple_iterator", data := .fields #[.ref a, .int 0 0] }
  read := fun I q => let ⟨its, r, ⟨o, h1, h2, n, h3⟩, _⟩ := I.tuple q; ⟨its, r, o, h1, h2, n, h3⟩
  one := fun I q q' => I.tuple_inj q q'
  old := fun ⟨o, ho, _⟩ => Heap.lt_size ho
  beg := fun a its => begins_tuple a its
  new := fun e => ⟨_, e, rfl, rfl⟩
  live := fun ⟨o, ho, _, hd⟩ => ⟨o, ho, fun v q => by rw [hd] at q; cases q⟩
  stay := fun q k => q.at k
  draws := fun P w A it a its hh ne => Draws.tuple hh it a ne its
  walks := fun P w A it a its hh ne => Walks.tuple hh it a ne its
  cl := "tuple"
  ty := fun ⟨o, ho, hc, _⟩ => ⟨o, ho, hc⟩
  up := fun ⟨o, ho, r⟩ k => ⟨o, k _ o ho, r⟩
  nset := PySem.F.sub_tuple_set
  nfro := PySem.F.sub_tuple_frozenset
  ndic := by decide
def drL : Dr SqL where
  At := fun h a its => h.IsList a its
  It := fun h it a i => h.IsListIter it a i
  ob := fun a => { cls := .type "list_iterator", data := .fields #[.ref a, .int 0 0] }
  read := fun I q => let ⟨its, r, p, _⟩ := I.list q; ⟨its, r, p.isList⟩
  one := fun I q q' => I.list_inj q q'
  old := fun ⟨o, ho, _⟩ => Heap.lt_size ho
  beg := fun a its => begins_list a its
  new := fun e => ⟨_, e, rfl, rfl⟩
  live := fun ⟨o, ho, _, hd⟩ => ⟨o, ho, fun v q => by rw [hd] at q; cases q⟩
  stay := fun q k => q.at k
  draws := fun P w A it a its hh ne => Draws.list hh it a ne its
  walks := fun P w A it a its hh ne => Walks.list hh it a ne its
  cl := "list"
  ty := fun ⟨o, ho, hc, _⟩ => ⟨o, ho, hc⟩
  up := fun ⟨o, ho, r⟩ k => ⟨o, k _ o ho, r⟩
  nset := PySem.F.sub_list_set
  nfro := PySem.F.sub_list_frozenset
  ndic := by decide

section
variable {X : Cx}
def asInts : List PyData → Option (List Int)
  | [] => some []
  | .int i :: r => (asInts r).map (i :: ·)
  | _ :: _ => none
theorem asInts_vals {G : Hp} : ∀ {ds : List PyData} {vs : List V} {ns : List Int}, RpA G vs ds → asInts ds = some ns → vs = ns.map V.int
  | _, _, _, .nil, h => by unfold asInts at h; cases h; rfl
  | _, _, _, .cons (d := d) (ds := ds) r t, h => by
    cases d with
    | int i =>
      unfold asInts at h
      cases e : asInts ds with
      | none => rw [e] at h; exact nomatch h
      | some ms =>
        rw [e] at h; cases h
        cases r
        rw [asInts_vals t e]; rfl
    | _ => unfold asInts at h; cases h
theorem asInts_map : ∀ ns : List Int, asInts (ns.map .int) = some ns
  | [] => rfl
  | n :: r => by show (asInts (r.map .int)).map (n :: ·) = _; rw [asInts_map r]; rfl
def asBools : List PyData → Option (List Bool)
  | [] => some []
  | .bool i :: r => (asBools r).map (i :: ·)
  | _ :: _ => none
theorem asBools_vals {G : Hp} : ∀ {ds : List PyData} {vs : List V} {ns : List Bool}, RpA G vs ds → asBools ds = some ns → vs = ns.map V.bl
  | _, _, _, .nil, h => by unfold asBools at h; cases h; rfl
  | _, _, _, .cons (d := d) (ds := ds) r t, h => by
    cases d with
    | bool i =>
      unfold asBools at h
      cases e : asBools ds with
      | none => rw [e] at h; exact nomatch h
      | some ms =>
        rw [e] at h; cases h
        cases r
        rw [asBools_vals t e]; rfl
    | _ => unfold asBools at h; cases h
theorem asBools_map : ∀ ns : List Bool, asBools (ns.map .bool) = some ns
  | [] => rfl
  | n :: r => by show (asBools (r.map .bool)).map (n :: ·) = _; rw [asBools_map r]; rfl
theorem istup {h : Heap} {a : Addr} {its : Array Value} (p : IsTup h a its) : h.IsTuple a its := by
  obtain ⟨o, h1, h2, n', h3⟩ := p
  exact ⟨o, h1, h2, n', h3⟩
/-! ### sum of a list, a tuple of ints -/
theorem sum_seq {Sq : SqOf} (D : Dr Sq) {P : Program} {w : World} {A : Around} {E : Value → Shared → Prop} {s : Shared} {a : Addr} {ns : List Int} {Q : Value → Shared → Prop} (hh : A.handled = none) {xs : Array (Int × Tok)} (hl : D.At s.heap a (intItems xs)) (hn : (xs.toList.map (·.1)) = ns)
    (h : ∀ h' tk t', (∀ b o, s.heap.get? b = some o → h'.get? b = some o) → Q (.int ns.sum t') { s with heap := h', toks := tk }) : wpAny (model P w) A (call (.builtin "sum") [.ref a]) Q E s := by
  have low := D.old hl
  have total : preSum (numAt xs) (intItems xs).size = ns.sum := by
    rw [show (intItems xs).size = xs.size by simp [intItems], preSum_eq, List.take_of_length_le (by simp), hn]
  refine call_sum_walkG ((D.beg a _).iter P w _ _ _ _ hl ⟨_, _, _, _, _, _, numAt xs, rfl, D.walks P w A.in1 s.heap.objs.size a _ hh (Nat.ne_of_lt low), ⟨D.new (Heap.get?_push_size _ (D.beg a (intItems xs)).free), D.up hl fun b o e => Heap.get?_push_of_some _ e⟩, fun b hb => ?_, (fun _ _ => intItems_at), fun h' tk t' hk => ?_⟩)
  · rcases (by simpa using hb : b = s.heap.objs.size ∨ b = a) with e | e
    · rw [e]
      exact Heap.lt_size (Heap.get?_push_size s.heap (D.beg a (intItems xs)).free)
    · rw [e]
      exact D.old (D.up hl fun b o e => Heap.get?_push_of_some _ e)
  · rw [total]
    refine h h' tk t' fun b o e => hk b o (fun m => ?_) (Heap.get?_push_of_some _ e)
    exact Nat.lt_irrefl _ ((List.mem_singleton.mp m) ▸ Heap.lt_size e)
theorem ints_arr {its : List Value} {ns : List Int} (hi : IntsAre its ns) : ∃ xs, its.toArray = intItems xs ∧ xs.toList.map (·.1) = ns := by
  have ⟨xs, e⟩ := hi.allInts.items
  refine ⟨xs, e, ?_⟩
  rw [← nums_intItems, ← e]
  exact hi.numsOf
def pSum : List PyData → Option PyData
  | [.list xs] => (asInts xs).map fun ns => .int ns.sum
  | [.tuple xs] => (asInts xs).map fun ns => .int ns.sum
  | _ => none
theorem c_sum (hc : X.calm = true) : CallR X (.builtin "sum") (rDA pSum) := by
  intro pins s σ H vs us Q I r ⟨G, ds, z, ex, rs, hz, n⟩
  unfold pSum at hz
  split at hz
  · obtain ⟨ns, hn, rfl⟩ := Option.map_eq_some_iff.mp hz
    cases rs with
    | cons r1 r2 =>
      cases r2; cases r1 with
      | lst h l q =>
        have e := asInts_vals q hn
        subst e
        exact cr_sum hc pins s σ H _ us Q I r ⟨_, ns, rfl, SqL.of (ex _ _ h), n _ G H (gr0 ex) (.int _)⟩
  · obtain ⟨ns, hn, rfl⟩ := Option.map_eq_some_iff.mp hz
    cases rs with
    | cons r1 r2 =>
      cases r2; cases r1 with
      | tup h l q =>
        have e := asInts_vals q hn
        subst e
        obtain ⟨its, rv, p, _⟩ := I.tuple (SqT.of (ex _ _ h))
        rw [Vals.ref1 r]
        obtain ⟨xs, e1, e2⟩ := ints_arr rv.ints
        exact sum_seq drT (I.ok.hd hc) (by rw [← e1]; exact istup p) e2 fun h' tk t' hk => ⟨.int _, H, I.kept hk, ⟨_, rfl⟩, n _ G H (gr0 ex) (.int _)⟩
  · cases hz
/-! ### min, max -/
def lowest (n : Int) (ns : List Int) : Int := ns.foldl min n
def highest (n : Int) (ns : List Int) : Int := ns.foldl max n
def pMin : List PyData → Option PyData
  | [.int i, .int j] => some (.int (if j < i then j else i))
  | [.list xs] => match asInts xs with | some (n :: ns) => some (.int (lowest n ns)) | _ => none
  | [.tuple xs] => match asInts xs with | some (n :: ns) => some (.int (lowest n ns)) | _ => none
  | _ => none
def pMax : List PyData → Option PyData
  | [.int i, .int j] => some (.int (if j > i then j else i))
  | [.list xs] => match asInts xs with | some (n :: ns) => some (.int (highest n ns)) | _ => none
  | _ => none
theorem alike_int (ns : List Int) : PySem.W.AlikeAll (ns.map .int) := ⟨fun x hx y hy => by
    obtain ⟨i, _, rfl⟩ := List.mem_map.mp hx
    obtain ⟨j, _, rfl⟩ := List.mem_map.mp hy
    rfl, fun x hx => by obtain ⟨i, _, rfl⟩ := List.mem_map.mp hx; exact fun z => nomatch z⟩
theorem depth_int : ∀ ns : List Int, PyData.depthAll (ns.map .int) = 0 := PySem.W.depth_ints
theorem asInts_eq : ∀ {xs : List PyData} {ns : List Int}, asInts xs = some ns → xs = ns.map .int
  | [], _, h => by unfold asInts at h; cases h; rfl
  | d :: r, _, h => by
    cases d with
    | int i =>
      unfold asInts at h
      cases e : asInts r with
      | none => rw [e] at h; exact nomatch h
      | some ms => rw [e] at h; cases h; rw [asInts_eq e]; rfl
    | _ => unfold asInts at h; cases h
theorem plain_int : ∀ ns : List Int, PyData.plainAll (ns.map .int) = true
  | [] => rfl
  | n :: r => by show (true && PyData.plainAll (r.map .int)) = true; rw [plain_int r]; rfl
theorem reads_int {h : Heap} {v : Value} {i : Int} {as : List Addr} (r : Reads h v (.int i) as) : ∃ t, v = .int i t := by cases r; exact ⟨_, rfl⟩
theorem c_min (hc : X.calm = true) (hu : X.A.units + 64 < cLine) : CallR X (.builtin "min") (rDA pMin) := by
  intro pins s σ H vs us Q I r ⟨G, ds, z, ex, rs, hz, n⟩
  unfold pMin at hz
  split at hz
  · cases hz
    cases rs with
    | cons r1 r2 =>
      cases r2 with
      | cons r2 r3 =>
        cases r3; cases r2; cases r1
        exact call_min2 hc pins s σ H _ us Q I r ⟨_, _, rfl, n _ G H (gr0 ex) (.int _)⟩
  · split at hz <;> cases hz
    rename_i m ns e
    have e' := asInts_eq e
    cases rs with
    | cons r1 r2 =>
      cases r2; cases r1 with
      | lst h l q =>
        obtain ⟨its, rv, p, _⟩ := I.list (SqL.of (ex _ _ h))
        rw [e'] at q
        obtain ⟨as, ra⟩ := q.reads I ex rv (plain_int _)
        rw [Vals.ref1 r]
        refine PySem.W.min_list_data (x := .int m) (xs := ns.map .int) (I.ok.hd hc) p.isList ra (alike_int (m :: ns)) (by rw [show (PyData.int m :: ns.map .int) = (m :: ns).map .int from rfl, depth_int]; omega) fun i v h' tk bs hv rd hk => ?_
        rw [PySem.W.minD_ints] at rd
        obtain ⟨t, rfl⟩ := reads_int rd
        exact ⟨.int _, H, I.kept hk, ⟨_, rfl⟩, n _ G H (gr0 ex) (.int _)⟩
  · split at hz <;> cases hz
    rename_i m ns e
    have e' := asInts_eq e
    cases rs with
    | cons r1 r2 =>
      cases r2; cases r1 with
      | tup h l q =>
        obtain ⟨its, rv, p, _⟩ := I.tuple (SqT.of (ex _ _ h))
        rw [e'] at q
        obtain ⟨as, ra⟩ := q.reads I ex rv (plain_int _)
        rw [Vals.ref1 r]
        refine PySem.W.min_tuple_data (x := .int m) (xs := ns.map .int) (I.ok.hd hc) (istup p) ra (alike_int (m :: ns)) (by rw [show (PyData.int m :: ns.map .int) = (m :: ns).map .int from rfl, depth_int]; omega) fun i v h' tk bs hv rd hk => ?_
        rw [PySem.W.minD_ints] at rd
        obtain ⟨t, rfl⟩ := reads_int rd
        exact ⟨.int _, H, I.kept hk, ⟨_, rfl⟩, n _ G H (gr0 ex) (.int _)⟩
  · cases hz
theorem c_max (hc : X.calm = true) (hu : X.A.units + 64 < cLine) : CallR X (.builtin "max") (rDA pMax) := by
  intro pins s σ H vs us Q I r ⟨G, ds, z, ex, rs, hz, n⟩
  unfold pMax at hz
  split at hz
  · cases hz
    cases rs with
    | cons r1 r2 =>
      cases r2 with
      | cons r2 r3 =>
        cases r3; cases r2; cases r1
        exact call_max2 hc pins s σ H _ us Q I r ⟨_, _, rfl, n _ G H (gr0 ex) (.int _)⟩
  · split at hz <;> cases hz
    rename_i m ns e
    have e' := asInts_eq e
    cases rs with
    | cons r1 r2 =>
      cases r2; cases r1 with
      | lst h l q =>
        obtain ⟨its, rv, p, _⟩ := I.list (SqL.of (ex _ _ h))
        rw [e'] at q
        obtain ⟨as, ra⟩ := q.reads I ex rv (plain_int _)
        rw [Vals.ref1 r]
        refine PySem.W.max_list_data (x := .int m) (xs := ns.map .int) (I.ok.hd hc) p.isList ra (alike_int (m :: ns)) (by rw [show (PyData.int m :: ns.map .int) = (m :: ns).map .int from rfl, depth_int]; omega) fun i v h' tk bs hv rd hk => ?_
        rw [PySem.W.maxD_ints] at rd
        obtain ⟨t, rfl⟩ := reads_int rd
        exact ⟨.int _, H, I.kept hk, ⟨_, rfl⟩, n _ G H (gr0 ex) (.int _)⟩
  · cases hz
/-! ### gcd, lcm -/
def pGcd : List PyData → Option PyData
  | [.int i, .int j] => some (.int ((Nat.gcd i.natAbs j.natAbs : Nat) : Int))
  | _ => none
def pLcm : List PyData → Option PyData
  | [.int i, .int j] => if i.natAbs < 2 ^ 64 ∧ j.natAbs < 2 ^ 64 then some (.int ((Nat.lcm i.natAbs j.natAbs : Nat) : Int)) else none
  | _ => none
theorem c_gcd : CallR X (.builtin "math.gcd") (rDA pGcd) := CallR.imp cr_gcd fun xs H Q ⟨G, ds, z, ex, rs, hz, n⟩ => by
  unfold pGcd at hz
  split at hz
  · cases hz
    cases rs with
    | cons r1 r2 =>
      cases r2 with
      | cons r2 r3 =>
        cases r3; cases r2; cases r1
        exact ⟨_, _, rfl, n _ G H (gr0 ex) (.int _)⟩
  · cases hz
theorem c_lcm : CallR X (.builtin "math.lcm") (rDA pLcm) := by
  intro pins s σ H vs us Q I r ⟨G, ds, z, ex, rs, hz, n⟩
  unfold pLcm at hz
  split at hz
  · split at hz <;> cases hz
    rename_i h
    cases rs with
    | cons r1 r2 =>
      cases r2 with
      | cons r2 r3 =>
        cases r3; cases r2; cases r1
        have ⟨t, u, e⟩ := Vals.int2 r
        subst e
        exact PySem.W.mc_lcm h.1 h.2 fun _ => ⟨.int _, H, I.tok _, ⟨_, rfl⟩, n _ G H (gr0 ex) (.int _)⟩
  · cases hz
/-! ### all -/
def pAll : List PyData → Option PyData
  | [.list xs] => (asBools xs).map fun ns => .bool (ns.all id)
  | _ => none
theorem c_all (hc : X.calm = true) : CallR X (.builtin "all") (rDA pAll) := CallR.imp (cr_all hc) fun xs H Q ⟨G, ds, z, ex, rs, hz, n⟩ => by
  unfold pAll at hz
  split at hz
  · obtain ⟨ns, hn, rfl⟩ := Option.map_eq_some_iff.mp hz
    cases rs with
    | cons r1 r2 =>
      cases r2; cases r1 with
      | lst h l q =>
        have e := asBools_vals q hn
        subst e
        exact ⟨_, ns, rfl, SqL.of (ex _ _ h), n _ G H (gr0 ex) (.bl _)⟩
  · cases hz
/-! ### isinstance -/
def tyName : PyData → String
  | .none => "NoneType"
  | .bool _ => "bool"
  | .int _ => "int"
  | .str _ => "str"
  | .list _ => "list"
  | .tuple _ => "tuple"
  | .dict _ => "dict"
theorem Rp.kit {pins : List (Addr × Obj)} {σ : L2.St} {G H : Hp} {s : Shared} (I : Inv X pins σ H s) (ex : Ex G H) {d : PyData} {x : V} {u : Value} (r : Rp G x d) (rx : RelV x u) :
    ∃ P : Heap → Prop, PySem.W.KitX X.K u (.type (tyName d)) P ∧ P s.heap ∧ u ≠ .builtin "__main__.__loader__#opaque" := by
  cases r with
  | non => cases rx; exact ⟨_, PySem.W.kitx_none, True.intro, fun z => nomatch z⟩
  | bl b => cases rx; exact ⟨_, PySem.W.kitx_bool, True.intro, fun z => nomatch z⟩
  | int i => obtain ⟨t, rfl⟩ := rx; exact ⟨_, PySem.W.kitx_int, True.intro, fun z => nomatch z⟩
  | str i => obtain ⟨t, rfl⟩ := rx; exact ⟨_, PySem.W.kitx_str, True.intro, fun z => nomatch z⟩
  | lst h l q =>
    cases rx
    obtain ⟨_, _, n, _, h1⟩ := (show ObjOk X.prog X.w H s.heap _ (.lst _) from I.hok _ _ (ex _ _ h))
    exact ⟨_, PySem.W.kitx_list, ⟨_, h1, rfl⟩, nofun⟩
  | tup h l q =>
    cases rx
    obtain ⟨_, _, _, o, h1, h2, _⟩ := (show ObjOk X.prog X.w H s.heap _ (.tup _) from I.hok _ _ (ex _ _ h))
    exact ⟨_, PySem.W.kitx_tuple, ⟨o, h1, h2⟩, nofun⟩
  | dic h l q =>
    cases rx
    obtain ⟨_, _, xs, _, o, es, ep, h1, h2, _⟩ := (show ObjOk X.prog X.w H s.heap _ (.dT _) from (ex.rd h).ok I.hok)
    exact ⟨_, PySem.W.kitx_dict, ⟨o, h1, h2.1⟩, nofun⟩
inductive Ty5 where
  | int | bool | tuple | list | str
def Ty5.nm : Ty5 → String
  | .int => "int"
  | .bool => "bool"
  | .tuple => "tuple"
  | .list => "list"
  | .str => "str"
/-- what isinstance says -/
def isIn : Ty5 → PyData → Bool
  | .int, .int _ => true
  | .int, .bool _ => true
  | .bool, .bool _ => true
  | .tuple, .tuple _ => true
  | .list, .list _ => true
  | .str, .str _ => true
  | _, _ => false
theorem kit_is (T : Ty5) (d : PyData) : kitB (tyName d) T.nm = some (isIn T d) := by
  have t : ∀ n ∈ ["NoneType", "bool", "int", "str", "list", "tuple", "dict"], ∀ T ∈ ["int", "bool", "tuple", "list", "str"], kitB n T = some (n == T || (T == "int" && n == "bool")) := by decide +kernel
  cases T <;> cases d <;> exact (t _ (by simp [tyName]) _ (by simp [Ty5.nm]))
end
section
variable {X : Cx} {mg : Str → Option Value} {W : WK} {k : Nat} {pos : Pos}
/-- isinstance(e, T) -/
theorem x_isi {a : Expr} {fa : M PyData} {T : Ty5} {tn : Str} {p p2 : Pos} (F : Fit X mg W k) (hm : mg "isinstance" = none) (hmT : mg tn = none) (hv : bootBuiltins tn = some (.type T.nm)) (ha : PE X a (tOf mg W fa))
    (hg : Gl X "isinstance" := by rfl) (hgT : Gl X tn := by rfl) (hn2 : tn ≠ "__name__" := by decide) (hd2 : (tn == ("__debug__" : Str)) = false := by decide)
    (h1 : starEach [.Name tn p2] X.env = (false, eval (.Name tn p2) X.env) :: starEach [] X.env := by rfl) (he : starEach [a, .Name tn p2] X.env = (false, eval a X.env) :: starEach [.Name tn p2] X.env := by rfl) (hpl : (backTo pos (starEach [.Name tn p2] X.env)).any (·.1) = false := by rfl) :
    PE X (.Call (.Name "isinstance" p) [a, .Name tn p2] [] pos) (tOf mg W (f1 (fun d => some (.bool (isIn T d))) fa)) := by
  have hc : CallR X (.builtin "isinstance") (fun xs H Q => ∃ G x d, Ex G H ∧ xs = [x, V.ty T.nm] ∧ Rp G x d ∧ Q (.bl (isIn T d)) H) := by
    rintro pins s σ H _ us Q I r ⟨G, x, d, ex, rfl, rd, q⟩
    rcases vals2 r with ⟨u1, u2, rfl, r1, r2⟩
    cases (show u2 = Value.type T.nm from r2)
    obtain ⟨P, Z, pp, hx⟩ := rd.kit I ex r1
    exact PySem.W.kia_one Z I.kIn pp (kit_ty (kit_is T d)) hx fun tk => ⟨.bl _, H, I.tok tk, rfl, q⟩
  have pa := pa_cons ha (pa_cons (pe_bltn (v := V.ty T.nm) hgT (by rw [F.mg]; exact hmT) hv rfl hn2 hd2 (pos := p2)) pa_nil h1) he
  refine (pe_callB hc hg (by rw [F.mg]; exact hm) (by decide +kernel) pa (by decide) (by decide) he hpl).imp fun σ H Q ⟨c, G, ρ, S, h⟩ => ?_
  refine step S h fun u G1 H1 ρ1 a S1 e1 r1 h1 => ?_
  obtain ⟨z, hz, n⟩ := lift_gr (α := PyData) S1 h1
  cases hz
  exact ⟨G1, u, a, S1.ex, rfl, r1, n _ G1 H1 (gr0 S1.ex) (.bl _)⟩
theorem kitAny2 {K : PySem.W.Frag} {a T1 T2 : String} {b1 b2 : Bool} (h1 : kitB a T1 = some b1) (h2 : kitB a T2 = some b2) : PySem.W.kitAny K (.type a) [.type T1, .type T2] = some (b1 || b2) := by
  refine kitAny_cons (kit_ty h1) (fun e => ?_) fun e => by rw [e]; rfl
  rw [e, Bool.false_or]
  refine kitAny_cons (kit_ty h2) (fun e => ?_) fun e => e
  rw [e]; rfl
/-- isinstance(e, (T, U)) -/
theorem x_isi2 {a : Expr} {fa : M PyData} {T U : Ty5} {tn un : Str} {p p2 p3 p4 : Pos} {x1} (F : Fit X mg W k) (hm : mg "isinstance" = none) 
    (hmT : mg tn = none) (hvT : bootBuiltins tn = some (.type T.nm)) (hmU : mg un = none) (hvU : bootBuiltins un = some (.type U.nm)) (ha : PE X a (tOf mg W fa))
    (hg : Gl X "isinstance" := by rfl) (hgT : Gl X tn := by rfl) (hgU : Gl X un := by rfl) (hn2 : tn ≠ "__name__" := by decide) (hd2 : (tn == ("__debug__" : Str)) = false := by decide) (hn3 : un ≠ "__name__" := by decide) (hd3 : (un == ("__debug__" : Str)) = false := by decide)
    (h0 : starEach [.Name un p3] X.env = (false, eval (.Name un p3) X.env) :: starEach [] X.env := by rfl) (h00 : starEach [.Name tn p2, .Name un p3] X.env = (false, eval (.Name tn p2) X.env) :: starEach [.Name un p3] X.env := by rfl)
    (h1 : starEach [.Tuple [.Name tn p2, .Name un p3] x1 p4] X.env = (false, eval (.Tuple [.Name tn p2, .Name un p3] x1 p4) X.env) :: starEach [] X.env := by rfl) (he : starEach [a, .Tuple [.Name tn p2, .Name un p3] x1 p4] X.env = (false, eval a X.env) :: starEach [.Tuple [.Name tn p2, .Name un p3] x1 p4] X.env := by rfl)
    (hpl : (backTo pos (starEach [.Tuple [.Name tn p2, .Name un p3] x1 p4] X.env)).any (·.1) = false := by rfl) :
    PE X (.Call (.Name "isinstance" p) [a, .Tuple [.Name tn p2, .Name un p3] x1 p4] [] pos) (tOf mg W (f1 (fun d => some (.bool (isIn T d || isIn U d))) fa)) := by
  have hc : CallR X (.builtin "isinstance") (fun xs H Q => ∃ G x d tp, Ex G H ∧ xs = [x, V.ref tp] ∧ H tp = some (.tup [V.ty T.nm, V.ty U.nm]) ∧ Rp G x d ∧ Q (.bl (isIn T d || isIn U d)) H) := by
    rintro pins s σ H _ us Q I r ⟨G, x, d, tp, ex, rfl, hT', rd, q⟩
    rcases vals2 r with ⟨u1, u2, rfl, r1, r2⟩
    obtain rfl : u2 = Value.ref tp := r2
    obtain ⟨P, Z, pp, hx⟩ := rd.kit I ex r1
    obtain ⟨_, its, rv, o, h1, h2, n, h3⟩ := (show ObjOk X.prog X.w H s.heap tp (.tup _) from I.hok tp _ hT')
    have e3 := ClsV.all (Paired.cons (ClsV.ty T.nm) (Paired.cons (ClsV.ty U.nm) Paired.nil)) rv
    subst e3
    obtain ⟨oc, od, dt, sl⟩ := o
    simp only at h2 h3
    subst h2 h3
    exact PySem.W.kia_tup Z I.kIn pp h1 (kitAny2 (kit_is T d) (kit_is U d)) hx fun tk => ⟨.bl _, H, I.tok tk, rfl, q⟩
  have pt := pe_tup (x1 := x1) (pos := p4) (pa_cons (pe_bltn (v := V.ty T.nm) hgT (by rw [F.mg]; exact hmT) hvT rfl hn2 hd2 (pos := p2)) (pa_cons (pe_bltn (v := V.ty U.nm) hgU (by rw [F.mg]; exact hmU) hvU rfl hn3 hd3 (pos := p3)) pa_nil h0) h00)
  have pa := pa_cons ha (pa_cons pt pa_nil h1) he
  refine (pe_callB hc hg (by rw [F.mg]; exact hm) (by decide +kernel) pa (by decide) (by decide) he hpl).imp fun σ H Q ⟨c, G, ρ, S, h⟩ => ?_
  refine step S h fun u G1 H1 ρ1 a S1 e1 r1 h1 => ?_
  obtain ⟨z, hz, n⟩ := lift_gr (α := PyData) S1 h1
  cases hz
  refine ⟨by show 2 ≤ sizeLine; rw [sizeLine_eq]; decide, fun tp htp => ?_⟩
  exact ⟨G1, u, a, tp, S1.ex.trans (.new htp), rfl, upd_same, r1, n _ G1 _ (.apart S1.ex htp) (.bl _)⟩
end
end Pu
end TP4

section TP5
set_option Elab.async false
set_option linter.all false
set_option maxRecDepth 100000
set_option maxHeartbeats 4200000
namespace Pu
open PyProof.Rows L2 PySem PySem.Spec

/-! ### tests -/
def pTruth : PyData → Option Bool
  | .none => some false
  | .bool b => some b
  | .int i => some (i != 0)
  | .str x => if x.length ≤ LIM then some ((x.length : Int) != 0) else none
  | .list xs => some (!xs.isEmpty)
  | .tuple xs => some (!xs.isEmpty)
  | .dict xs => none
def pBool : PyData → Option Bool
  | .bool b => some b
  | _ => none
def fT (fa : M PyData) : M Bool := f1 pTruth fa
def fTB (fa : M PyData) : M Bool := f1 pBool fa
def fAnd (fa fb : M Bool) : M Bool := fa.bind fun b => if b then fb else M.pure false
def fOr (fa fb : M Bool) : M Bool := fa.bind fun b => if b then M.pure true else fb
def fNot (fa : M Bool) : M Bool := fa.bind fun b => M.pure (!b)
def fIte (c : M Bool) (fa fb : M PyData) : M PyData := c.bind fun b => if b then fa else fb
/-- and, or of values, all but the last True or False -/
def fAndV (fa fb : M PyData) : M PyData := (fTB fa).bind fun b => if b then fb else M.pure (.bool false)
def fOrV (fa fb : M PyData) : M PyData := (fTB fa).bind fun b => if b then M.pure (.bool true) else fb
def fNotV (fa : M PyData) : M PyData := (fTB fa).bind fun b => M.pure (.bool (!b))
def fChain (g g' : PyData → PyData → Option PyData) (fa fb fc : M PyData) : M PyData := fa.bind fun a => fb.bind fun b => (M.lift ((g a b).bind pBool)).bind fun x => if x then fc.bind fun c => M.lift (g' b c) else M.pure (.bool false)
section
variable {X : Cx} {mg : Str → Option Value} {W : WK} {k : Nat} {pos : Pos}
theorem rp_empty {G : Hp} {vs : List V} {ds : List PyData} (r : RpA G vs ds) : (!vs.isEmpty) = !ds.isEmpty := by cases r <;> rfl
theorem tru_of {G H : Hp} (ex : Ex G H) {x : V} {d : PyData} {b : Bool} (r : Rp G x d) (h : pTruth d = some b) : TruV X.K x H b := by
  cases r with
  | non => cases h; rfl
  | bl b => cases h; rfl
  | int i => cases h; rfl
  | str x =>
    simp only [pTruth] at h
    split at h
    · cases h; exact ⟨lim_le (by assumption), rfl⟩
    · cases h
  | lst hg l q => cases h; exact .inl ⟨_, SqL.of (ex _ _ hg), (rp_empty q).symm⟩
  | tup hg l q => cases h; exact .inr (.inl ⟨_, SqT.of (ex _ _ hg), (rp_empty q).symm⟩)
  | dic hg l q => cases h
theorem Res.pureB {α β : Type} {rel : Rel β α} {c : Fc W.K} {G H : Hp} {σ : L2.St} {ρ : Env} {Q : β → Hp → Prop} {a : α} {b : β} (h : Res mg W rel c G σ Q (M.pure a ρ)) (S : Stt c G H σ ρ) (r : rel W.K c G H σ ρ b a) : Q b H := h b G H S (.refl G) r
/-- a test by its value's truth -/
theorem x_t {e : Expr} {fa : M PyData} (ha : PE X e (tOf mg W fa)) (he : ∀ whole, isTrue e X.env whole = (do let v ← whole; standAt e.pos; holding [v] (truthy v)) := by intro _; rfl) : PT X e (ttOf mg W (fT fa)) :=
  (pt_truth ha he).imp fun σ H Q ⟨c, G, ρ, S, h⟩ => by
    refine step S h fun v G1 H1 ρ1 d S1 e1 r1 h1 => ?_
    obtain ⟨b, hb, n⟩ := lift_some h1
    exact ⟨b, tru_of S1.ex r1 hb, n b G1 H1 S1 (.refl _) rfl⟩
theorem t_bool {t : TE} {fa : M PyData} {σ : L2.St} {H : Hp} {Q : Bool → Hp → Prop} (hi : ∀ σ H Q, tOf mg W fa σ H Q → t σ H Q) (w : ttOf mg W (fTB fa) σ H Q) : tTest t σ H Q := by
  obtain ⟨c, G, ρ, S, h⟩ := w
  refine hi _ _ _ (step S h fun v G1 H1 ρ1 d S1 e1 r1 h1 => ?_)
  obtain ⟨b, hb, n⟩ := lift_some h1
  cases r1 with
  | bl b' => cases hb; exact ⟨_, rfl, n _ G1 H1 S1 (.refl _) rfl⟩
  | _ => cases hb
/-- a comparison as a test -/
theorem x_tc {op : CmpOp} {r : R2} {g : PyData → PyData → Option PyData} {a b : Expr} {fa fb : M PyData} (ho : OpR X (compareOp op) r) (ro : RO2 r g) (ha : PE X a (tOf mg W fa)) (hb : PE X b (tOf mg W fb)) (hm : behindInMarks op b = false := by rfl) : PT X (.Compare a [op] [b] pos) (ttOf mg W (fTB (f2 g fa fb))) :=
  (pt_cmpR ho ha hb hm).imp fun _ _ _ w => t_bool (fun _ _ _ w => r_op2 ro w) w
theorem w_and1 {a : Expr} {fa : M Bool} (ha : PT X a (ttOf mg W fa)) : PW X (.BoolOp .And [a] pos) (ttOf mg W fa) := pw_and1 ha
theorem w_or1 {a : Expr} {fa : M Bool} (ha : PT X a (ttOf mg W fa)) : PW X (.BoolOp .Or [a] pos) (ttOf mg W fa) := pw_or1 ha
theorem w_and {a b : Expr} {rest : List Expr} {fa fb : M Bool} (ha : PT X a (ttOf mg W fa)) (hb : PW X (.BoolOp .And (b :: rest) pos) (ttOf mg W fb)) : PW X (.BoolOp .And (a :: b :: rest) pos) (ttOf mg W (fAnd fa fb)) :=
  (pw_and ha hb).imp fun σ H Q ⟨c, G, ρ, S, h⟩ => by
    refine step S h fun v G1 H1 ρ1 d S1 e1 r1 h1 => ?_
    cases r1
    cases v with
    | true => exact ⟨c, G1, ρ1, S1, h1⟩
    | false => exact Res.pureB h1 S1 rfl
theorem w_or {a b : Expr} {rest : List Expr} {fa fb : M Bool} (ha : PT X a (ttOf mg W fa)) (hb : PW X (.BoolOp .Or (b :: rest) pos) (ttOf mg W fb)) : PW X (.BoolOp .Or (a :: b :: rest) pos) (ttOf mg W (fOr fa fb)) :=
  (pw_or ha hb).imp fun σ H Q ⟨c, G, ρ, S, h⟩ => by
    refine step S h fun v G1 H1 ρ1 d S1 e1 r1 h1 => ?_
    cases r1
    cases v with
    | false => exact ⟨c, G1, ρ1, S1, h1⟩
    | true => exact Res.pureB h1 S1 rfl
theorem x_tw {e : Expr} {fa : M Bool} (h : PW X e (ttOf mg W fa)) : PT X e (ttOf mg W fa) := h.pt
theorem x_tnot {a : Expr} {fa : M Bool} (ha : PT X a (ttOf mg W fa)) : PT X (.UnaryOp .Not a pos) (ttOf mg W (fNot fa)) :=
  (pt_not ha).imp fun σ H Q ⟨c, G, ρ, S, h⟩ => by
    refine step S h fun v G1 H1 ρ1 d S1 e1 r1 h1 => ?_
    cases r1
    exact Res.pureB h1 S1 rfl
theorem r_chain {r r' : R2} {g g' : PyData → PyData → Option PyData} {fa fb fc : M PyData} (ro : RO2 r g) (ro' : RO2 r' g') {σ : L2.St} {H : Hp} {Q : VK} (w : tOf mg W (fChain g g' fa fb fc) σ H Q) : tChain r r' (tOf mg W fa) (tOf mg W fb) (tOf mg W fc) σ H Q := by
  obtain ⟨c, G, ρ, S, h⟩ := w
  refine step S h fun u G1 H1 ρ1 a S1 e1 r1 h1 => step S1 h1 fun v G2 H2 ρ2 b S2 e2 r2 h2 => ?_
  cases e : (g a b).bind pBool with
  | none => rw [e] at h2; exact h2.elim
  | some x =>
    obtain ⟨z, hz, hx⟩ := Option.bind_eq_some_iff.mp e
    rw [e] at h2
    refine ro G2 H2 u v a b z _ S2.ex (Rp.mono e2 r1) r2 hz fun w' G' H' gr rz => ?_
    have S3 := S2.gr gr
    have h3 := Res.mono gr.g h2
    cases rz with
    | bl k' =>
      cases hx
      refine ⟨_, rfl, ?_⟩
      cases x with
      | false => exact Res.pureB h3 S3 (.bl _)
      | true =>
        refine step S3 h3 fun w2 G4 H4 ρ4 d S4 e4 r4 h4 => ?_
        obtain ⟨z2, hz2, n⟩ := lift_gr (α := PyData) S4 h4
        exact ro' G4 H4 v w2 b d z2 Q S4.ex (Rp.mono (gr.g.trans e4) r2) r4 hz2 n
    | _ => cases hx
theorem x_chain {op op' : CmpOp} {r r' : R2} {g g' : PyData → PyData → Option PyData} {a b c : Expr} {fa fb fc : M PyData} (ho : OpR X (compareOp op) r) (ro : RO2 r g) (ho' : OpR X (compareOp op') r') (ro' : RO2 r' g')
    (ha : PE X a (tOf mg W fa)) (hb : PE X b (tOf mg W fb)) (hc : PE X c (tOf mg W fc)) (hm : lastMarks [op, op'] [b, c] = false := by with_unfolding_all rfl) : PE X (.Compare a [op, op'] [b, c] pos) (tOf mg W (fChain g g' fa fb fc)) :=
  (pe_chain ho ho' ha hb hc hm).imp fun _ _ _ w => r_chain ro ro' w
theorem x_tchain {op op' : CmpOp} {r r' : R2} {g g' : PyData → PyData → Option PyData} {a b c : Expr} {fa fb fc : M PyData} (ho : OpR X (compareOp op) r) (ro : RO2 r g) (ho' : OpR X (compareOp op') r') (ro' : RO2 r' g')
    (ha : PE X a (tOf mg W fa)) (hb : PE X b (tOf mg W fb)) (hc : PE X c (tOf mg W fc)) (hm : lastMarks [op, op'] [b, c] = false := by with_unfolding_all rfl) : PT X (.Compare a [op, op'] [b, c] pos) (ttOf mg W (fTB (fChain g g' fa fb fc))) :=
  (pt_chain ho ho' ha hb hc hm).imp fun _ _ _ w => t_bool (fun _ _ _ w => r_chain ro ro' w) w
theorem v_one {a : Expr} {fa : M PyData} {op} (ha : PE X a (tOf mg W fa)) : PE X (.BoolOp op [a] pos) (tOf mg W fa) := pe_one ha
theorem v_and {a b : Expr} {rest : List Expr} {fa fb : M PyData} (ha : PE X a (tOf mg W fa)) (hb : PE X (.BoolOp .And (b :: rest) pos) (tOf mg W fb)) : PE X (.BoolOp .And (a :: b :: rest) pos) (tOf mg W (fAndV fa fb)) :=
  (pe_and ha hb).imp fun σ H Q w => by
    obtain ⟨c, G, ρ, S, h⟩ := w
    have h' : Res mg W rD c G σ Q ((fTB fa).bind (fun b => if b then fb else M.pure (.bool false)) ρ) := h
    unfold tAndV
    have := t_bool (t := tOf mg W fa) (fun _ _ _ w => w) (Q := fun b H1 => if b = true then tOf mg W fb σ H1 Q else Q (.bl false) H1) (σ := σ) (H := H) (step S h' fun v G1 H1 ρ1 d S1 e1 r1 h1 => by
      cases r1
      cases v with
      | true => exact ⟨c, G1, ρ1, S1, h1⟩
      | false => exact Res.pureB h1 S1 (.bl _))
    exact this
theorem v_or {a b : Expr} {rest : List Expr} {fa fb : M PyData} (ha : PE X a (tOf mg W fa)) (hb : PE X (.BoolOp .Or (b :: rest) pos) (tOf mg W fb)) : PE X (.BoolOp .Or (a :: b :: rest) pos) (tOf mg W (fOrV fa fb)) :=
  (pe_or ha hb).imp fun σ H Q w => by
    obtain ⟨c, G, ρ, S, h⟩ := w
    have h' : Res mg W rD c G σ Q ((fTB fa).bind (fun b => if b then M.pure (.bool true) else fb) ρ) := h
    have := t_bool (t := tOf mg W fa) (fun _ _ _ w => w) (Q := fun b H1 => if b = true then Q (.bl true) H1 else tOf mg W fb σ H1 Q) (σ := σ) (H := H) (step S h' fun v G1 H1 ρ1 d S1 e1 r1 h1 => by
      cases r1
      cases v with
      | false => exact ⟨c, G1, ρ1, S1, h1⟩
      | true => exact Res.pureB h1 S1 (.bl _))
    exact this
theorem v_not {a : Expr} {fa : M PyData} (ha : PE X a (tOf mg W fa)) : PE X (.UnaryOp .Not a pos) (tOf mg W (fNotV fa)) :=
  (pe_not ha).imp fun σ H Q w => by
    obtain ⟨c, G, ρ, S, h⟩ := w
    have h' : Res mg W rD c G σ Q ((fTB fa).bind (fun b => M.pure (.bool (!b))) ρ) := h
    have := t_bool (t := tOf mg W fa) (fun _ _ _ w => w) (Q := fun b H1 => Q (.bl (!b)) H1) (σ := σ) (H := H) (step S h' fun v G1 H1 ρ1 d S1 e1 r1 h1 => by
      cases r1
      exact Res.pureB h1 S1 (.bl _))
    exact this
theorem x_ite {c a b : Expr} {fc : M Bool} {fa fb : M PyData} (hc : PT X c (ttOf mg W fc)) (ha : PE X a (tOf mg W fa)) (hb : PE X b (tOf mg W fb)) : PE X (.IfExp c a b pos) (tOf mg W (fIte fc fa fb)) :=
  (pe_ifExp hc ha hb).imp fun σ H Q ⟨c, G, ρ, S, h⟩ => by
    refine step S h fun v G1 H1 ρ1 d S1 e1 r1 h1 => ?_
    cases r1
    cases v with
    | true => exact ⟨c, G1, ρ1, S1, h1⟩
    | false => exact ⟨c, G1, ρ1, S1, h1⟩
end
end Pu
end TP5

section TP6
set_option Elab.async false
set_option linter.all false
set_option maxRecDepth 100000
set_option maxHeartbeats 4200000
namespace Pu
open PyProof.Rows L2 PySem PySem.Spec

/-- an object of no slot becomes data -/
theorem Stt.claim {κ : PySem.W.Frag} {c : Fc κ} {G H : Hp} {σ : L2.St} {ρ : Env} (S : Stt c G H σ ρ) {p : Addr} {d : PyData} (gn : G p = none) (h0 : c.H0 p = none) (ow : OwnAt G H p d) (fr : Free σ ρ p) : ∃ G', Stt c G' H σ ρ ∧ Ex G G' ∧ Rp G' (.ref p) d := by
  obtain ⟨o, ho, nt, _⟩ := ow.some
  have eg : Ex G (upd G p o) := .new gn
  have rp : Rp (upd G p o) (.ref p) d := by
    cases d with
    | list ds => obtain ⟨l, vs, h, r⟩ := ow; rw [ho] at h; cases h; exact .lst upd_same l (r.mono eg)
    | dict ds => obtain ⟨l, vs, h, r⟩ := ow; rw [ho] at h; cases h; exact .dic (.inl upd_same) l (r.mono eg)
    | _ => cases ow
  refine ⟨upd G p o, ?_, eg, rp⟩
  have nP : ∀ a, c.P a → a ≠ p := fun a h z => by
    subst z
    obtain ⟨⟨_, u, hu, _⟩, _⟩ := S.pin a h
    rw [h0] at hu; cases hu
  refine ⟨fun a u e => ?_, S.ex0.trans eg, S.old, fun a u e => ?_, fun a h => ?_, S.len, fun j t e => ?_, S.apart⟩
  · by_cases z : a = p
    · subst z; rw [upd_same] at e; cases e; exact ho
    · rw [upd_ne z] at e; exact S.ex a u e
  · by_cases z : a = p
    · subst z; exact .inr (.inl h0)
    · rw [upd_ne z] at e; exact S.new a u e
  · obtain ⟨⟨g1, g2⟩, u, hu⟩ := S.pin a h
    exact ⟨⟨by rw [upd_ne (nP a h)]; exact g1, g2⟩, u, hu⟩
  · obtain ⟨y, hy, ok2⟩ := S.sl j t e
    refine ⟨y, hy, ?_⟩
    have far : ∀ {q}, isMut t = true → y = some (.ref q) → q ≠ p := fun {q} mt ey z2 => by
      subst z2; subst ey
      exact fr j t e mt hy
    cases t with
    | un => trivial
    | dat d => obtain ⟨v, e1, r⟩ := ok2; exact ⟨v, e1, r.mono eg⟩
    | scr l => obtain ⟨v, e1, r⟩ := ok2; exact ⟨v, e1, sqL_ex eg r⟩
    | own d => obtain ⟨q, e1, gn, h0, ow⟩ := ok2; exact ⟨q, e1, by rw [upd_ne (far rfl e1)]; exact gn, h0, ow.mono eg rfl⟩
    | par loc d => obtain ⟨q, e1, gn, h0, ow⟩ := ok2; exact ⟨q, e1, by rw [upd_ne (far rfl e1)]; exact gn, h0, ow.mono eg rfl⟩

/-! ### statements -/
inductive Out where
  | nx (ρ : Env) | rt (d : PyData) (ρ : Env) | bk (ρ : Env) | ct (ρ : Env) | exc (e : Exn) (ρ : Env) | no
abbrev SM := Env → Out
def OutOk (mg : Str → Option Value) (W : WK) {κ : PySem.W.Frag} (c : Fc κ) (G : Hp) (D : Ends) : Out → Prop
  | .nx ρ' => ∀ σ' G' H', Stt c G' H' σ' ρ' → Ex G G' → D.nx σ' H'
  | .rt d ρ' => ∀ v σ' G' H', Stt c G' H' σ' ρ' → Ex G G' → Rp G' v d → D.rt v H'
  | .bk ρ' => ∀ σ' G' H', Stt c G' H' σ' ρ' → Ex G G' → D.bk σ' H'
  | .ct ρ' => ∀ σ' G' H', Stt c G' H' σ' ρ' → Ex G G' → D.ct σ' H'
  | .exc e ρ' => ∀ cls dd σ' G' H', Stt c G' H' σ' ρ' → Ex G G' → ExcRep mg G' H' e cls dd → W.w cls dd σ' H'
  | .no => False
theorem OutOk.mono {mg : Str → Option Value} {W : WK} {c : Fc W.K} {G G1 : Hp} {D : Ends} (e : Ex G G1) : ∀ {o : Out}, OutOk mg W c G D o → OutOk mg W c G1 D o
  | .nx _, h => fun σ G' H' S g => h σ G' H' S (e.trans g)
  | .rt _ _, h => fun v σ G' H' S g r => h v σ G' H' S (e.trans g) r
  | .bk _, h => fun σ G' H' S g => h σ G' H' S (e.trans g)
  | .ct _, h => fun σ G' H' S g => h σ G' H' S (e.trans g)
  | .exc _ _, h => fun c d σ G' H' S g r => h c d σ G' H' S (e.trans g) r
  | .no, h => h
def sOf (mg : Str → Option Value) (W : WK) (g : SM) : TS := fun D σ H => ∃ (c : Fc W.K) (G : Hp) (ρ : Env), Stt c G H σ ρ ∧ OutOk mg W c G D (g ρ)
/-- an expression, then a statement by its value -/
def sE {α : Type} (f : M α) (k : α → SM) : SM := fun ρ => match f ρ with
  | .ok a ρ1 => k a ρ1
  | .exc e ρ1 => .exc e ρ1
  | .no => .no
def sSeq (a b : SM) : SM := fun ρ => match a ρ with
  | .nx ρ1 => b ρ1
  | o => o
def sNil : SM := .nx
def sRet (f : M PyData) : SM := sE f fun d ρ => .rt d ρ
def sIf (c : M Bool) (a b : SM) : SM := sE c fun t => if t then a else b
def sDrop (f : M PyData) : SM := sE f fun _ ρ => .nx ρ
def sNo : SM := fun _ => .no
/-- a target takes a value -/
abbrev TM := PyData → Env → Option Env
def gN (i : Nat) : TM := fun d ρ => some (ρ.set i (.dat d))
def sAsg (f : M PyData) (g : TM) : SM := sE f fun d ρ => match g d ρ with
  | some ρ1 => .nx ρ1
  | none => .no
def sOwn (f : M PyData) (i : Nat) : SM := sE f fun d ρ => .nx (ρ.set i (.own d))

section
variable {mg : Str → Option Value} {W : WK} {c : Fc W.K} {G H : Hp} {σ : L2.St} {ρ : Env}
theorem stepS {β α : Type} {rel : Rel β α} {D : Ends} {fa : M α} {k : α → SM} {QQ : β → Hp → Prop} (S : Stt c G H σ ρ) (h : OutOk mg W c G D (sE fa k ρ))
    (n : ∀ v G1 H1 ρ1 a, Stt c G1 H1 σ ρ1 → Ex G G1 → rel W.K c G1 H1 σ ρ1 v a → OutOk mg W c G1 D (k a ρ1) → QQ v H1) : wOf mg W rel fa σ H QQ := by
  refine ⟨c, G, ρ, S, ?_⟩
  unfold sE at h
  cases e : fa ρ with
  | ok a ρ1 =>
    rw [e] at h
    exact fun v G1 H1 S1 g r => n v G1 H1 ρ1 a S1 g r (OutOk.mono g h)
  | exc x ρ1 =>
    rw [e] at h
    exact fun cls dd G1 H1 S1 g r => h cls dd σ G1 H1 S1 g r
  | no => rw [e] at h; exact h
end
section
variable {X : Cx} {mg : Str → Option Value} {W : WK} {k : Nat} {pos : Pos} {st : Stmt} {rest : List Stmt}
theorem s_nil : PSs X [] (sOf mg W sNil) := pss_nil.imp fun D σ H ⟨c, G, ρ, S, h⟩ => h σ G H S (.refl G)
theorem s_cons {a b : SM} (h1 : PS X st (sOf mg W a)) (h2 : PSs X rest (sOf mg W b)) : PSs X (st :: rest) (sOf mg W (sSeq a b)) :=
  (pss_cons h1 h2).imp fun D σ H ⟨c, G, ρ, S, h⟩ => by
    refine ⟨c, G, ρ, S, ?_⟩
    unfold sSeq at h
    cases e : a ρ with
    | nx ρ1 => rw [e] at h; exact fun σ' G' H' S' g => ⟨c, G', ρ1, S', OutOk.mono g h⟩
    | rt d ρ1 => rw [e] at h; exact h
    | bk ρ1 => rw [e] at h; exact h
    | ct ρ1 => rw [e] at h; exact h
    | exc x ρ1 => rw [e] at h; exact h
    | no => rw [e] at h; exact h
theorem s_one {a : SM} (h1 : PS X st (sOf mg W a)) : PSs X [st] (sOf mg W a) := pss_one h1
theorem s_pass : PS X (.Pass pos) (sOf mg W sNil) := ps_pass.imp fun D σ H ⟨c, G, ρ, S, h⟩ => h σ G H S (.refl G)
theorem s_doc {x j pos pos'} : PS X (.Expr (.Constant (.str x) j pos) pos') (sOf mg W sNil) := ps_doc.imp fun D σ H ⟨c, G, ρ, S, h⟩ => h σ G H S (.refl G)
theorem s_no : PS X st (sOf mg W sNo) := ps_never.imp fun D σ H ⟨c, G, ρ, S, h⟩ => h
theorem ss_no {sts : List Stmt} : PSs X sts (sOf mg W sNo) := pss_never.imp fun D σ H ⟨c, G, ρ, S, h⟩ => h
theorem s_ret {e : Expr} {f : M PyData} (he : PE X e (tOf mg W f)) : PS X (.Return (some e) pos) (sOf mg W (sRet f)) :=
  (ps_ret he).imp fun D σ H ⟨c, G, ρ, S, h⟩ => stepS S h fun v G1 H1 ρ1 d S1 e1 r1 h1 => h1 v σ G1 H1 S1 (.refl _) r1
theorem s_if {t : Expr} {a b : List Stmt} {ft : M Bool} {ga gb : SM} (hc : PT X t (ttOf mg W ft)) (ha : PSs X a (sOf mg W ga)) (hb : PSs X b (sOf mg W gb)) : PS X (.If t a b pos) (sOf mg W (sIf ft ga gb)) :=
  (ps_if hc ha hb).imp fun D σ H ⟨c, G, ρ, S, h⟩ => stepS S h fun v G1 H1 ρ1 d S1 e1 r1 h1 => by
    cases r1
    cases v with
    | true => exact ⟨c, G1, ρ1, S1, h1⟩
    | false => exact ⟨c, G1, ρ1, S1, h1⟩
theorem s_expr {e : Expr} {f : M PyData} (he : PE X e (tOf mg W f)) (hs : swapsWith e none pos.line X.env = pure false := by rfl) : PS X (.Expr e pos) (sOf mg W (sDrop f)) :=
  (ps_expr he hs).imp fun D σ H ⟨c, G, ρ, S, h⟩ => stepS S h fun v G1 H1 ρ1 d S1 e1 r1 h1 => h1 σ G1 H1 S1 (.refl _)

/-! targets: js are the slots that may change -/
def Keeps (js : List Nat) (σ σ' : L2.St) : Prop := σ'.length = σ.length ∧ ∀ j, j ∉ js → σ'[j]? = σ[j]?
theorem Keeps.refl (js : List Nat) (σ : L2.St) : Keeps js σ σ := ⟨rfl, fun _ _ => rfl⟩
theorem Keeps.trans {js ks : List Nat} {σ σ1 σ2 : L2.St} (a : Keeps js σ σ1) (b : Keeps ks σ1 σ2) : Keeps (js ++ ks) σ σ2 :=
  ⟨b.1.trans a.1, fun j hj => by
    rw [List.mem_append, not_or] at hj
    exact (b.2 j hj.2).trans (a.2 j hj.1)⟩
def TgOk (t : TG) (g : TM) (js : List Nat) : Prop := ∀ (κ : PySem.W.Frag) (c : Fc κ) G H σ ρ v d ρ' Q, Stt c G H σ ρ → Rp G v d → g d ρ = some ρ' → (∀ σ', Stt c G H σ' ρ' → Keeps js σ σ' → Q σ' H) → t v σ H Q
theorem g_name {i : Nat} : TgOk (gName i) (gN i) [i] := fun κ c G H σ ρ v d ρ' Q S r e k => by
  cases e
  exact k _ (S.setDat r) ⟨by simp, fun j hj => by rw [List.getElem?_set_ne (fun z => hj (by simp [z]))]⟩
/-- several -/
def gTupM : List TM → List PyData → Env → Option Env
  | [], [], ρ => some ρ
  | g :: gs, d :: ds, ρ => (g d ρ).bind fun ρ1 => gTupM gs ds ρ1
  | _, _, _ => none
def gT (gs : List TM) : TM := fun d ρ => match d with
  | .tuple ds => gTupM gs ds ρ
  | _ => none
def TgsOk (t : TGs) (gs : List TM) (js : List Nat) : Prop := ∀ (κ : PySem.W.Frag) (c : Fc κ) G H σ ρ vs ds ρ' Q, Stt c G H σ ρ → RpA G vs ds → gTupM gs ds ρ = some ρ' → (∀ σ', Stt c G H σ' ρ' → Keeps js σ σ' → Q σ' H) → t vs σ H Q
theorem gs_nil : TgsOk gNil [] [] := fun κ c G H σ ρ vs ds ρ' Q S r e k => by
  cases r with
  | nil => cases e; exact ⟨rfl, k σ S (.refl _ _)⟩
  | cons _ _ => cases e
theorem gs_cons {t : TG} {ts : TGs} {g : TM} {gs : List TM} {js ks : List Nat} (h : TgOk t g js) (hs : TgsOk ts gs ks) : TgsOk (gCons t ts) (g :: gs) (js ++ ks) := fun κ c G H σ ρ vs ds ρ' Q S r e k => by
  cases r with
  | nil => cases e
  | cons r1 r2 =>
    simp only [gTupM] at e
    obtain ⟨ρ1, e1, e2⟩ := Option.bind_eq_some_iff.mp e
    exact ⟨_, _, rfl, h κ c G H σ ρ _ _ ρ1 _ S r1 e1 fun σ1 S1 k1 => hs κ c G H σ1 ρ1 _ _ ρ' Q S1 r2 e2 fun σ2 S2 k2 => k σ2 S2 (k1.trans k2)⟩
theorem gTupM_len : ∀ {gs : List TM} {ds : List PyData} {ρ ρ' : Env}, gTupM gs ds ρ = some ρ' → ds.length = gs.length
  | [], [], _, _, _ => rfl
  | [], _ :: _, _, _, h => by cases h
  | _ :: _, [], _, _, h => by cases h
  | g :: gs, d :: ds, ρ, ρ', h => by
    simp only [gTupM] at h
    obtain ⟨ρ1, e1, e2⟩ := Option.bind_eq_some_iff.mp h
    exact congrArg (· + 1) (gTupM_len e2)
theorem g_tup {K : PySem.W.Frag} {n : Nat} {ts : TGs} {gs : List TM} {js : List Nat} (hs : TgsOk ts gs js) (hn : gs.length = n := by rfl) : TgOk (gTup K n ts) (gT gs) js := fun κ c G H σ ρ v d ρ' Q S r e k => by
  cases r with
  | tup h l q =>
    have e' : gTupM gs _ ρ = some ρ' := e
    exact ⟨_, _, rfl, SqT.of (S.ex _ _ h), by rw [q.length, gTupM_len e', hn], hs κ c G H σ ρ _ _ ρ' Q S q e' k⟩
  | _ => cases e
theorem s_asg {tg e : Expr} {f : M PyData} {t : TG} {g : TM} (he : PE X e (tOf mg W f)) {js : List Nat} (hg : PG X tg t) (ok : TgOk t g js) (hs : swapsWithSole [tg] e pos.line X.env = pure false := by rfl) (hw : swappedStores [tg] e X.env = pure none := by rfl)
    (h1 : (assignEach [tg] X.env).map (·.2) = [assign tg X.env] := by rfl) : PS X (.Assign [tg] e pos) (sOf mg W (sAsg f g)) :=
  (ps_asg he hg hs hw h1).imp fun D σ H ⟨c, G, ρ, S, h⟩ => stepS S h fun v G1 H1 ρ1 d S1 e1 r1 h1 => by
    split at h1
    · rename_i ρ2 eg
      exact ok _ c G1 H1 σ ρ1 v d ρ2 _ S1 r1 eg fun σ' S' _ => h1 σ' G1 H1 S' (.refl _)
    · exact h1.elim
theorem s_set {i : Nat} {x : Str} {e : Expr} {f : M PyData} {pos' : Pos} (F : Fit X mg W k) (hi : X.N[i]? = some x) (hx : Loc X.env.scope x) (he : PE X e (tOf mg W f)) (hs : swapsWith e (some (.Name x pos')) pos.line X.env = pure false := by rfl) (hf : X.fn x = true ∨ X.env.scope.names.lookup x = some .local := by first | exact .inl rfl | exact .inr rfl | assumption) :
    PS X (.Assign [.Name x pos'] e pos) (sOf mg W (sAsg f (gN i))) :=
  (ps_set F.nd hi hx he hs hf).imp fun D σ H ⟨c, G, ρ, S, h⟩ => stepS S h fun v G1 H1 ρ1 d S1 e1 r1 h1 => h1 _ G1 H1 (S1.setDat r1) (.refl _)
/-- name = a fresh object, to be changed later -/
theorem s_own {i : Nat} {x : Str} {e : Expr} {f : M PyData} {pos' : Pos} (F : Fit X mg W k) (hi : X.N[i]? = some x) (hx : Loc X.env.scope x) (he : PE X e (toOf mg W f)) (hs : swapsWith e (some (.Name x pos')) pos.line X.env = pure false := by rfl) (hf : X.fn x = true ∨ X.env.scope.names.lookup x = some .local := by first | exact .inl rfl | exact .inr rfl | assumption) :
    PS X (.Assign [.Name x pos'] e pos) (sOf mg W (sOwn f i)) :=
  (ps_set F.nd hi hx he hs hf).imp fun D σ H ⟨c, G, ρ, S, h⟩ => stepS S h fun v G1 H1 ρ1 d S1 e1 r1 h1 => by
    obtain ⟨p, rfl, g0, h0, ow, fr⟩ := r1
    exact h1 _ G1 H1 (S1.setOwn g0 h0 ow fr) (.refl _)
/-- fresh objects are data, too -/
theorem x_fresh {e : Expr} {f : M PyData} (h : PE X e (toOf mg W f)) : PE X e (tOf mg W f) := h.imp fun σ H Q ⟨c, G, ρ, S, hr⟩ => by
  refine ⟨c, G, ρ, S, ?_⟩
  cases e : f ρ with
  | no => rw [e] at hr; exact hr
  | exc x ρ1 => rw [e] at hr; exact hr
  | ok d ρ1 =>
    rw [e] at hr
    intro v G1 H1 S1 e1 ⟨p, ev, g0, h0, ow, fr⟩
    subst ev
    -- put it into a slot that is not there: as frz
    obtain ⟨G2, S2, e2, rp⟩ := S1.claim g0 h0 ow fr
    exact hr _ G2 H1 S2 (e1.trans e2) rp
end
end Pu
end TP6

section TP7
set_option Elab.async false
set_option linter.all false
set_option maxRecDepth 100000
set_option maxHeartbeats 4200000
namespace Pu
open PyProof.Rows L2 PySem PySem.Spec

/-! ### what is walked -/
def ItOk (J : It) (ds : List PyData) (G1 : Hp) : Prop := ∀ i G H, Ex G1 G → Ex G H →
  (∀ d, ds[i]? = some d → J.go i H ∧ ∀ x H', J.yld i H x H' → ∃ G', Gr G H G' H' ∧ Rp G' x d) ∧ (i = ds.length → J.stop i H)
def iOf (mg : Str → Option Value) (W : WK) (f : M (List PyData)) : TI := fun σ H R => ∃ (c : Fc W.K) (G : Hp) (ρ : Env), Stt c G H σ ρ ∧ match f ρ with
  | .ok ds ρ' => ∀ J G' H', Stt c G' H' σ ρ' → Ex G G' → ItOk J ds G' → R J H'
  | .exc e ρ' => ∀ cls dd G' H', Stt c G' H' σ ρ' → Ex G G' → ExcRep mg G' H' e cls dd → W.w cls dd σ H'
  | .no => False
end Pu
namespace L2
theorem PI.imp {X : Cx} {tg e : PySem.Expr} {t t' : TI} (h : PI X tg e t) (i : ∀ σ H R, t' σ H R → t σ H R) : PI X tg e t' := ⟨fun pins s σ H R I w => h.run pins s σ H R I (i _ _ _ w)⟩
theorem PI.or {X : Cx} {tg e : PySem.Expr} {t t' : TI} (h : PI X tg e t) (h' : PI X tg e t') : PI X tg e (fun σ H R => t σ H R ∨ t' σ H R) := ⟨fun pins s σ H R I w => w.elim (h.run pins s σ H R I) (h'.run pins s σ H R I)⟩
end L2
namespace Pu
open PyProof.Rows L2 PySem PySem.Spec
section
variable {X : Cx} {mg : Str → Option Value} {W : WK} {k : Nat} {pos : Pos}
/-- into what is walked -/
theorem stepI {β α : Type} {rel : Rel β α} {c : Fc W.K} {G H : Hp} {σ : L2.St} {ρ : Env} {R : It → Hp → Prop} {fa : M α} {g : α → Option (List PyData)} {QQ : β → Hp → Prop} (S : Stt c G H σ ρ)
    (h : match fa.bind (fun a => M.lift (g a)) ρ with
      | .ok ds ρ' => ∀ J G' H', Stt c G' H' σ ρ' → Ex G G' → ItOk J ds G' → R J H'
      | .exc e ρ' => ∀ cls dd G' H', Stt c G' H' σ ρ' → Ex G G' → ExcRep mg G' H' e cls dd → W.w cls dd σ H'
      | .no => False)
    (n : ∀ v G1 H1 ρ1 a ds, fa ρ = .ok a ρ1 → Stt c G1 H1 σ ρ1 → Ex G G1 → rel W.K c G1 H1 σ ρ1 v a → g a = some ds → (∀ J, ItOk J ds G1 → R J H1) → QQ v H1) : wOf mg W rel fa σ H QQ := by
  refine ⟨c, G, ρ, S, ?_⟩
  unfold M.bind at h
  cases e : fa ρ with
  | ok a ρ1 =>
    rw [e] at h
    unfold M.lift at h
    intro v G1 H1 S1 g1 r
    cases eg : g a with
    | none => dsimp only at h; rw [eg] at h; exact h.elim
    | some ds =>
      dsimp only at h
      rw [eg] at h
      exact n v G1 H1 ρ1 a ds e S1 g1 r eg fun J j => h J G1 H1 S1 g1 j
  | exc x ρ1 => rw [e] at h; exact fun cls dd G1 H1 S1 g r => h cls dd G1 H1 S1 g r
  | no => rw [e] at h; exact h
theorem itl_ok {K : PySem.W.Frag} {a : Addr} {xs : List V} {ds : List PyData} {G1 : Hp} (hg : G1 a = some (.lst xs)) (r : RpA G1 xs ds) : ItOk (Itl K a) ds G1 := fun i G H e1 e2 => by
  have hs : SqL K H a xs := SqL.of (e2 _ _ (e1 _ _ hg))
  refine ⟨fun d hd => ?_, fun hi => ⟨xs, hs, by rw [r.length, hi]; exact Nat.le_refl _⟩⟩
  obtain ⟨v, hv, rv⟩ := r.get hd
  refine ⟨⟨xs, v, hs, hv⟩, fun x H' y => ?_⟩
  obtain ⟨rfl, y⟩ := y
  have := y xs hs
  rw [hv] at this
  cases this
  exact ⟨G, .refl e2, rv.mono e1⟩
theorem itt_ok {K : PySem.W.Frag} {a : Addr} {xs : List V} {ds : List PyData} {G1 : Hp} (hg : G1 a = some (.tup xs)) (r : RpA G1 xs ds) : ItOk (Itt K a) ds G1 := fun i G H e1 e2 => by
  have hs : SqT K H a xs := SqT.of (e2 _ _ (e1 _ _ hg))
  refine ⟨fun d hd => ?_, fun hi => ⟨xs, hs, by rw [r.length, hi]; exact Nat.le_refl _⟩⟩
  obtain ⟨v, hv, rv⟩ := r.get hd
  refine ⟨⟨xs, v, hs, hv⟩, fun x H' y => ?_⟩
  obtain ⟨rfl, y⟩ := y
  have := y xs hs
  rw [hv] at this
  cases this
  exact ⟨G, .refl e2, rv.mono e1⟩
/-- a list or a tuple -/
def asSeq : PyData → Option (List PyData)
  | .list xs => some xs
  | .tuple xs => some xs
  | _ => none
def fSeq (fa : M PyData) : M (List PyData) := fa.bind fun a => M.lift (asSeq a)
/-- the kind of what is walked is known once it is evaluated -/
theorem i_seq {tg e : Expr} {fa : M PyData} (he : PE X e (tOf mg W fa)) : PI X tg e (iOf mg W (fSeq fa)) :=
  (PI.or (pi_list (tg := tg) he) (pi_tup he)).imp fun σ H R ⟨c, G, ρ, S, h⟩ => by
    by_cases q : ∃ xs ρ1, fa ρ = .ok (.tuple xs) ρ1
    · obtain ⟨xs, ρ1, q⟩ := q
      refine .inr (stepI S h fun v G1 H1 ρ1' a ds ea S1 e1 r1 hg kk => ?_)
      rw [q] at ea; cases ea
      cases r1 with
      | tup hh l r => cases hg; exact ⟨_, rfl, ⟨_, SqT.of (S1.ex _ _ hh)⟩, kk _ (itt_ok hh r)⟩
    · refine .inl (stepI S h fun v G1 H1 ρ1' a ds ea S1 e1 r1 hg kk => ?_)
      cases r1 with
      | lst hh l r => cases hg; exact ⟨_, rfl, ⟨_, SqL.of (S1.ex _ _ hh)⟩, kk _ (itl_ok hh r)⟩
      | tup hh l r => exact absurd ⟨_, _, ea⟩ q
      | _ => cases hg
/-- range(..) -/
def upTo (lo : Int) (n : Nat) : List PyData := (List.range n).map fun (i : Nat) => PyData.int (lo + (i : Int))
def asRng1 : List PyData → Option (List PyData)
  | [.int n] => if -(2 ^ 62) ≤ n ∧ n ≤ 1000000 then some (upTo 0 n.toNat) else none
  | _ => none
def asRng2 : List PyData → Option (List PyData)
  | [.int a, .int b] => if -(2 ^ 62) ≤ a ∧ a ≤ 1000000 ∧ -(2 ^ 62) ≤ b ∧ b ≤ 1000000 then some (upTo a (b - a).toNat) else none
  | _ => none
def fRng1 (fs : M (List PyData)) : M (List PyData) := fs.bind fun a => M.lift (asRng1 a)
def fRng2 (fs : M (List PyData)) : M (List PyData) := fs.bind fun a => M.lift (asRng2 a)
theorem upTo_get {lo : Int} {n i : Nat} {d : PyData} (h : (upTo lo n)[i]? = some d) : i < n ∧ d = .int (lo + (i : Int)) := by
  unfold upTo at h
  rw [List.getElem?_map] at h
  cases e : (List.range n)[i]? with
  | none => rw [e] at h; exact nomatch h
  | some j =>
    rw [e] at h; cases h
    obtain ⟨hi, hj⟩ := List.getElem?_eq_some_iff.mp e
    rw [List.length_range] at hi
    have : i = j := by simpa using hj
    subst this
    exact ⟨hi, rfl⟩
theorem upTo_len {lo : Int} {n : Nat} : (upTo lo n).length = n := by simp [upTo]
theorem itr_ok {lo : Int} {n : Nat} {G1 : Hp} : ItOk (Itr lo n) (upTo lo n) G1 := fun i G H e1 e2 => by
  refine ⟨fun d hd => ?_, fun hi => by rw [hi, upTo_len]; exact Nat.le_refl _⟩
  obtain ⟨hi, rfl⟩ := upTo_get hd
  refine ⟨hi, fun x H' y => ?_⟩
  obtain ⟨rfl, rfl⟩ := y
  exact ⟨G, .refl e2, .int _⟩
theorem i_rng1 {tg a : Expr} {fs : M (List PyData)} {p : Pos} (F : Fit X mg W k) (hm : mg "range" = none) (ha : PA X [a] (taOf mg W fs)) (hg : Gl X "range" := by rfl) (hs : starEach [a] X.env = [(false, eval a X.env)] := by rfl) : PI X tg (.Call (.Name "range" p) [a] [] pos) (iOf mg W (fRng1 fs)) :=
  (pi_range1 hg (by rw [F.mg]; exact hm) ha hs).imp fun σ H R ⟨c, G, ρ, S, h⟩ => stepI S h fun v G1 H1 ρ1' a ds ea S1 e1 r1 hg kk => by
    unfold asRng1 at hg
    split at hg
    · split at hg <;> cases hg
      rename_i hl
      cases r1 with
      | cons r r' =>
        cases r'; cases r
        exact ⟨_, rfl, by omega, by omega, kk _ itr_ok⟩
    · cases hg
theorem i_rng2 {tg a b : Expr} {fs : M (List PyData)} {p : Pos} (F : Fit X mg W k) (hm : mg "range" = none) (ha : PA X [a, b] (taOf mg W fs)) (hg : Gl X "range" := by rfl) (hs : starEach [a, b] X.env = [(false, eval a X.env), (false, eval b X.env)] := by rfl) (hs2 : starEach [b] X.env = [(false, eval b X.env)] := by rfl) : PI X tg (.Call (.Name "range" p) [a, b] [] pos) (iOf mg W (fRng2 fs)) :=
  (pi_range2 hg (by rw [F.mg]; exact hm) ha hs hs2).imp fun σ H R ⟨c, G, ρ, S, h⟩ => stepI S h fun v G1 H1 ρ1' a ds ea S1 e1 r1 hg kk => by
    unfold asRng2 at hg
    split at hg
    · split at hg <;> cases hg
      rename_i hl
      cases r1 with
      | cons r r' =>
        cases r' with
        | cons r' r'' =>
        cases r''; cases r'; cases r
        exact ⟨_, _, rfl, ⟨by omega, by omega, by omega, by omega⟩, kk _ itr_ok⟩
    · cases hg
/-! ### for -/
def sForL (g : TM) (b : SM) : List PyData → SM
  | [] => .nx
  | d :: ds => fun ρ => match g d ρ with
    | none => .no
    | some ρ1 => match b ρ1 with
      | .nx ρ2 => sForL g b ds ρ2
      | .ct ρ2 => sForL g b ds ρ2
      | .bk ρ2 => .nx ρ2
      | .rt d ρ2 => .rt d ρ2
      | .exc e ρ2 => .exc e ρ2
      | .no => .no
def sFor (f : M (List PyData)) (g : TM) (b : SM) : SM := sE f (sForL g b)
theorem r_for {J : It} {ds : List PyData} {c : Fc W.K} {G1 H1 : Hp} {σ : L2.St} {ρ : Env} {D : Ends} {t : TG} {g : TM} {js : List Nat} {b : SM} (ij : ItOk J ds G1) (S : Stt c G1 H1 σ ρ) (ok : TgOk t g js) (h : OutOk mg W c G1 D (sForL g b ds ρ)) :
    ∃ W' : Nat → Nat → L2.St → Hp → Prop, (∃ m, W' 0 m σ H1) ∧ ∀ i m σ H, W' i m σ H →
      (J.stop i H ∧ D.nx σ H) ∨ (J.go i H ∧ ∃ N : L2.St → Hp → Prop, (∀ σ' H', N σ' H' → ∃ m', m' < m ∧ W' (i + 1) m' σ' H') ∧ ∀ x H', J.yld i H x H' → t x σ H' fun σ2 H2 => sOf mg W b { D with nx := N, ct := N, bk := D.nx } σ2 H2) := by
  refine ⟨fun i m σ H => m = ds.length - i ∧ i ≤ ds.length ∧ ∃ G' ρ', Stt c G' H σ ρ' ∧ Ex G1 G' ∧ OutOk mg W c G' D (sForL g b (ds.drop i) ρ'), ⟨_, rfl, Nat.zero_le _, G1, ρ, S, .refl _, h⟩, ?_⟩
  rintro i m σ H ⟨rfl, hi, G', ρ', S', e', h'⟩
  obtain ⟨go, stop⟩ := ij i G' H e' S'.ex
  by_cases hlt : i < ds.length
  · have hd : ds[i]? = some ds[i] := List.getElem?_eq_getElem hlt
    obtain ⟨g1, y1⟩ := go _ hd
    rw [List.drop_eq_getElem_cons hlt] at h'
    simp only [sForL] at h'
    refine .inr ⟨g1, fun σ2 H2 => ∃ G2 ρ2, Stt c G2 H2 σ2 ρ2 ∧ Ex G1 G2 ∧ OutOk mg W c G2 D (sForL g b (ds.drop (i + 1)) ρ2), fun σ2 H2 ⟨G2, ρ2, S2, e2, h2⟩ => ⟨ds.length - (i + 1), by omega, rfl, hlt, G2, ρ2, S2, e2, h2⟩, fun x H2 y => ?_⟩
    obtain ⟨G2, gr, rx⟩ := y1 x H2 y
    have S2 := S'.gr gr
    cases eg : g ds[i] ρ' with
    | none => rw [eg] at h'; exact h'.elim
    | some ρ1 =>
      rw [eg] at h'
      dsimp only at h'
      refine ok _ c G2 H2 σ ρ' x ds[i] ρ1 _ S2 rx eg fun σ3 S3 _ => ⟨c, G2, ρ1, S3, ?_⟩
      have up := e'.trans gr.g
      cases eb : b ρ1 with
      | nx ρ2 => rw [eb] at h'; exact fun σ4 G4 H4 S4 e4 => ⟨G4, ρ2, S4, up.trans e4, OutOk.mono (gr.g.trans e4) h'⟩
      | ct ρ2 => rw [eb] at h'; exact fun σ4 G4 H4 S4 e4 => ⟨G4, ρ2, S4, up.trans e4, OutOk.mono (gr.g.trans e4) h'⟩
      | bk ρ2 => rw [eb] at h'; exact fun σ4 G4 H4 S4 e4 => h' σ4 G4 H4 S4 (gr.g.trans e4)
      | rt d ρ2 => rw [eb] at h'; exact fun v σ4 G4 H4 S4 e4 r4 => h' v σ4 G4 H4 S4 (gr.g.trans e4) r4
      | exc e ρ2 => rw [eb] at h'; exact fun cl dd σ4 G4 H4 S4 e4 r4 => h' cl dd σ4 G4 H4 S4 (gr.g.trans e4) r4
      | no => rw [eb] at h'; exact h'
  · have e : i = ds.length := by omega
    subst e
    rw [List.drop_length] at h'
    exact .inl ⟨stop rfl, h' σ G' H S' (.refl _)⟩
theorem s_for {iter tg : Expr} {body : List Stmt} {f : M (List PyData)} {t : TG} {g : TM} {js : List Nat} {b : SM} (F : Fit X mg W k) (hi : PI X tg iter (iOf mg W f)) (hg : PG X tg t) (ok : TgOk t g js) (hb : PSs X body (sOf mg W b)) (hs : ∀ x, foldedSetIterable iter X.env x = pure x := by intro _; rfl) : PS X (.For tg iter body [] pos) (sOf mg W (sFor f g b)) :=
  (ps_for F.own F.calm hi hg hb hs).imp fun D σ H ⟨c, G, ρ, S, h⟩ => by
    refine ⟨c, G, ρ, S, ?_⟩
    unfold sFor sE at h
    cases e : f ρ with
    | no => rw [e] at h; exact h
    | exc x ρ1 => rw [e] at h; exact fun cls dd G' H' S' g' r => h cls dd σ G' H' S' g' r
    | ok ds ρ1 =>
      rw [e] at h
      exact fun J G' H' S' e' ij => r_for ij S' ok (OutOk.mono e' h)
/-! ### while -/
def sWhl (c : M Bool) (b : SM) : Nat → SM
  | 0 => fun _ => .no
  | n + 1 => sE c fun t => if t then fun ρ1 => match b ρ1 with
      | .nx ρ2 => sWhl c b n ρ2
      | .ct ρ2 => sWhl c b n ρ2
      | .bk ρ2 => .nx ρ2
      | .rt d ρ2 => .rt d ρ2
      | .exc e ρ2 => .exc e ρ2
      | .no => .no
    else .nx
theorem s_while {t : Expr} {body : List Stmt} {ft : M Bool} {b : SM} (n : Nat) (F : Fit X mg W k) (hc : PT X t (ttOf mg W ft)) (hb : PSs X body (sOf mg W b)) : PS X (.While t body [] pos) (sOf mg W (sWhl ft b n)) :=
  (ps_while F.own hc hb).imp fun D σ H ⟨c, G, ρ, S, h⟩ => by
    refine ⟨fun m σ H => ∃ G' ρ', Stt c G' H σ ρ' ∧ Ex G G' ∧ OutOk mg W c G' D (sWhl ft b m ρ'), ⟨n, G, ρ, S, .refl _, h⟩, fun m σ H ⟨G', ρ', S', e', h'⟩ => ?_⟩
    cases m with
    | zero => exact h'.elim
    | succ m =>
      refine stepS S' h' fun v G1 H1 ρ1 a S1 e1 r1 h1 => ?_
      cases r1
      cases v with
      | false => exact h1 σ G1 H1 S1 (.refl _)
      | true =>
        rw [if_pos rfl] at h1
        refine ⟨fun σ2 H2 => ∃ G2 ρ2, Stt c G2 H2 σ2 ρ2 ∧ Ex G G2 ∧ OutOk mg W c G2 D (sWhl ft b m ρ2), fun σ2 H2 x => ⟨m, Nat.lt_succ_self _, x⟩, c, G1, ρ1, S1, ?_⟩
        have up := e'.trans e1
        cases eb : b ρ1 with
        | nx ρ2 => rw [eb] at h1; exact fun σ4 G4 H4 S4 e4 => ⟨G4, ρ2, S4, up.trans e4, OutOk.mono e4 h1⟩
        | ct ρ2 => rw [eb] at h1; exact fun σ4 G4 H4 S4 e4 => ⟨G4, ρ2, S4, up.trans e4, OutOk.mono e4 h1⟩
        | bk ρ2 => rw [eb] at h1; exact h1
        | rt d ρ2 => rw [eb] at h1; exact h1
        | exc e ρ2 => rw [eb] at h1; exact h1
        | no => rw [eb] at h1; exact h1

/-! ### comprehensions -/
def wipeE (ρ : Env) : List Nat → Env
  | [] => ρ
  | v :: vs => (wipeE ρ vs).set v .un
theorem wipeE_length (ρ : Env) : ∀ vs : List Nat, (wipeE ρ vs).length = ρ.length
  | [] => rfl
  | v :: vs => by unfold wipeE; rw [List.length_set, wipeE_length ρ vs]
theorem wipeE_get {ρ : Env} {i : Nat} {s : Sl} : ∀ {vs : List Nat}, (wipeE ρ vs)[i]? = some s → s = .un ∨ (ρ[i]? = some s ∧ i ∉ vs)
  | [], h => .inr ⟨h, by simp⟩
  | v :: vs, h => by
    unfold wipeE at h
    by_cases hi : v = i
    · subst hi
      have hl : v < (wipeE ρ vs).length := by simpa using (List.getElem?_eq_some_iff.mp h).1
      rw [List.getElem?_set_self hl] at h
      cases h; exact .inl rfl
    · rw [List.getElem?_set_ne hi] at h; revert h; intro h
      rcases wipeE_get h with h | ⟨h1, h2⟩
      · exact .inl h
      · exact .inr ⟨h1, by simp only [List.mem_cons, not_or]; exact ⟨fun e => hi e.symm, h2⟩⟩
theorem wipe_out' {σ : L2.St} {i : Nat} : ∀ {vs : List Nat}, i ∉ vs → (wipe σ vs)[i]? = σ[i]?
  | [], _ => rfl
  | v :: vs, h => by
    simp only [List.mem_cons, not_or] at h
    unfold wipe
    rw [List.getElem?_set_ne (fun e => h.1 e.symm), wipe_out' h.2]
/-- slots of vs are forgotten: the state may be seen at other slots that agree elsewhere -/
theorem Stt.wipe {κ : PySem.W.Frag} {c : Fc κ} {G H : Hp} {σ σ' : L2.St} {ρ : Env} {vs : List Nat} (S : Stt c G H σ ρ) (hl : σ'.length = σ.length) (h : ∀ i, i ∉ vs → σ'[i]? = σ[i]?) : Stt c G H σ' (wipeE ρ vs) where
  ex := S.ex
  ex0 := S.ex0
  old := S.old
  new := S.new
  pin := S.pin
  len := by rw [hl, S.len, wipeE_length]
  sl := fun i s e => by
    rcases wipeE_get e with rfl | ⟨e1, ni⟩
    · have hi : i < σ'.length := by
        have := (List.getElem?_eq_some_iff.mp e).1
        rw [wipeE_length, ← S.len, ← hl] at this
        exact this
      exact ⟨σ'[i], List.getElem?_eq_getElem hi, trivial⟩
    · rw [h i ni]
      exact S.sl i s e1
  apart := fun i j s t p e1 e2 m1 m2 h1 h2 => by
    rcases wipeE_get e1 with rfl | ⟨e1, ni⟩
    · cases m1
    rcases wipeE_get e2 with rfl | ⟨e2, nj⟩
    · cases m2
    rw [h i ni] at h1
    rw [h j nj] at h2
    exact S.apart i j s t p e1 e2 m1 m2 h1 h2
theorem wipe_ext {σ σ' : L2.St} {vs : List Nat} (hl : σ'.length = σ.length) (h : ∀ i, i ∉ vs → σ'[i]? = σ[i]?) : L2.wipe σ' vs = L2.wipe σ vs := by
  apply List.ext_getElem?
  intro i
  by_cases hi : i ∈ vs
  · have key : ∀ (τ : L2.St) (ws : List Nat), i ∈ ws → (L2.wipe τ ws)[i]? = if i < τ.length then some none else none := by
      intro τ ws
      induction ws with
      | nil => intro h; cases h
      | cons w ws ih =>
        intro hm
        unfold L2.wipe
        by_cases hw : w = i
        · subst hw
          by_cases hlt : w < τ.length
          · rw [List.getElem?_set_self (by rw [wipe_length]; exact hlt), if_pos hlt]
          · rw [List.getElem?_eq_none (by rw [List.length_set, wipe_length]; omega), if_neg hlt]
        · rw [List.getElem?_set_ne hw]
          obtain e | e := List.mem_cons.mp hm
          · exact absurd e.symm hw
          · exact ih e
    rw [key σ' vs hi, key σ vs hi, hl]
  · rw [wipe_out' hi, wipe_out' hi, h i hi]
/-- the turns: the block's own slots are forgotten behind each -/
def fLcL (g : TM) (t : M Bool) (e : M PyData) (vs : List Nat) : List PyData → List PyData → M (List PyData)
  | [], acc => fun ρ => .ok acc ρ
  | d :: ds, acc => fun ρ => match g d ρ with
    | none => .no
    | some ρ1 => match t ρ1 with
      | .ok true ρ2 => match e ρ2 with
        | .ok z ρ3 => fLcL g t e vs ds (acc ++ [z]) (wipeE ρ3 vs)
        | _ => .no
      | .ok false ρ2 => fLcL g t e vs ds acc (wipeE ρ2 vs)
      | _ => .no
def fLc (f : M (List PyData)) (g : TM) (t : M Bool) (e : M PyData) (vs : List Nat) : M PyData := f.bind fun ds ρ => if ds.length ≤ LIM then (match fLcL g t e vs ds [] (wipeE ρ vs) with
  | .ok l ρ' => .ok (.list l) (wipeE ρ' vs)
  | .exc e ρ' => .exc e ρ'
  | .no => .no) else .no
/-- an object of nobody's is kept in sight -/
def gd {κ : PySem.W.Frag} (c : Fc κ) (D : Addr) (o : HO) : Fc κ := { c with H0 := upd c.H0 D o }
theorem Stt.guard {κ : PySem.W.Frag} {c : Fc κ} {G H : Hp} {σ : L2.St} {ρ : Env} {D : Addr} {o : HO} (S : Stt c G H σ ρ) (hG : G D = none) (h0 : c.H0 D = none) (hH : H D = some o) (fr : Free σ ρ D) : Stt (gd c D o) G H σ ρ where
  ex := S.ex
  ex0 := S.ex0
  old := fun a u e n => by
    by_cases z : a = D
    · subst z
      have e' : upd c.H0 a o a = some u := e
      rw [upd_same] at e'; cases e'; exact hH
    · have e' : upd c.H0 D o a = some u := e
      rw [upd_ne z] at e'
      exact S.old a u e' n
  new := fun a u e => by
    rcases S.new a u e with q | q
    · exact .inl q
    · have z : a ≠ D := fun z => by subst z; rw [hG] at e; cases e
      exact .inr (by unfold Ad; show (upd c.H0 D o a = none ∨ ∃ xs, upd c.H0 D o a = _); rw [upd_ne z]; exact q)
  pin := fun a h => by
    obtain ⟨⟨g1, u, hu, nt⟩, k⟩ := S.pin a h
    have z : a ≠ D := fun z => by subst z; rw [h0] at hu; cases hu
    exact ⟨⟨g1, u, by show upd c.H0 D o a = some u; rw [upd_ne z]; exact hu, nt⟩, k⟩
  len := S.len
  sl := fun i s e => by
    obtain ⟨x, hx, ok⟩ := S.sl i s e
    refine ⟨x, hx, ?_⟩
    cases s with
    | un => trivial
    | dat d => exact ok
    | own d =>
      obtain ⟨p, e1, gn, h1, ow⟩ := ok
      subst e1
      have z : p ≠ D := fun z => by subst z; exact fr i _ e rfl hx
      exact ⟨p, rfl, gn, by show upd c.H0 D o p = none; rw [upd_ne z]; exact h1, ow⟩
    | scr l => exact ok
    | par l d =>
      obtain ⟨p, e1, gn, h1, ow⟩ := ok
      subst e1
      have z : p ≠ D := fun z => by subst z; exact fr i _ e rfl hx
      refine ⟨p, rfl, gn, ?_, ow⟩
      cases l with
      | true => show upd c.H0 D o p = none; rw [upd_ne z]; exact h1
      | false => exact h1
  apart := S.apart
theorem Stt.unguard {κ : PySem.W.Frag} {c : Fc κ} {G H : Hp} {σ : L2.St} {ρ : Env} {D : Addr} {o : HO} (S : Stt (gd c D o) G H σ ρ) (h0 : c.H0 D = none) (g0 : c.G0 D = none) (np : ¬ c.P D) (nt : ∀ xs, o ≠ .tup xs := by intro _ z; cases z) : Stt c G H σ ρ ∧ H D = some o ∧ G D = none ∧ Free σ ρ D := by
  have hs : (gd c D o).H0 D = some o := upd_same
  have hD : H D = some o := S.old D o hs np
  have hG : G D = none := by
    cases e : G D with
    | none => rfl
    | some u =>
      rcases S.new D u e with q | q
      · have q' : c.G0 D = some u := q
        rw [g0] at q'; cases q'
      · exact NtA.ad ⟨o, hs, nt⟩ q
  have back : ∀ {a}, (gd c D o).H0 a = none → c.H0 a = none := fun {a} e => by
    have e' : upd c.H0 D o a = none := e
    by_cases z : a = D
    · subst z; exact h0
    · rw [upd_ne z] at e'; exact e'
  have backA : ∀ {a}, Ad (gd c D o).H0 a → Ad c.H0 a := fun {a} e => by
    rcases e with e | ⟨xs, e⟩
    · exact .inl (back e)
    · have e' : upd c.H0 D o a = some (.tup xs) := e
      by_cases z : a = D
      · subst z; rw [upd_same] at e'; cases e'; exact absurd rfl (nt xs)
      · rw [upd_ne z] at e'; exact .inr ⟨xs, e'⟩
  refine ⟨⟨S.ex, S.ex0, fun a u e n => ?_, fun a u e => ?_, fun a h => ?_, S.len, fun i s e => ?_, S.apart⟩, hD, hG, fun j s e m hx => ?_⟩
  · have z : a ≠ D := fun z => by subst z; rw [h0] at e; cases e
    exact S.old a u (by show upd c.H0 D o a = some u; rw [upd_ne z]; exact e) n
  · rcases S.new a u e with q | q
    · exact .inl q
    · exact .inr (backA q)
  · obtain ⟨⟨g1, u, hu, nt'⟩, k⟩ := S.pin a h
    have z : a ≠ D := fun z => by subst z; exact np h
    have hu' : upd c.H0 D o a = some u := hu
    rw [upd_ne z] at hu'
    exact ⟨⟨g1, u, hu', nt'⟩, k⟩
  · obtain ⟨x, hx, ok⟩ := S.sl i s e
    refine ⟨x, hx, ?_⟩
    cases s with
    | un => trivial
    | dat d => exact ok
    | own d => obtain ⟨p, e1, gn, h1, ow⟩ := ok; exact ⟨p, e1, gn, back h1, ow⟩
    | scr l => exact ok
    | par l d =>
      obtain ⟨p, e1, gn, h1, ow⟩ := ok
      refine ⟨p, e1, gn, ?_, ow⟩
      cases l with
      | true => exact back h1
      | false => exact h1
  · obtain ⟨x, hx', ok⟩ := S.sl j s e
    rw [hx] at hx'; cases hx'
    cases s with
    | own d => obtain ⟨p, e1, gn, h1, ow⟩ := ok; cases e1; rw [hs] at h1; cases h1
    | par l d =>
      obtain ⟨p, e1, gn, h1, ow⟩ := ok; cases e1
      cases l with
      | true => have h1' : (gd c D o).H0 D = none := h1; rw [hs] at h1'; cases h1'
      | false => exact np h1
    | _ => cases m
theorem Stt.write {κ : PySem.W.Frag} {c : Fc κ} {G H : Hp} {σ : L2.St} {ρ : Env} {D : Addr} {o : HO} (S : Stt c G H σ ρ) (hG : G D = none) (h0 : c.H0 D = none) (np : ¬ c.P D) (fr : Free σ ρ D) : Stt c G (upd H D o) σ ρ where
  ex := fun a u e => by rw [upd_ne (ne_of_none e hG)]; exact S.ex a u e
  ex0 := S.ex0
  old := fun a u e n => by rw [upd_ne (ne_of_none e h0)]; exact S.old a u e n
  new := S.new
  pin := fun a h => by
    obtain ⟨k, u, hu⟩ := S.pin a h
    exact ⟨k, u, by rw [upd_ne (fun z => np (by rw [← z]; exact h))]; exact hu.1, hu.2⟩
  len := S.len
  sl := fun i s e => by
    obtain ⟨x, hx, ok⟩ := S.sl i s e
    refine ⟨x, hx, ?_⟩
    cases s with
    | un => trivial
    | dat d => exact ok
    | own d =>
      obtain ⟨p, e1, gn, h1, ow⟩ := ok
      subst e1
      have z : p ≠ D := fun z => by subst z; exact fr i _ e rfl hx
      exact ⟨p, rfl, gn, h1, ow.mono (.refl G) (by rw [upd_ne z])⟩
    | scr l => exact ok
    | par l d =>
      obtain ⟨p, e1, gn, h1, ow⟩ := ok
      subst e1
      have z : p ≠ D := fun z => by subst z; exact fr i _ e rfl hx
      exact ⟨p, rfl, gn, h1, ow.mono (.refl G) (by rw [upd_ne z])⟩
  apart := S.apart
theorem Stt.fresh {κ : PySem.W.Frag} {c : Fc κ} {G H : Hp} {σ : L2.St} {ρ : Env} {D : Addr} (S : Stt c G H σ ρ) (hD : H D = none) : G D = none ∧ c.H0 D = none ∧ c.G0 D = none ∧ ¬ c.P D ∧ Free σ ρ D := by
  have np : ¬ c.P D := fun h => by
    obtain ⟨_, u, hu, _⟩ := S.pin D h
    rw [hD] at hu; cases hu
  refine ⟨S.ex.free hD, ?_, S.ex0.free (S.ex.free hD), np, fun j s e m hx => ?_⟩
  · cases e : c.H0 D with
    | none => rfl
    | some o => have := S.old D o e np; rw [hD] at this; cases this
  · obtain ⟨x, hx', ok⟩ := S.sl j s e
    rw [hx] at hx'; cases hx'
    cases s with
    | own d => obtain ⟨p, e1, gn, h1, ow⟩ := ok; cases e1; obtain ⟨o, ho, _⟩ := ow.some; rw [hD] at ho; cases ho
    | par l d => obtain ⟨p, e1, gn, h1, ow⟩ := ok; cases e1; obtain ⟨o, ho, _⟩ := ow.some; rw [hD] at ho; cases ho
    | _ => cases m
def lcRes (r : R (List PyData)) : R PyData := match r with
  | .ok l ρ' => .ok (.list l) ρ'
  | .exc e ρ' => .exc e ρ'
  | .no => .no
theorem r_lc {J : It} {ds : List PyData} {c : Fc W.K} {G1 H1 : Hp} {σ : L2.St} {ρ : Env} {Q : V → Hp → Prop} {t : TG} {g : TM} {js : List Nat} {ft : M Bool} {fe : M PyData} {vs : List Nat} (ij : ItOk J ds G1) (S : Stt c G1 H1 σ ρ) (ok : TgOk t g js) (hjs : ∀ j ∈ js, j ∈ vs) (hl : ds.length ≤ LIM)
    (h : Res mg W rO c G1 σ (fun v H' => Q v H') (match lcRes (fLcL g ft fe vs ds [] (wipeE ρ vs)) with | .ok z ρ' => .ok z (wipeE ρ' vs) | r => r)) :
    ∀ D, H1 D = none → ∃ W' : Nat → Nat → Hp → Prop, (∃ m, W' 0 m (upd H1 D (.lst []))) ∧ ∀ i m H, W' i m H →
      (J.stop i H ∧ Q (.ref D) H) ∨ (J.go i H ∧ ∃ Nx : Hp → Prop, (∀ H', Nx H' → ∃ m', m' < m ∧ W' (i + 1) m' H') ∧ ∀ x H', J.yld i H x H' → t x (L2.wipe σ vs) H' fun σ2 H2 => L2.wipe σ2 vs = L2.wipe σ vs ∧ ttOf mg W.z ft σ2 H2 fun b H3 =>
        if b = true then tOf mg W.z fe σ2 H3 fun y H4 => ∃ acc, H4 D = some (.lst acc) ∧ acc.length < sizeLine ∧ Nx (upd H4 D (.lst (acc ++ [y]))) else Nx H3) := by
  intro D hD
  obtain ⟨_, h0D, g0D, npD, _⟩ := S.fresh hD
  -- what stands behind i turns
  let Pv : Nat → Hp → Prop := fun i H => ∃ G' ρ' vs' acc, Stt (gd c D (.lst vs')) G' H (L2.wipe σ vs) ρ' ∧ Ex G1 G' ∧ RpA G' vs' acc ∧ acc.length ≤ i ∧
    Res mg W rO c G1 σ Q (match lcRes (fLcL g ft fe vs (ds.drop i) acc ρ') with | .ok z ρ' => .ok z (wipeE ρ' vs) | r => r)
  have S0 : Stt c G1 H1 (L2.wipe σ vs) (wipeE ρ vs) := S.wipe (wipe_length σ vs) fun i hi => wipe_out' hi
  have S0' : Stt (gd c D (.lst [])) G1 (upd H1 D (.lst [])) (L2.wipe σ vs) (wipeE ρ vs) := (S0.gr (.apart S.ex hD)).guard (S.ex.free hD) h0D upd_same (S0.fresh hD).2.2.2.2
  refine ⟨fun i m H => m = ds.length - i ∧ i ≤ ds.length ∧ Pv i H, ⟨_, rfl, Nat.zero_le _, G1, wipeE ρ vs, [], [], S0', .refl _, .nil, Nat.zero_le _, h⟩, ?_⟩
  rintro i m H ⟨rfl, hi, G', ρ', vs', acc, S', e', ra, la, h'⟩
  obtain ⟨go, stop⟩ := ij i G' H e' S'.ex
  by_cases hlt : i < ds.length
  · have hd : ds[i]? = some ds[i] := List.getElem?_eq_getElem hlt
    obtain ⟨g1, y1⟩ := go _ hd
    rw [List.drop_eq_getElem_cons hlt] at h'
    simp only [fLcL] at h'
    refine .inr ⟨g1, fun H2 => Pv (i + 1) H2, fun H2 p => ⟨ds.length - (i + 1), by omega, rfl, hlt, p⟩, fun x H2 y => ?_⟩
    obtain ⟨G2, gr, rx⟩ := y1 x H2 y
    have S2 := S'.gr gr
    cases eg : g ds[i] ρ' with
    | none => rw [eg] at h'; exact h'.elim
    | some ρ1 =>
      rw [eg] at h'
      dsimp only at h'
      refine ok _ _ G2 H2 _ ρ' x ds[i] ρ1 _ S2 rx eg fun σ3 S3 kp => ?_
      have hlen : σ3.length = σ.length := by rw [kp.1, wipe_length]
      have hag : ∀ j, j ∉ vs → σ3[j]? = (L2.wipe σ vs)[j]? := fun j hj => kp.2 j fun z => hj (hjs j z)
      have hw : L2.wipe σ3 vs = L2.wipe σ vs := wipe_ext (σ := σ) hlen fun j hj => (hag j hj).trans (wipe_out' hj)
      -- back to the wiped slots
      have back : ∀ {κ' : PySem.W.Frag} {c' : Fc κ'} {G4 H4 : Hp} {ρ4 : Env}, Stt c' G4 H4 σ3 ρ4 → Stt c' G4 H4 (L2.wipe σ vs) (wipeE ρ4 vs) := fun {κ' c' G4 H4 ρ4} S4 => S4.wipe (by rw [wipe_length, hlen]) fun j hj => (hag j hj).symm
      refine ⟨hw, _, G2, ρ1, S3, ?_⟩
      cases et : ft ρ1 with
      | no => rw [et] at h'; exact h'.elim
      | exc e ρ2 => rw [et] at h'; exact h'.elim
      | ok b ρ2 =>
        rw [et] at h'
        intro b' G3 H3 S4 e4 rb
        cases rb
        cases b with
        | false =>
          dsimp only at h'
          rw [if_neg (fun z => nomatch z)]
          exact ⟨G3, wipeE ρ2 vs, vs', acc, back S4, e'.trans (gr.g.trans e4), ra.mono (gr.g.trans e4), Nat.le_succ_of_le la, h'⟩
        | true =>
          dsimp only at h'
          rw [if_pos rfl]
          refine ⟨_, G3, ρ2, S4, ?_⟩
          cases ee : fe ρ2 with
          | no => rw [ee] at h'; exact h'.elim
          | exc e ρ3 => rw [ee] at h'; exact h'.elim
          | ok z ρ3 =>
            rw [ee] at h'
            dsimp only at h'
            intro y G5 H5 S5 e5 ry
            have eall := gr.g.trans (e4.trans e5)
            have S6 := back S5
            obtain ⟨S7, hD5, gD5, fr5⟩ := S6.unguard h0D g0D npD
            have lv : vs'.length ≤ i := by rw [ra.length]; exact la
            refine ⟨vs', hD5, lim_lt (by omega), ?_⟩
            refine ⟨G5, wipeE ρ3 vs, vs' ++ [y], acc ++ [z], (S7.write gD5 h0D npD fr5).guard gD5 h0D upd_same fr5, e'.trans eall, (ra.mono eall).append (.cons ry .nil), by rw [List.length_append]; exact Nat.succ_le_succ la, h'⟩
  · have e : i = ds.length := by omega
    subst e
    rw [List.drop_length] at h'
    refine .inl ⟨stop rfl, ?_⟩
    obtain ⟨S7, hD5, gD5, fr5⟩ := S'.unguard h0D g0D npD
    have S8 : Stt c G' H σ (wipeE ρ' vs) := S7.wipe (wipe_length σ vs).symm fun j hj => (wipe_out' hj).symm
    simp only [fLcL, lcRes] at h'
    have fr8 : Free σ (wipeE ρ' vs) D := fun j s e m hx => by
      rcases wipeE_get e with rfl | ⟨e1, ni⟩
      · cases m
      · exact fr5 j s e1 m (by rw [wipe_out' ni]; exact hx)
    exact h' _ G' H S8 e' ⟨D, rfl, gD5, h0D, ⟨Nat.le_trans la hl, vs', hD5, ra⟩, fr8⟩

theorem fLc_ok {f : M (List PyData)} {g : TM} {ft : M Bool} {fe : M PyData} {vs : List Nat} {t : TG} {js : List Nat} {wi : TI} (hi : ∀ σ H R, iOf mg W f σ H R → wi σ H R) (ok : TgOk t g js) (hjs : ∀ j ∈ js, j ∈ vs) {σ : L2.St} {H : Hp} {Q : VK} (w : toOf mg W (fLc f g ft fe vs) σ H Q) : tLc wi t (ttOf mg W.z ft) (tOf mg W.z fe) vs σ H Q := by
  obtain ⟨c, G, ρ, S, h⟩ := w
  refine hi _ _ _ ⟨c, G, ρ, S, ?_⟩
  unfold fLc M.bind at h
  cases e : f ρ with
  | no => rw [e] at h; exact h
  | exc x ρ1 => rw [e] at h; exact h
  | ok ds ρ1 =>
    rw [e] at h
    dsimp only at h ⊢
    intro J G1 H1 S1 e1 ij
    by_cases hl : ds.length ≤ LIM
    · rw [if_pos hl] at h
      refine r_lc (W := W) ij S1 ok hjs hl (Res.mono e1 ?_)
      cases e2 : fLcL g ft fe vs ds [] (wipeE ρ1 vs) with
      | ok l ρ2 => rw [e2] at h; exact h
      | exc x ρ2 => rw [e2] at h; exact h
      | no => rw [e2] at h; exact h
    · rw [if_neg hl] at h; exact h.elim
/-- the conditions of a block -/
abbrev BlkPE (X : Cx) (scope : Scope) (e : Expr) (t : TE) : Prop := ∀ (s : Shared) (H : Hp) (C : Addr) (cl : List (Str × Addr)) (fp : List Addr), PE (X.blk s H scope (compEnvC scope cl C X.env) fp) e t
abbrev BlkPTs (X : Cx) (scope : Scope) (e : List Expr) (t : TT) : Prop := ∀ (s : Shared) (H : Hp) (C : Addr) (cl : List (Str × Addr)) (fp : List Addr), PTs (X.blk s H scope (compEnvC scope cl C X.env) fp) e t
abbrev BlkPG (X : Cx) (scope : Scope) (e : Expr) (t : TG) : Prop := ∀ (s : Shared) (H : Hp) (C : Addr) (cl : List (Str × Addr)) (fp : List Addr), PG (X.blk s H scope (compEnvC scope cl C X.env) fp) e t
def fYes : M Bool := M.pure true
theorem ts_nil : PTs X [] (ttOf mg W fYes) := ⟨fun pins s σ H Q I ⟨c, G, ρ, S, h⟩ => pts_nil.run pins s σ H Q I (h true G H S (.refl G) rfl)⟩
theorem ts_one {c : Expr} {f : M Bool} (h : PT X c (ttOf mg W f)) : PTs X [c] (ttOf mg W f) := pts_one h
theorem x_lcO {elt tg iter : Expr} {ifs : List Expr} {scope : Scope} {own : List (Str × Nat)} {f : M (List PyData)} {t : TG} {g : TM} {js : List Nat} {ft : M Bool} {fe : M PyData} (F : Fit X mg W k) (hi : PI X tg iter (iOf mg W f)) (ok : BlkOk X.N X.env.scope scope own)
    (hg : BlkPG X scope tg t) (hg' : TgOk t g js) (hjs : ∀ j ∈ js, j ∈ own.map (·.2)) (ht : BlkPTs X scope ifs (ttOf mg W.z ft)) (he : BlkPE X scope elt (tOf mg W.z fe)) (hs : ∀ x, foldedSetIterable iter X.env x = pure x := by intro _; rfl) :
    PE X (.ListComp elt [⟨tg, iter, ifs, 0⟩] scope pos) (toOf mg W (fLc f g ft fe (own.map (·.2)))) :=
  (pe_lc F.calm F.nd hi ok hg ht he hs).imp fun _ _ _ w => fLc_ok (fun _ _ _ w => w) hg' hjs w
/-- the same as data -/
theorem x_lc {elt tg iter : Expr} {ifs : List Expr} {scope : Scope} {own : List (Str × Nat)} {f : M (List PyData)} {t : TG} {g : TM} {js : List Nat} {ft : M Bool} {fe : M PyData} (F : Fit X mg W k) (hi : PI X tg iter (iOf mg W f)) (ok : BlkOk X.N X.env.scope scope own)
    (hg : BlkPG X scope tg t) (hg' : TgOk t g js) (hjs : ∀ j ∈ js, j ∈ own.map (·.2)) (ht : BlkPTs X scope ifs (ttOf mg W.z ft)) (he : BlkPE X scope elt (tOf mg W.z fe)) (hs : ∀ x, foldedSetIterable iter X.env x = pure x := by intro _; rfl) :
    PE X (.ListComp elt [⟨tg, iter, ifs, 0⟩] scope pos) (tOf mg W (fLc f g ft fe (own.map (·.2)))) := x_fresh (x_lcO F hi ok hg hg' hjs ht he hs)
/-- y = [..] -/
theorem s_lc {i : Nat} {y : Str} {py spos : Pos} {elt tg iter : Expr} {ifs : List Expr} {scope : Scope} {own : List (Str × Nat)} {f : M (List PyData)} {t : TG} {g : TM} {js : List Nat} {ft : M Bool} {fe : M PyData} (F : Fit X mg W k) (hy : X.N[i]? = some y) (hyl : X.env.scope.names.lookup y = some .local)
    (hsw : swapsWith (.ListComp elt [⟨tg, iter, ifs, 0⟩] scope pos) (some (.Name y py)) spos.line X.env = pure true) (hi : PI X tg iter (iOf mg W f)) (ok : BlkOk X.N X.env.scope scope own)
    (hg : BlkPG X scope tg t) (hg' : TgOk t g js) (hjs : ∀ j ∈ js, j ∈ own.map (·.2)) (ht : BlkPTs X scope ifs (ttOf mg W.z ft)) (he : BlkPE X scope elt (tOf mg W.z fe)) (hs : ∀ x, foldedSetIterable iter X.env x = pure x := by intro _; rfl) :
    PS X (.Assign [.Name y py] (.ListComp elt [⟨tg, iter, ifs, 0⟩] scope pos) spos) (sOf mg W (sAsg (fLc f g ft fe (own.map (·.2))) (gN i))) :=
  (ps_setLc F.calm F.nd hy hyl hsw hi ok hg ht he hs).imp fun D σ H ⟨c, G, ρ, S, h⟩ => by
    refine fLc_ok (fun _ _ _ w => w) hg' hjs (stepS S h fun v G1 H1 ρ1 d S1 e1 r1 h1 => ?_)
    obtain ⟨p, rfl, g0, h0, ow, fr⟩ := r1
    obtain ⟨G2, S2, e2, rp⟩ := S1.claim g0 h0 ow fr
    exact h1 _ G2 H1 (S2.setDat rp) e2
theorem s_lcO {i : Nat} {y : Str} {py spos : Pos} {elt tg iter : Expr} {ifs : List Expr} {scope : Scope} {own : List (Str × Nat)} {f : M (List PyData)} {t : TG} {g : TM} {js : List Nat} {ft : M Bool} {fe : M PyData} (F : Fit X mg W k) (hy : X.N[i]? = some y) (hyl : X.env.scope.names.lookup y = some .local)
    (hsw : swapsWith (.ListComp elt [⟨tg, iter, ifs, 0⟩] scope pos) (some (.Name y py)) spos.line X.env = pure true) (hi : PI X tg iter (iOf mg W f)) (ok : BlkOk X.N X.env.scope scope own)
    (hg : BlkPG X scope tg t) (hg' : TgOk t g js) (hjs : ∀ j ∈ js, j ∈ own.map (·.2)) (ht : BlkPTs X scope ifs (ttOf mg W.z ft)) (he : BlkPE X scope elt (tOf mg W.z fe)) (hs : ∀ x, foldedSetIterable iter X.env x = pure x := by intro _; rfl) :
    PS X (.Assign [.Name y py] (.ListComp elt [⟨tg, iter, ifs, 0⟩] scope pos) spos) (sOf mg W (sOwn (fLc f g ft fe (own.map (·.2))) i)) :=
  (ps_setLc F.calm F.nd hy hyl hsw hi ok hg ht he hs).imp fun D σ H ⟨c, G, ρ, S, h⟩ => by
    refine fLc_ok (fun _ _ _ w => w) hg' hjs (stepS S h fun v G1 H1 ρ1 d S1 e1 r1 h1 => ?_)
    obtain ⟨p, rfl, g0, h0, ow, fr⟩ := r1
    exact h1 _ G1 H1 (S1.setOwn g0 h0 ow fr) (.refl _)
end
end Pu
end TP7

section TP8
set_option Elab.async false
set_option linter.all false
set_option maxRecDepth 100000
set_option maxHeartbeats 4200000
namespace Pu
open PyProof.Rows L2 PySem PySem.Spec

/-! ### keys -/
def key1 : PyData → Option Key
  | .int i => some (.inl i)
  | .str x => some (.inr x)
  | _ => none
def keyL : List PyData → Option (List Key)
  | [] => some []
  | d :: ds => match key1 d, keyL ds with
    | some k, some ks => some (k :: ks)
    | _, _ => none
def keyT : PyData → Option (List Key)
  | .tuple xs => keyL xs
  | _ => none
theorem key1_rp {G : Hp} {v : V} {d : PyData} {k : Key} (r : Rp G v d) (h : key1 d = some k) : v = kV k := by
  cases r with
  | int i => cases h; rfl
  | str x => cases h; rfl
  | _ => cases h
theorem keyL_rp {G : Hp} : ∀ {ds : List PyData} {vs : List V} {ks : List Key}, RpA G vs ds → keyL ds = some ks → vs = ks.map kV
  | _, _, _, .nil, h => by cases h; rfl
  | _, _, _, .cons (d := d) (ds := ds) r t, h => by
    unfold keyL at h
    split at h
    · rename_i k ks e1 e2
      cases h
      rw [key1_rp r e1, keyL_rp t e2]; rfl
    · cases h
theorem keyT_rp {G : Hp} {v : V} {d : PyData} {ks : List Key} (r : Rp G v d) (h : keyT d = some ks) : ∃ b, v = .ref b ∧ G b = some (.tup (ks.map kV)) ∧ ks.length ≤ LIM := by
  cases r with
  | tup hg l q => exact ⟨_, rfl, by rw [hg, keyL_rp q h], by have e := keyL_rp q h; have e2 := q.length; rw [e, List.length_map] at e2; omega⟩
  | _ => cases h
theorem keyL_keyD : ∀ ks : List Key, keyL (ks.map keyV1) = some ks
  | [] => rfl
  | k :: ks => by
    rw [List.map_cons]
    unfold keyL
    rw [keyL_keyD ks]
    cases k <;> rfl
theorem keyT_keyD (ks : List Key) : keyT (keyD ks) = some ks := keyL_keyD ks
/-- a key's value in a dict's pairs; the pairs with a key stored -/
def dGet (k : List Key) : List (PyData × PyData) → Option PyData
  | [] => none
  | (a, b) :: r => if keyT a = some k then some b else dGet k r
def hasK (k : List Key) (kvs : List (PyData × PyData)) : Bool := kvs.any fun p => decide (keyT p.1 = some k)
def dPut (kd : PyData) (k : List Key) (v : PyData) (kvs : List (PyData × PyData)) : List (PyData × PyData) :=
  if hasK k kvs then kvs.map (fun p => if keyT p.1 = some k then (p.1, v) else p) else kvs ++ [(kd, v)]
theorem dGet_rp {G : Hp} {k : List Key} : ∀ {ws : List (List Key × V)} {kvs : List (PyData × PyData)}, RpK G ws kvs → (dGet k kvs = none ∧ valV ws k = none) ∨ ∃ d v, dGet k kvs = some d ∧ valV ws k = some v ∧ Rp G v d
  | [], [], .nil => .inl ⟨rfl, rfl⟩
  | _, _, .cons (k := k') (v := v) (ws := ws) (d := d) (ds := ds) _ r t => by
    unfold dGet
    rw [keyT_keyD]
    by_cases e : k' = k
    · subst e
      rw [if_pos rfl]
      exact .inr ⟨d, v, rfl, valV_pos (p := (k', v)) rfl, r⟩
    · rw [if_neg (fun z => e (Option.some.inj z)), valV_neg (p := (k', v)) e]
      exact dGet_rp t
theorem hasK_rp {G : Hp} {k : List Key} : ∀ {ws : List (List Key × V)} {kvs : List (PyData × PyData)}, RpK G ws kvs → (ws.any fun kv => decide (kv.1 = k)) = hasK k kvs
  | _, _, .nil => rfl
  | _, _, .cons (k := k') (v := v') (ws := ws) (d := d') (ds := ds) l' r' t => by
    unfold hasK
    rw [List.any_cons, List.any_cons, hasK_rp t]
    dsimp only
    rw [keyT_keyD]
    congr 1
    by_cases e : k' = k
    · rw [decide_eq_true e, decide_eq_true (congrArg some e)]
    · rw [decide_eq_false e, decide_eq_false (fun z => e (Option.some.inj z))]
theorem map_rp {G : Hp} {k : List Key} {v : V} {d : PyData} (r : Rp G v d) : ∀ {ws : List (List Key × V)} {kvs : List (PyData × PyData)}, RpK G ws kvs → RpK G (ws.map fun kv => if kv.1 = k then (kv.1, v) else kv) (kvs.map (fun p => if keyT p.1 = some k then (p.1, d) else p))
  | _, _, .nil => .nil
  | _, _, .cons (k := k') (v := v') (ws := ws) (d := d') (ds := ds) l' r' t => by
    simp only [List.map_cons, keyT_keyD]
    by_cases e : k' = k
    · rw [if_pos e, if_pos (congrArg some e)]; exact .cons l' r (map_rp r t)
    · rw [if_neg e, if_neg (fun z => e (Option.some.inj z))]; exact .cons l' r' (map_rp r t)
theorem snoc_rp {G : Hp} {k : List Key} {v : V} {d : PyData} (l : k.length ≤ LIM) (r : Rp G v d) : ∀ {ws : List (List Key × V)} {kvs : List (PyData × PyData)}, RpK G ws kvs → RpK G (ws ++ [(k, v)]) (kvs ++ [(keyD k, d)])
  | _, _, .nil => .cons l r .nil
  | _, _, .cons l' r' t => .cons l' r' (snoc_rp l r t)
theorem dPut_rp {G : Hp} {k : List Key} {v : V} {d : PyData} (l : k.length ≤ LIM) (r : Rp G v d) {ws : List (List Key × V)} {kvs : List (PyData × PyData)} (q : RpK G ws kvs) : RpK G (putK ws k v) (dPut (keyD k) k d kvs) := by
  unfold putK dPut
  rw [hasK_rp q]
  by_cases e : hasK k kvs = true
  · rw [if_pos e, if_pos e]; exact map_rp r q
  · rw [if_neg e, if_neg e]; exact snoc_rp l r q
theorem dPut_len (kd : PyData) (k : List Key) (v : PyData) (kvs) : (dPut kd k v kvs).length ≤ kvs.length + 1 := by
  unfold dPut
  split
  · rw [List.length_map]; omega
  · simp only [List.length_append, List.length_cons, List.length_nil]; omega
theorem keyD_of {d : PyData} {k : List Key} (h : keyT d = some k) : d = keyD k := by
  cases d with
  | tuple xs =>
    have : ∀ (xs : List PyData) (k : List Key), keyL xs = some k → xs = k.map keyV1 := by
      intro xs
      induction xs with
      | nil => intro k h; cases h; rfl
      | cons d ds ih =>
        intro k h
        unfold keyL at h
        split at h
        · rename_i k1 ks e1 e2
          cases h
          rw [List.map_cons, ← ih ks e2]
          cases d with
          | int i => cases e1; rfl
          | str x => cases e1; rfl
          | _ => cases e1
        · cases h
    unfold keyD
    rw [this xs k h]
  | _ => cases h

section
variable {X : Cx} {mg : Str → Option Value} {W : WK} {k : Nat} {pos : Pos}
theorem hu1 (F : Fit X mg W k) : X.A.units + 1 < cLine := by have := F.room.units; omega
theorem hu64 (F : Fit X mg W k) : X.A.units + 64 < cLine := F.room.units
/-- a dict of data, by a key -/
theorem dget_of {G H : Hp} (ex : Ex G H) {p : Addr} {ws : List (List Key × V)} {kvs : List (PyData × PyData)} (hd : Rd H p (.dT ws)) (q : RpK G ws kvs) {y : V} {kd : PyData} {ks : List Key} (ry : Rp G y kd) (hk : keyT kd = some ks) :
    (dGet ks kvs = none ∧ DGet H p y none) ∨ ∃ d v, dGet ks kvs = some d ∧ DGet H p y (some v) ∧ Rp G v d := by
  obtain ⟨b, rfl, hb, _⟩ := keyT_rp ry hk
  rcases dGet_rp (k := ks) q with ⟨h1, h2⟩ | ⟨d, v, h1, h2, h3⟩
  · exact .inl ⟨h1, .inr ⟨ws, ks, b, hd, rfl, ex _ _ hb, h2.symm⟩⟩
  · exact .inr ⟨d, v, h1, .inr ⟨ws, ks, b, hd, rfl, ex _ _ hb, h2.symm⟩, h3⟩
/-- the dict that a slot holds, its own or data -/
def slotD (ρ : Env) (i : Nat) : Option (List (PyData × PyData)) := match ρ[i]? with
  | some (.dat (.dict kvs)) => some kvs
  | some (.own (.dict kvs)) => some kvs
  | _ => none
theorem slotD_of {κ : PySem.W.Frag} {c : Fc κ} {G H : Hp} {σ : L2.St} {ρ : Env} (S : Stt c G H σ ρ) {i : Nat} {kvs : List (PyData × PyData)} (h : slotD ρ i = some kvs) : ∃ p ws, σ[i]? = some (some (V.ref p)) ∧ Rd H p (.dT ws) ∧ RpK G ws kvs ∧ kvs.length ≤ LIM := by
  unfold slotD at h
  split at h
  · rename_i kvs' e
    cases h
    obtain ⟨x, hx, v, rfl, r⟩ := S.sl i _ e
    cases r with
    | dic hd l q => exact ⟨_, _, hx, S.ex.rd hd, q, l⟩
  · rename_i kvs' e
    cases h
    obtain ⟨x, hx, p, rfl, _, _, l, ws, hp, q⟩ := S.sl i _ e
    exact ⟨_, _, hx, .inl hp, q, l⟩
  · cases h
/-- the slot i holds a dict -/
def needD (i : Nat) {α : Type} (m : M α) : M α := fun ρ => match slotD ρ i with
  | some _ => m ρ
  | none => .no
theorem needD_of {β α : Type} {rel : Rel β α} {c : Fc W.K} {G H : Hp} {σ : L2.St} {ρ : Env} {Q : β → Hp → Prop} {i : Nat} {m : M α} (S : Stt c G H σ ρ) (h : Res mg W rel c G σ Q (needD i m ρ)) : ∃ p, σ[i]? = some (some (V.ref p)) ∧ (∃ ws, Rd H p (.dT ws)) ∧ Res mg W rel c G σ Q (m ρ) := by
  unfold needD at h
  cases e : slotD ρ i with
  | none => rw [e] at h; exact h.elim
  | some kvs =>
    rw [e] at h
    obtain ⟨p, ws, h1, h2, _⟩ := slotD_of S e
    exact ⟨p, h1, ⟨ws, h2⟩, h⟩
/-- d[k] of a slot's dict -/
def kDIx (i : Nat) (kd : PyData) : M PyData := fun ρ => match slotD ρ i, keyT kd with
  | some kvs, some ks => (match dGet ks kvs with | some d => .ok d ρ | none => .no)
  | _, _ => .no
def kDIn (i : Nat) (kd : PyData) : M Bool := fun ρ => match slotD ρ i, keyT kd with
  | some kvs, some ks => .ok (dGet ks kvs).isSome ρ
  | _, _ => .no
def kDGet (i : Nat) (kd x : PyData) : M PyData := fun ρ => match slotD ρ i, keyT kd with
  | some kvs, some ks => .ok ((dGet ks kvs).getD x) ρ
  | _, _ => .no
def fDIx (i : Nat) (fk : M PyData) : M PyData := needD i (fk.bind (kDIx i))
def fDIn (i : Nat) (fk : M PyData) : M Bool := fk.bind fun kd => needD i (kDIn i kd)
def kDNotIn (i : Nat) (kd : PyData) : M Bool := fun ρ => match slotD ρ i, keyT kd with
  | some kvs, some ks => .ok (!(dGet ks kvs).isSome) ρ
  | _, _ => .no
def fDNotIn (i : Nat) (fk : M PyData) : M Bool := fk.bind fun kd => needD i (kDNotIn i kd)
def fDGet1 (i : Nat) (fk : M PyData) : M PyData := needD i (fk.bind fun kd => kDGet i kd .none)
def fDGet2 (i : Nat) (fk fx : M PyData) : M PyData := needD i (fk.bind fun kd => fx.bind fun x => kDGet i kd x)
theorem slot_fn {σ : L2.St} {i : Nat} {p q : Addr} (h : σ[i]? = some (some (V.ref p))) (h' : σ[i]? = some (some (V.ref q))) : p = q := by
  rw [h] at h'; cases h'; rfl
theorem r_dix {i : Nat} {fk : M PyData} {σ : L2.St} {H : Hp} {Q : VK} (w : tOf mg W (fDIx i fk) σ H Q) : tDGet (tVar i) (tOf mg W fk) σ H Q := by
  obtain ⟨c, G, ρ, S, h⟩ := w
  obtain ⟨p, hp, _, h⟩ := needD_of S h
  refine ⟨_, hp, step S h fun u G1 H1 ρ1 kd S1 e1 r1 h1 => ?_⟩
  unfold kDIx at h1
  split at h1
  · rename_i kvs ks ed ek
    obtain ⟨p', ws, hp', hd, q, _⟩ := slotD_of S1 ed
    cases slot_fn hp hp'
    rcases dget_of S1.ex hd q r1 ek with ⟨n1, _⟩ | ⟨d, v, n1, n2, rv⟩
    · rw [n1] at h1; exact h1.elim
    · rw [n1] at h1
      exact ⟨p, v, rfl, n2, h1 v G1 H1 S1 (.refl _) rv⟩
  · exact h1.elim
theorem x_dix {b : Expr} {i : Nat} {x : Str} {p1 : Pos} {fk : M PyData} (F : Fit X mg W k) (hN : X.N[i]? = some x) (hv : Vis X.env.scope x) (hb : PE X b (tOf mg W fk)) (hs : NoSl b := by exact fun _ _ => rfl) (hd : (x == ("__debug__" : Str)) = false := by decide) (hcd : (x == ("__classdict__" : Str)) = false := by decide) :
    PE X (.Subscript (.Name x p1) b pos) (tOf mg W (fDIx i fk)) := (pe_dget (hu1 F) (pe_var hN hv hd hcd) hb hs).imp fun _ _ _ w => r_dix w
theorem r_din {i : Nat} {fk : M PyData} {σ : L2.St} {H : Hp} {Q : Bool → Hp → Prop} (w : ttOf mg W (fDIn i fk) σ H Q) : tB (tDIn (tOf mg W fk) (tVar i)) σ H Q := by
  obtain ⟨c, G, ρ, S, h⟩ := w
  refine step S h fun u G1 H1 ρ1 kd S1 e1 r1 h1 => ?_
  obtain ⟨p, hp, _, h1⟩ := needD_of S1 h1
  refine ⟨_, hp, ?_⟩
  unfold kDIn at h1
  split at h1
  · rename_i kvs ks ed ek
    obtain ⟨p', ws, hp', hd, q, _⟩ := slotD_of S1 ed
    cases slot_fn hp hp'
    rcases dget_of S1.ex hd q r1 ek with ⟨n1, n2⟩ | ⟨d, v, n1, n2, rv⟩
    · rw [n1] at h1
      exact ⟨p, none, rfl, n2, _, rfl, h1 _ G1 H1 S1 (.refl _) rfl⟩
    · rw [n1] at h1
      exact ⟨p, some v, rfl, n2, _, rfl, h1 _ G1 H1 S1 (.refl _) rfl⟩
  · exact h1.elim
theorem r_dnin {i : Nat} {fk : M PyData} {σ : L2.St} {H : Hp} {Q : Bool → Hp → Prop} (w : ttOf mg W (fDNotIn i fk) σ H Q) : tB (tDNotIn (tOf mg W fk) (tVar i)) σ H Q := by
  obtain ⟨c, G, ρ, S, h⟩ := w
  refine step S h fun u G1 H1 ρ1 kd S1 e1 r1 h1 => ?_
  obtain ⟨p, hp, _, h1⟩ := needD_of S1 h1
  refine ⟨_, hp, ?_⟩
  unfold kDNotIn at h1
  split at h1
  · rename_i kvs ks ed ek
    obtain ⟨p', ws, hp', hd, q, _⟩ := slotD_of S1 ed
    cases slot_fn hp hp'
    rcases dget_of S1.ex hd q r1 ek with ⟨n1, n2⟩ | ⟨d, v, n1, n2, rv⟩
    · rw [n1] at h1
      exact ⟨p, none, rfl, n2, _, rfl, h1 _ G1 H1 S1 (.refl _) rfl⟩
    · rw [n1] at h1
      exact ⟨p, some v, rfl, n2, _, rfl, h1 _ G1 H1 S1 (.refl _) rfl⟩
  · exact h1.elim
theorem x_din {b : Expr} {i : Nat} {x : Str} {p1 : Pos} {fk : M PyData} (F : Fit X mg W k) (hN : X.N[i]? = some x) (hv : Vis X.env.scope x) (hb : PE X b (tOf mg W fk)) (hd : (x == ("__debug__" : Str)) = false := by decide) (hcd : (x == ("__classdict__" : Str)) = false := by decide) (h1 : behindInMarks .In (.Name x p1) = false := by rfl) :
    PT X (.Compare b [.In] [.Name x p1] pos) (ttOf mg W (fDIn i fk)) := (pt_cmp (pc_din (hu1 F) hb (pe_var hN hv hd hcd)) h1).imp fun _ _ _ w => r_din w
theorem x_dnin {b : Expr} {i : Nat} {x : Str} {p1 : Pos} {fk : M PyData} (F : Fit X mg W k) (hN : X.N[i]? = some x) (hv : Vis X.env.scope x) (hb : PE X b (tOf mg W fk)) (hd : (x == ("__debug__" : Str)) = false := by decide) (hcd : (x == ("__classdict__" : Str)) = false := by decide) (h1 : behindInMarks .NotIn (.Name x p1) = false := by rfl) :
    PT X (.Compare b [.NotIn] [.Name x p1] pos) (ttOf mg W (fDNotIn i fk)) := (pt_cmp (pc_dnotin (hu1 F) hb (pe_var hN hv hd hcd)) h1).imp fun _ _ _ w => r_dnin w
/-- .. as a value -/
theorem x_dinV {b : Expr} {i : Nat} {x : Str} {p1 : Pos} {fk : M PyData} (F : Fit X mg W k) (hN : X.N[i]? = some x) (hv : Vis X.env.scope x) (hb : PE X b (tOf mg W fk)) (hd : (x == ("__debug__" : Str)) = false := by decide) (hcd : (x == ("__classdict__" : Str)) = false := by decide) (h1 : behindInMarks .In (.Name x p1) = false := by rfl) :
    PE X (.Compare b [.In] [.Name x p1] pos) (tOf mg W ((fDIn i fk).bind fun b => M.pure (.bool b))) := (pe_cmp (pc_din (hu1 F) hb (pe_var hN hv hd hcd)) h1).imp fun σ H Q w => by
  obtain ⟨c, G, ρ, S, h⟩ := w
  have key : ttOf mg W (fDIn i fk) σ H (fun b H1 => Q (.bl b) H1) := step S h fun v G1 H1 ρ1 b S1 e1 r1 h1 => by
    cases r1
    exact Res.pureB h1 S1 (.bl _)
  obtain ⟨c, G, ρ, S, h⟩ := key
  refine step S h fun u G1 H1 ρ1 kd S1 e1 r1 h1 => ?_
  obtain ⟨p, hp, _, h1⟩ := needD_of S1 h1
  refine ⟨_, hp, ?_⟩
  unfold kDIn at h1
  split at h1
  · rename_i kvs ks ed ek
    obtain ⟨p', ws, hp', hd, q, _⟩ := slotD_of S1 ed
    cases slot_fn hp hp'
    rcases dget_of S1.ex hd q r1 ek with ⟨n1, n2⟩ | ⟨d, v, n1, n2, rv⟩
    · rw [n1] at h1
      exact ⟨p, none, rfl, n2, h1 _ G1 H1 S1 (.refl _) rfl⟩
    · rw [n1] at h1
      exact ⟨p, some v, rfl, n2, h1 _ G1 H1 S1 (.refl _) rfl⟩
  · exact h1.elim
theorem kdget_of {c : Fc W.K} {G H : Hp} {σ : L2.St} {ρ : Env} {Q : VK} {i : Nat} {p : Addr} {kd x : PyData} {y z : V} (S : Stt c G H σ ρ) (hp : σ[i]? = some (some (V.ref p))) (ry : Rp G y kd) (rz : Rp G z x) (h : Res mg W rD c G σ Q (kDGet i kd x ρ)) : ∃ o, DGet H p y o ∧ Q (o.getD z) H := by
  unfold kDGet at h
  split at h
  · rename_i kvs ks ed ek
    obtain ⟨p', ws, hp', hd, q, _⟩ := slotD_of S ed
    cases slot_fn hp hp'
    rcases dget_of S.ex hd q ry ek with ⟨n1, n2⟩ | ⟨d, v, n1, n2, rv⟩
    · rw [n1] at h
      exact ⟨none, n2, h z G H S (.refl _) rz⟩
    · rw [n1] at h
      exact ⟨some v, n2, h v G H S (.refl _) rv⟩
  · exact h.elim
theorem x_dget1 {b : Expr} {i : Nat} {x : Str} {p1 apos : Pos} {fk : M PyData} (F : Fit X mg W k) (hN : X.N[i]? = some x) (hv : Vis X.env.scope x) (hb : PE X b (tOf mg W fk)) (m : M1 X (.Name x p1) "get" apos b pos) (hd : (x == ("__debug__" : Str)) = false := by decide) (hcd : (x == ("__classdict__" : Str)) = false := by decide) :
    PE X (.Call (.Attribute (.Name x p1) "get" apos) [b] [] pos) (tOf mg W (fDGet1 i fk)) := (pe_dget1 (hu1 F) (pe_var hN hv hd hcd) hb m).imp fun σ H Q ⟨c, G, ρ, S, h⟩ => by
  obtain ⟨p, hp, ⟨ws, hd⟩, h⟩ := needD_of S h
  refine ⟨_, hp, p, rfl, .inr ⟨ws, hd⟩, step S h fun u G1 H1 ρ1 kd S1 e1 r1 h1 => ?_⟩
  obtain ⟨o, g, q⟩ := kdget_of S1 hp r1 .non h1
  exact ⟨o, g, q⟩
theorem x_dget2 {b e : Expr} {i : Nat} {x : Str} {p1 apos : Pos} {fk fx : M PyData} (F : Fit X mg W k) (hN : X.N[i]? = some x) (hv : Vis X.env.scope x) (hb : PE X b (tOf mg W fk)) (he : PE X e (tOf mg W fx)) (m : M2 X (.Name x p1) "get" apos b e pos) (hd : (x == ("__debug__" : Str)) = false := by decide) (hcd : (x == ("__classdict__" : Str)) = false := by decide) :
    PE X (.Call (.Attribute (.Name x p1) "get" apos) [b, e] [] pos) (tOf mg W (fDGet2 i fk fx)) := (pe_dget2 (hu1 F) (pe_var hN hv hd hcd) hb he m).imp fun σ H Q ⟨c, G, ρ, S, h⟩ => by
  obtain ⟨p, hp, ⟨ws, hd⟩, h⟩ := needD_of S h
  refine ⟨_, hp, p, rfl, .inr ⟨ws, hd⟩, step S h fun u G1 H1 ρ1 kd S1 e1 r1 h1 => step S1 h1 fun u2 G2 H2 ρ2 xd S2 e2 r2 h2 => ?_⟩
  obtain ⟨o, g, q⟩ := kdget_of S2 hp (r1.mono e2) r2 h2
  exact ⟨o, g, q⟩
/-- a dict that an expression hands back, asked by a key -/
def gD1 (d kd : PyData) : Option PyData := match d, keyT kd with
  | .dict kvs, some ks => some ((dGet ks kvs).getD .none)
  | _, _ => none
def isDi : PyData → Option PyData
  | .dict kvs => some (.dict kvs)
  | _ => none
def fXGet1 (fd fk : M PyData) : M PyData := (f1 isDi fd).bind fun d => fk.bind fun kd => M.lift (gD1 d kd)
theorem f1_step {c : Fc W.K} {G H : Hp} {σ : L2.St} {ρ : Env} {Q : V → Hp → Prop} {fa : M PyData} {g : PyData → Option PyData} {kk : PyData → M PyData} (S : Stt c G H σ ρ) {QQ : V → Hp → Prop} (h : Res mg W rD c G σ Q ((f1 g fa).bind kk ρ))
    (n : ∀ v G1 H1 ρ1 a z, Stt c G1 H1 σ ρ1 → Ex G G1 → Rp G1 v a → g a = some z → Res mg W rD c G1 σ Q (kk z ρ1) → QQ v H1) : tOf mg W fa σ H QQ := by
  have h' : Res mg W rD c G σ Q (fa.bind (fun a => (M.lift (g a)).bind kk) ρ) := by
    unfold f1 M.bind at h
    unfold M.bind
    cases e : fa ρ with
    | ok a ρ1 =>
      rw [e] at h
      dsimp only at h ⊢
      exact h
    | exc x ρ1 => rw [e] at h; exact h
    | no => rw [e] at h; exact h
  refine step S h' fun v G1 H1 ρ1 a S1 e1 r1 h1 => ?_
  unfold M.bind M.lift at h1
  cases e : g a with
  | none => rw [e] at h1; exact h1.elim
  | some z => rw [e] at h1; exact n v G1 H1 ρ1 a z S1 e1 r1 e h1
theorem x_xget1 {o b : Expr} {apos : Pos} {fd fk : M PyData} (F : Fit X mg W k) (ho : PE X o (tOf mg W fd)) (hb : PE X b (tOf mg W fk)) (m : M1 X o "get" apos b pos) :
    PE X (.Call (.Attribute o "get" apos) [b] [] pos) (tOf mg W (fXGet1 fd fk)) := (pe_dget1 (hu1 F) ho hb m).imp fun σ H Q ⟨c, G, ρ, S, h⟩ => by
  refine f1_step S h fun v G1 H1 ρ1 d z S1 e1 r1 hz h1 => ?_
  cases r1 with
  | dic hd l q =>
    cases hz
    refine ⟨_, rfl, .inr ⟨_, S1.ex.rd hd⟩, step S1 h1 fun u G2 H2 ρ2 kd S2 e2 r2 h2 => ?_⟩
    obtain ⟨z, hz, n⟩ := lift_gr (α := PyData) S2 h2
    unfold gD1 at hz
    split at hz
    · rename_i kvs ks ek eq
      cases ek; cases hz
      rcases dget_of S2.ex (S2.ex.rd (e2.rd hd)) (q.mono e2) r2 eq with ⟨n1, n2⟩ | ⟨d, v, n1, n2, rv⟩
      · rw [n1] at n; exact ⟨none, n2, n _ G2 H2 (gr0 S2.ex) .non⟩
      · rw [n1] at n; exact ⟨some v, n2, n _ G2 H2 (gr0 S2.ex) rv⟩
    · cases hz
  | _ => cases hz
/-- len(d), d the slot's own dict -/
def fDLen (i : Nat) : M PyData := fun ρ => match ρ[i]? with
  | some (.own (.dict kvs)) => .ok (.int kvs.length) ρ
  | _ => .no
theorem x_dlen {i : Nat} {x : Str} {p p1 : Pos} (F : Fit X mg W k) (hm : mg "len" = none) (hN : X.N[i]? = some x) (hv : Vis X.env.scope x) (hg : Gl X "len" := by rfl) (hd : (x == ("__debug__" : Str)) = false := by decide) (hcd : (x == ("__classdict__" : Str)) = false := by decide)
    (hs : starEach [.Name x p1] X.env = (false, eval (.Name x p1) X.env) :: starEach [] X.env := by rfl) (hpl : (backTo pos (starEach [] X.env)).any (·.1) = false := by rfl) :
    PE X (.Call (.Name "len" p) [.Name x p1] [] pos) (tOf mg W (fDLen i)) :=
  (pe_callB call_len_dT hg (by rw [F.mg]; exact hm) PySem.boot_len (pa_cons (pe_var hN hv hd hcd) pa_nil hs) (by decide) (by decide) hs hpl).imp fun σ H Q ⟨c, G, ρ, S, h⟩ => by
  unfold fDLen at h
  split at h
  · rename_i kvs e
    obtain ⟨y, hy, q, rfl, _, _, l, ws, hq, r⟩ := S.sl i _ e
    have := h (.int kvs.length) G H S (.refl _) (.int _)
    exact ⟨_, hy, q, ws, rfl, hq, by rw [r.length]; exact this⟩
  · exact h.elim
/-- d[k] = v, d the slot's own dict -/
def sDPut (i : Nat) (fk fv : M PyData) : SM := sE fv fun v => sE (needD i fk) fun kd ρ => match ρ[i]?, keyT kd with
  | some (.own (.dict kvs)), some ks => if kvs.length < LIM then .nx (ρ.set i (.own (.dict (dPut kd ks v kvs)))) else .no
  | _, _ => .no
theorem s_dput {b e : Expr} {i : Nat} {x : Str} {p1 p2 : Pos} {fk fv : M PyData} (F : Fit X mg W k) (hN : X.N[i]? = some x) (hv : Vis X.env.scope x) (hb : PE X b (tOf mg W fk)) (he : PE X e (tOf mg W fv)) (hs : swapsWith e (some (.Subscript (.Name x p1) b p2)) pos.line X.env = pure false := by rfl) (hd : (x == ("__debug__" : Str)) = false := by decide) (hcd : (x == ("__classdict__" : Str)) = false := by decide) :
    PS X (.Assign [.Subscript (.Name x p1) b p2] e pos) (sOf mg W (sDPut i fk fv)) := (ps_dput (hu1 F) (pe_var hN hv hd hcd) hb he hs).imp fun D σ H ⟨c, G, ρ, S, h⟩ => by
  refine stepS S h fun v G1 H1 ρ1 vd S1 e1 r1 h1 => ?_
  have hsl : ∃ kvs, slotD ρ1 i = some kvs := by
    unfold sE needD at h1
    cases es : slotD ρ1 i with
    | none => rw [es] at h1; exact h1.elim
    | some kvs => exact ⟨kvs, rfl⟩
  obtain ⟨kvs0, es⟩ := hsl
  obtain ⟨p, ws0, hp, _⟩ := slotD_of S1 es
  refine ⟨_, hp, ?_⟩
  have h1' : OutOk mg W c G1 D (sE fk (fun kd ρ => match ρ[i]?, keyT kd with
    | some (.own (.dict kvs)), some ks => if kvs.length < LIM then Out.nx (ρ.set i (.own (.dict (dPut kd ks vd kvs)))) else .no
    | _, _ => .no) ρ1) := by
    unfold sE needD at h1
    rw [es] at h1
    exact h1
  refine stepS S1 h1' fun u G2 H2 ρ2 kd S2 e2 r2 h2 => ?_
  split at h2
  · rename_i kvs ks eo ek
    split at h2
    · rename_i hl
      obtain ⟨y, hy, q, ey, gq, h0, l, ws, hq, r⟩ := S2.sl i _ eo
      subst ey
      cases slot_fn hp hy
      obtain ⟨bb, rfl, hb2, hkl⟩ := keyT_rp r2 ek
      have hkd := keyD_of ek
      refine ⟨p, _, rfl, DPut.t hq (S2.ex _ _ hb2) (by rw [r.length]; exact lim_lt (Nat.le_of_lt hl)), ?_⟩
      refine h2 _ G2 _ (S2.change eo hp rfl (fun d d' ed ed' => ?_) (fun l d d' z => nomatch z) (.inl ⟨_, _, rfl, rfl⟩)) (.refl _)
      cases ed'
      refine ⟨by have := dPut_len kd ks vd kvs; omega, _, upd_same, ?_⟩
      rw [hkd]
      exact dPut_rp hkl (r1.mono e2) r
    · exact h2.elim
  · exact h2.elim
/-! displays -/
def kTup (ds : List PyData) : Option PyData := if ds.length ≤ LIM then some (.tuple ds) else none
def kLst (ds : List PyData) : Option PyData := if ds.length ≤ LIM then some (.list ds) else none
theorem x_tup {es : List Expr} {x1} {fs : M (List PyData)} (ha : PA X es (taOf mg W fs)) : PE X (.Tuple es x1 pos) (tOf mg W (f1 kTup fs)) := (pe_tup ha).imp fun σ H Q ⟨c, G, ρ, S, h⟩ => by
  refine step S h fun u G1 H1 ρ1 ds S1 e1 r1 h1 => ?_
  obtain ⟨z, hz, n⟩ := lift_gr (α := PyData) S1 h1
  unfold kTup at hz
  split at hz <;> cases hz
  rename_i hl
  exact ⟨by rw [r1.length]; exact lim_le hl, fun p hp => n _ _ _ (.laid S1.ex hp) (.tup upd_same hl (RpA.mono (.new (S1.ex.free hp)) r1))⟩
theorem x_lstO {es : List Expr} {fs : M (List PyData)} (ha : PA X es (taOf mg W fs)) : PE X (.List es pos) (toOf mg W (f1 kLst fs)) := (pe_lst ha).imp fun σ H Q ⟨c, G, ρ, S, h⟩ => by
  refine step S h fun u G1 H1 ρ1 ds S1 e1 r1 h1 => ?_
  obtain ⟨z, hz, n⟩ := lift_some h1
  unfold kLst at hz
  split at hz <;> cases hz
  rename_i hl
  refine ⟨by rw [r1.length]; exact lim_le hl, fun p hp => ?_⟩
  obtain ⟨f1, f2, f3, f4, f5⟩ := S1.fresh hp
  exact n _ G1 _ (S1.gr (.apart S1.ex hp)) (.refl _) ⟨p, rfl, f1, f2, ⟨hl, u, upd_same, r1⟩, f5⟩
theorem x_lst {es : List Expr} {fs : M (List PyData)} (ha : PA X es (taOf mg W fs)) : PE X (.List es pos) (tOf mg W (f1 kLst fs)) := x_fresh (x_lstO ha)
theorem x_dictO0 : PE X (.Dict [] [] pos) (toOf mg W (fC (.dict []))) := pe_dnewT.imp fun σ H Q ⟨c, G, ρ, S, h⟩ p hp => by
  obtain ⟨f1, f2, f3, f4, f5⟩ := S.fresh hp
  exact h _ G _ (S.gr (.apart S.ex hp)) (.refl _) ⟨p, rfl, f1, f2, ⟨Nat.zero_le _, [], upd_same, .nil⟩, f5⟩
/-- {k: v}, k a tuple -/
def gPair (kd v : PyData) : Option PyData := match keyT kd with
  | some _ => some (.dict [(kd, v)])
  | none => none
def tDisp1 (tk tv : TE) : TE := fun σ H Q => ∀ p, H p = none → tPairs [(tk, tv)] σ (upd H p (.dT [])) (fun ps H2 => ∃ y v b ks, ps = [(y, v)] ∧ y = .ref b ∧ H2 b = some (.tup (ks.map kV)) ∧ H2 p = some (.dT []) ∧ Q (.ref p) (upd H2 p (.dT [(ks, v)])))
theorem pe_disp1 {kx vx : Expr} {tk tv : TE} (hu : X.A.units + 1 < cLine) (hk : PE X kx tk) (hv : PE X vx tv) : PE X (.Dict [some kx] [vx] pos) (tDisp1 tk tv) := by
  constructor; intro pins s σ H Q I q
  have hn := I.hok.fresh (a := s.heap.objs.size) (Nat.le_refl _)
  have I1 := I.laid (a := s.heap.objs.size) (o := .dT []) (h' := s.heap.push { cls := .type "dict", data := .dict #[] }) (t' := s.toks) (fun _ _ q => Heap.get?_push_of_some _ q) (Nat.le_refl _) (dt_empty s.heap I.big)
  have hp : PPs X pos [some kx] [vx] [(tk, tv)] := pps_cons hk hv pps_nil
  rw [arm_eval_Dict, zip_pairTrees [some kx] [vx] X.env pos rfl rfl, dictDisplay_pairs _ (fun e => by cases e) (by show 1 < _; decide)]
  have hr : (tupleKind (mixKind X.prog X.w)).room X.A := (show X.A.units < cLine by omega)
  refine wpAny_bind (wpAny_standAt (wpAny_bind (wpAny_subDictH (knd := tupleKind (mixKind X.prog X.w)) (Q := fun d s' => wpAny (model X.prog X.w) X.A (pure (Value.ref d)) (EP X pins σ Q) X.xe s') hr (by show 1 ≤ 15; decide) ?_)))
  refine thn (hp.run pins _ σ _ _ I1 (q _ hn)) fun ws s2 ⟨ps, H2, I2, rel, y, v, b, ks, ep, ey, hb, he, q2⟩ => ?_
  subst ep ey
  cases rel with
  | @cons _ pr _ _ r1 r2 =>
  cases r2
  obtain ⟨pk, pv⟩ := pr
  obtain ⟨ry, rv⟩ := r1
  have ry' : pk = Value.ref b := ry
  subst ry'
  obtain ⟨z, hd, xs, rel, dd⟩ := dt_of I2.hok he
  cases rel
  refine ⟨[(ks, b, pv)], ⟨rfl, rfl, key_of I2.hok hb, trivial⟩, dd, fun h' tk dd' hs => wpAny_pure ⟨.ref s.heap.objs.size, _, ?_, rfl, q2⟩⟩
  obtain ⟨qo, es, ep, hq, h2, h3, h4, _, h5⟩ := dd'
  refine d_write I2 (by rw [he]; exact True.intro) hs ⟨qo, hq⟩ ⟨by rw [sizeLine_eq]; show 1 ≤ _; decide, hd, [(ks, b, pv)], Paired.cons ⟨rfl, ?_, rv⟩ .nil, qo, es, ep, hq, h2, h3, h4, h5⟩
  rw [upd_ne (ne_of hb he (fun z => nomatch z))]
  exact hb
theorem x_disp1O {kx vx : Expr} {fk fv : M PyData} (F : Fit X mg W k) (hk : PE X kx (tOf mg W fk)) (hv : PE X vx (tOf mg W fv)) : PE X (.Dict [some kx] [vx] pos) (toOf mg W (f2 gPair fk fv)) := (pe_disp1 (hu1 F) hk hv).imp fun σ H Q ⟨c, G, ρ, S, h⟩ p hp => by
  obtain ⟨fa, fb, fc, fd, fe⟩ := S.fresh hp
  have S0 : Stt (gd c p (.dT [])) G (upd H p (.dT [])) σ ρ := (S.gr (.apart S.ex hp)).guard fa fb upd_same fe
  show tOf mg W fk σ _ fun x H1 => tOf mg W fv σ H1 fun y H2 => _
  refine ⟨_, G, ρ, S0, ?_⟩
  unfold f2 M.bind at h
  cases e1 : fk ρ with
  | no => rw [e1] at h; exact h
  | exc x ρ1 => rw [e1] at h; exact fun cls dd G1 H1 S1 g r => h cls dd G1 H1 (S1.unguard fb fc fd).1 g r
  | ok kd ρ1 =>
    rw [e1] at h
    intro y G1 H1 S1 g1 r1
    refine ⟨_, G1, ρ1, S1, ?_⟩
    dsimp only at h
    cases e2 : fv ρ1 with
    | no => rw [e2] at h; exact h
    | exc x ρ2 => rw [e2] at h; exact fun cls dd G2 H2 S2 g r => h cls dd G2 H2 (S2.unguard fb fc fd).1 (g1.trans g) r
    | ok vd ρ2 =>
      rw [e2] at h
      intro v G2 H2 S2 g2 r2
      obtain ⟨S3, hp3, gp3, fr3⟩ := S2.unguard fb fc fd
      unfold M.lift gPair at h
      dsimp only at h
      cases ek : keyT kd with
      | none => rw [ek] at h; exact h.elim
      | some ks =>
        rw [ek] at h
        obtain ⟨b, rfl, hb, hkl⟩ := keyT_rp (r1.mono g2) ek
        refine ⟨_, v, b, ks, rfl, rfl, S3.ex _ _ hb, hp3, ?_⟩
        have hkd := keyD_of ek
        refine h _ G2 _ (S3.write gp3 fb fd fr3) (g1.trans g2) ⟨p, rfl, gp3, fb, ⟨by show 1 ≤ LIM; decide, _, upd_same, ?_⟩, fr3⟩
        rw [hkd]
        exact .cons hkl r2 .nil
theorem x_disp1 {kx vx : Expr} {fk fv : M PyData} (F : Fit X mg W k) (hk : PE X kx (tOf mg W fk)) (hv : PE X vx (tOf mg W fv)) : PE X (.Dict [some kx] [vx] pos) (tOf mg W (f2 gPair fk fv)) := x_fresh (x_disp1O F hk hv)
/-! own lists -/
theorem own_lst {κ : PySem.W.Frag} {c : Fc κ} {G H : Hp} {σ : L2.St} {ρ : Env} (S : Stt c G H σ ρ) {i : Nat} {ds : List PyData} (h : ρ[i]? = some (.own (.list ds))) : ∃ p vs, σ[i]? = some (some (V.ref p)) ∧ H p = some (.lst vs) ∧ RpA G vs ds ∧ ds.length ≤ LIM := by
  obtain ⟨y, hy, q, rfl, _, _, l, ws, hq, r⟩ := S.sl i _ h
  exact ⟨q, ws, hy, hq, r, l⟩
/-- xs[e], xs the slot's own list -/
def needL (i : Nat) {α : Type} (m : M α) : M α := fun ρ => match ρ[i]? with
  | some (.own (.list _)) => m ρ
  | _ => .no
theorem needL_of {β α : Type} {rel : Rel β α} {c : Fc W.K} {G H : Hp} {σ : L2.St} {ρ : Env} {Q : β → Hp → Prop} {i : Nat} {m : M α} (S : Stt c G H σ ρ) (h : Res mg W rel c G σ Q (needL i m ρ)) : ∃ p vs, σ[i]? = some (some (V.ref p)) ∧ H p = some (.lst vs) ∧ Res mg W rel c G σ Q (m ρ) := by
  unfold needL at h
  split at h
  · rename_i ds e
    obtain ⟨p, vs, h1, h2, _⟩ := own_lst S e
    exact ⟨p, vs, h1, h2, h⟩
  · exact h.elim
def kLIx (i : Nat) (kd : PyData) : M PyData := fun ρ => match ρ[i]?, kd with
  | some (.own (.list ds)), .int j => (match atI ds j with | some d => .ok d ρ | none => .no)
  | _, _ => .no
def fLIx (i : Nat) (fk : M PyData) : M PyData := needL i (fk.bind (kLIx i))
theorem x_lix {b : Expr} {i : Nat} {x : Str} {p1 : Pos} {fk : M PyData} (hN : X.N[i]? = some x) (hv : Vis X.env.scope x) (hb : PE X b (tOf mg W fk)) (hs : PlainIx b := by exact fun _ _ => rfl) (hd : (x == ("__debug__" : Str)) = false := by decide) (hcd : (x == ("__classdict__" : Str)) = false := by decide) :
    PE X (.Subscript (.Name x p1) b pos) (tOf mg W (fLIx i fk)) := (pe_ix ix_list (pe_var hN hv hd hcd) hb hs).imp fun σ H Q ⟨c, G, ρ, S, h⟩ => by
  obtain ⟨p, vs, hp, _, h⟩ := needL_of S h
  refine ⟨_, hp, step S h fun u G1 H1 ρ1 kd S1 e1 r1 h1 => ?_⟩
  unfold kLIx at h1
  split at h1
  · rename_i ds j eo
    obtain ⟨q, ws, hq, hl, r, _⟩ := own_lst S1 eo
    cases slot_fn hp hq
    cases r1
    split at h1
    · rename_i d ed
      obtain ⟨v, h2, h3⟩ := r.atI ed
      exact ⟨p, ws, j, v, rfl, rfl, SqL.of hl, h2, h1 v G1 H1 S1 (.refl _) h3⟩
    · exact h1.elim
  · exact h1.elim
/-- xs.append(e) -/
def sApp (i : Nat) (f : M PyData) : SM := sE (needL i f) fun d ρ => match ρ[i]? with
  | some (.own (.list ds)) => if ds.length < LIM then .nx (ρ.set i (.own (.list (ds ++ [d])))) else .no
  | _ => .no
theorem stepN {c : Fc W.K} {G H : Hp} {σ : L2.St} {ρ : Env} {D : Ends} {i : Nat} {f : M PyData} {kk : PyData → SM} (S : Stt c G H σ ρ) (h : OutOk mg W c G D (sE (needL i f) kk ρ)) : ∃ p vs, σ[i]? = some (some (V.ref p)) ∧ H p = some (.lst vs) ∧ OutOk mg W c G D (sE f kk ρ) := by
  unfold sE needL at h
  split at h
  · rename_i d1 ρ1 e
    split at e
    · rename_i ds eo
      obtain ⟨p, vs, h1, h2, _⟩ := own_lst S eo
      refine ⟨p, vs, h1, h2, ?_⟩
      unfold sE; rw [e]; exact h
    · cases e
  · rename_i d1 ρ1 e
    split at e
    · rename_i ds eo
      obtain ⟨p, vs, h1, h2, _⟩ := own_lst S eo
      refine ⟨p, vs, h1, h2, ?_⟩
      unfold sE; rw [e]; exact h
    · cases e
  · exact h.elim
theorem app_of {c : Fc W.K} {G H : Hp} {σ : L2.St} {ρ : Env} {D : Ends} {i : Nat} {p : Addr} {v : V} {d : PyData} (S : Stt c G H σ ρ) (hp : σ[i]? = some (some (V.ref p))) (rv : Rp G v d)
    (h : OutOk mg W c G D (match ρ[i]? with | some (.own (.list ds)) => if ds.length < LIM then Out.nx (ρ.set i (.own (.list (ds ++ [d])))) else .no | _ => .no)) :
    ∃ xs, H p = some (.lst xs) ∧ xs.length < sizeLine ∧ D.nx σ (upd H p (.lst (xs ++ [v]))) := by
  split at h
  · rename_i ds eo
    split at h
    · rename_i hl
      obtain ⟨q, ws, hq, hq2, r, _⟩ := own_lst S eo
      cases slot_fn hp hq
      refine ⟨ws, hq2, by rw [r.length]; exact lim_lt (Nat.le_of_lt hl), ?_⟩
      refine h _ G _ (S.change eo hp rfl (fun d1 d' ed ed' => ?_) (fun l d d' z => nomatch z) (.inl ⟨_, _, rfl, rfl⟩)) (.refl _)
      cases ed'
      exact ⟨by rw [List.length_append]; exact hl, _, upd_same, r.append (.cons rv .nil)⟩
    · exact h.elim
  · exact h.elim
/-- xs.extend(e), e a list -/
def sExt (i : Nat) (f : M PyData) : SM := sE (needL i f) fun d ρ => match ρ[i]?, d with
  | some (.own (.list ds)), .list es => if ds.length + es.length ≤ LIM then .nx (ρ.set i (.own (.list (ds ++ es)))) else .no
  | _, _ => .no
/-- xs[e] = v -/
def sLSet (i : Nat) (fk fv : M PyData) : SM := sE fv fun v => sE (needL i fk) fun kd ρ => match ρ[i]?, kd with
  | some (.own (.list ds)), .int j => (match ixN ds.length j with | some m => .nx (ρ.set i (.own (.list (ds.set m v)))) | none => .no)
  | _, _ => .no
theorem s_lset {b e : Expr} {i : Nat} {x : Str} {p1 p2 : Pos} {fk fv : M PyData} (hN : X.N[i]? = some x) (hv : Vis X.env.scope x) (hb : PE X b (tOf mg W fk)) (he : PE X e (tOf mg W fv)) (hd : (x == ("__debug__" : Str)) = false := by decide) (hcd : (x == ("__classdict__" : Str)) = false := by decide)
    (hs : swapsWithSole [.Subscript (.Name x p1) b p2] e pos.line X.env = pure false := by rfl) (hw : swappedStores [.Subscript (.Name x p1) b p2] e X.env = pure none := by rfl) (h1 : (assignEach [.Subscript (.Name x p1) b p2] X.env).map (·.2) = [assign (.Subscript (.Name x p1) b p2) X.env] := by rfl)
    (ha : ∀ v, assign (.Subscript (.Name x p1) b p2) X.env v = (do
      let ov ← holding [v] (eval (.Name x p1) X.env)
      let iv ← holding [v, ov] (eval b X.env)
      standAt p2; holding [v, ov, iv] (setItem ov iv v)
      release [v, ov, iv] []) := by intro _; rfl) :
    PS X (.Assign [.Subscript (.Name x p1) b p2] e pos) (sOf mg W (sLSet i fk fv)) := (ps_asg he (pg_sub (pe_var hN hv hd hcd) hb set_list ha) hs hw h1).imp fun D σ H ⟨c, G, ρ, S, h⟩ => by
  refine stepS S h fun v G1 H1 ρ1 vd S1 e1 r1 h1 => ?_
  obtain ⟨p, vs, hp, _, h2⟩ := stepN S1 h1
  refine ⟨_, hp, stepS S1 h2 fun u G2 H2 ρ2 kd S2 e2 r2 h3 => ?_⟩
  split at h3
  · rename_i ds j eo
    cases r2
    split at h3
    · rename_i m em
      obtain ⟨q, ws, hq, hq2, r, l⟩ := own_lst S2 eo
      cases slot_fn hp hq
      refine ⟨p, ws, j, m, rfl, rfl, hq2, by rw [r.length]; exact em, ?_⟩
      refine h3 _ G2 _ (S2.change eo hp rfl (fun d1 d' ed ed' => ?_) (fun l d d' z => nomatch z) (.inl ⟨_, _, rfl, rfl⟩)) (.refl _)
      cases ed'
      exact ⟨by rw [List.length_set]; exact l, _, upd_same, r.set (Rp.mono e2 r1) m⟩
    · exact h3.elim
  · exact h3.elim
theorem s_app {e : Expr} {i : Nat} {x : Str} {p1 apos p2 : Pos} {f : M PyData} (hN : X.N[i]? = some x) (hv : Vis X.env.scope x) (he : PE X e (tOf mg W f)) (hs : swapsWith (.Call (.Attribute (.Name x p1) "append" apos) [e] [] p2) none pos.line X.env = pure false := by rfl) (hd : (x == ("__debug__" : Str)) = false := by decide) (hcd : (x == ("__classdict__" : Str)) = false := by decide)
    (q : PE X (.Call (.Attribute (.Name x p1) "append" apos) [e] [] p2) (tBM X.K "list" rAppend (tVar i) (tCons (tOf mg W f) tNil)) := by exact pe_bm PySem.F.plainAttrs_list PySem.F.slot_list_append PySem.F.type_list_append mt_append (pe_var (by assumption) (by assumption)) (pa_cons (by assumption) pa_nil)) :
    PS X (.Expr (.Call (.Attribute (.Name x p1) "append" apos) [e] [] p2) pos) (sOf mg W (sApp i f)) := (ps_expr q hs).imp fun D σ H ⟨c, G, ρ, S, h⟩ => by
  obtain ⟨p, vs, hp, hl, h1⟩ := stepN S h
  refine ⟨_, hp, .inl ⟨rfl, _, SqL.of hl⟩, stepS S h1 fun u G2 H2 ρ2 d S2 e2 r2 h3 => ?_⟩
  obtain ⟨xs, g1, g2, g3⟩ := app_of S2 hp r2 h3
  exact ⟨p, xs, u, rfl, rfl, g1, g2, g3⟩
theorem s_ext {e : Expr} {i : Nat} {x : Str} {p1 apos p2 : Pos} {f : M PyData} (hN : X.N[i]? = some x) (hv : Vis X.env.scope x) (he : PE X e (tOf mg W f)) (hs : swapsWith (.Call (.Attribute (.Name x p1) "extend" apos) [e] [] p2) none pos.line X.env = pure false := by rfl) (hd : (x == ("__debug__" : Str)) = false := by decide) (hcd : (x == ("__classdict__" : Str)) = false := by decide)
    (q : PE X (.Call (.Attribute (.Name x p1) "extend" apos) [e] [] p2) (tBM X.K "list" rExtend (tVar i) (tCons (tOf mg W f) tNil)) := by exact pe_bm PySem.F.plainAttrs_list PySem.F.slot_list_extend PySem.F.type_list_extend mt_extend (pe_var (by assumption) (by assumption)) (pa_cons (by assumption) pa_nil)) :
    PS X (.Expr (.Call (.Attribute (.Name x p1) "extend" apos) [e] [] p2) pos) (sOf mg W (sExt i f)) := (ps_expr q hs).imp fun D σ H ⟨c, G, ρ, S, h⟩ => by
  obtain ⟨p, vs, hp, hl, h1⟩ := stepN S h
  refine ⟨_, hp, .inl ⟨rfl, _, SqL.of hl⟩, stepS S h1 fun u G2 H2 ρ2 d S2 e2 r2 h3 => ?_⟩
  split at h3
  · rename_i ds es eo
    split at h3
    · rename_i hlen
      obtain ⟨q, ws, hq, hq2, r, l⟩ := own_lst S2 eo
      cases slot_fn hp hq
      cases r2 with
      | lst hg l2 r2 =>
        refine ⟨p, _, ws, _, rfl, rfl, hq2, S2.ex _ _ hg, by rw [r.length, r2.length]; exact lim_le hlen, ?_⟩
        refine h3 _ G2 _ (S2.change eo hp rfl (fun d1 d' ed ed' => ?_) (fun l d d' z => nomatch z) (.inl ⟨_, _, rfl, rfl⟩)) (.refl _)
        cases ed'
        exact ⟨by rw [List.length_append]; exact hlen, _, upd_same, r.append r2⟩
    · exact h3.elim
  · exact h3.elim
end
end Pu
end TP8

section TP9
set_option Elab.async false
set_option linter.all false
set_option maxRecDepth 100000
set_option maxHeartbeats 4200000
namespace Pu
open PyProof.Rows L2 PySem PySem.Spec

/-! ### what a def hands back -/
inductive Rf where
  | ok (d : PyData) | exc (e : Exn) | no
inductive Rw where
  | ok (d : PyData) (w : Drw) | exc (e : Exn) | no
def spD (mg : Str → Option Value) (m : List PyData → Rf) (n : Nat) : Sp := fun vs H Q E => ∃ G ds, vs.length = n ∧ Ex G H ∧ RpA G vs ds ∧ match m ds with
  | .ok d => ∀ v G' H', Gr G H G' H' → Rp G' v d → Q v H'
  | .exc e => ∀ cls dd G' H', Gr G H G' H' → ExcRep mg G' H' e cls dd → E cls dd H'
  | .no => False
/-- the heaps have grown, but for what stands at p -/
structure GrP (p : Addr) (G H G' H' : Hp) : Prop where
  g : Ex G G'
  h : ∀ a o, a ≠ p → H a = some o → H' a = some o
  gh : Ex G' H'
  new : ∀ a o, G' a = some o → G a = some o ∨ Ad H a
/-- the first parameter is the law's row, whose state it changes -/
def spW (κ : PySem.W.Frag) (mg : Str → Option Value) (m : Drw → List PyData → Rw) (n : Nat) : Sp := fun vs H Q E => ∃ G p w rest ds, vs = .ref p :: rest ∧ rest.length = n ∧ Ex G H ∧ G p = none ∧ RowAt κ G H p w ∧ RpA G rest ds ∧ match m w ds with
  | .ok d w' => ∀ v G' H', GrP p G H G' H' → RowAt κ G' H' p w' → Rp G' v d → Q v H'
  | .exc e => False
  | .no => False
structure DefD (P : Program) (w : World) (K : PySem.W.Frag) (mg : Str → Option Value) (base : Heap) (k : Nat) (x : Str) (n : Nat) (m : List PyData → Rf) : Prop where
  ok : ∃ (f : Addr) (fd : FuncData) (ps : List Str), mg x = some (.ref f) ∧ PySem.W.keepIn K (.ref f) = true ∧ Binds K fd ps [] ∧ FnOk P w K mg base (L2.CX P w) k f fd ps (spD mg m n)
structure DefW (P : Program) (w : World) (K : PySem.W.Frag) (mg : Str → Option Value) (base : Heap) (k : Nat) (x : Str) (n : Nat) (m : Drw → List PyData → Rw) : Prop where
  ok : ∃ (f : Addr) (fd : FuncData) (ps : List Str), mg x = some (.ref f) ∧ PySem.W.keepIn K (.ref f) = true ∧ Binds K fd ps [] ∧ FnOk P w K mg base (L2.CX P w) k f fd ps (spW K mg m n)
theorem DefD.mono {P : Program} {w : World} {K : PySem.W.Frag} {mg : Str → Option Value} {base : Heap} {j k : Nat} {x : Str} {n : Nat} {m : List PyData → Rf} (D : DefD P w K mg base j x n m) (h : j ≤ k) : DefD P w K mg base k x n m := by
  obtain ⟨f, fd, ps, a, b, c, d⟩ := D.ok
  exact ⟨f, fd, ps, a, b, c, d.mono h⟩
/-! ### calls -/
def fCall (m : List PyData → Rf) (fs : M (List PyData)) : M PyData := fs.bind fun ds ρ => match m ds with
  | .ok d => .ok d ρ
  | .exc e => .exc e ρ
  | .no => .no
/-- the slot i holds the row -/
def needW (i : Nat) {α : Type} (m : M α) : M α := fun ρ => match ρ[i]? with
  | some (.par _ _) => m ρ
  | _ => .no
def fCallW (i : Nat) (m : Drw → List PyData → Rw) (fs : M (List PyData)) : M PyData := needW i (fs.bind fun ds ρ => match ρ[i]? with
  | some (.par l w) => (match m w ds with
    | .ok d w' => .ok d (ρ.set i (.par l w'))
    | .exc _ => .no
    | .no => .no)
  | _ => .no)
section
variable {X : Cx} {mg : Str → Option Value} {W : WK} {k : Nat} {pos : Pos}
theorem Rp_len {G : Hp} {vs ds} (r : RpA G vs ds) : vs.length = ds.length := r.length
theorem x_call {x : Str} {p : Pos} {e : Expr} {es : List Expr} {j n : Nat} {m : List PyData → Rf} {fs : M (List PyData)} (F : Fit X mg W k) (D : DefD X.prog X.w X.K X.mg X.base j x n m) (hj : j ≤ k) (hn : (e :: es).length = n) (hlen : ∀ ρ ds ρ', fs ρ = .ok ds ρ' → ds.length = n) (ha : PA X (e :: es) (taOf mg W fs))
    (hg : Gl X x := by rfl) (hdb : (x == ("__debug__" : Str)) = false := by decide) (he : starEach (e :: es) X.env = (false, eval e X.env) :: starEach es X.env := by rfl) (hpl : (backTo pos (starEach es X.env)).any (·.1) = false := by rfl) :
    PE X (.Call (.Name x p) (e :: es) [] pos) (tOf mg W (fCall m fs)) := by
  obtain ⟨f, fd, ps, hm, hk, hb, G⟩ := (D.mono hj).ok
  refine (pe_callS G F.room hg hm hk hb (fun σ => passAt F.tk σ) ha hdb he hpl).imp fun σ H Q ⟨c, G, ρ, S, h⟩ => ?_
  have hl : ∀ ds ρ', fs ρ = .ok ds ρ' → ds.length = n := fun ds ρ' => hlen ρ ds ρ'
  refine ⟨c, G, ρ, S, ?_⟩
  unfold fCall M.bind at h
  cases ef : fs ρ with
  | no => rw [ef] at h; exact h
  | exc x ρ1 => rw [ef] at h; exact h
  | ok ds ρ1 =>
    rw [ef] at h
    dsimp only at h ⊢
    intro vs G1 H1 S1 e1 r1
    refine ⟨G1, ds, by rw [r1.length]; exact hl _ _ ef, S1.ex, r1, ?_⟩
    have hmg := F.mg
    cases em : m ds with
    | ok d => rw [em] at h; exact fun v G' H' gr rp => h v G' H' (S1.gr gr) (e1.trans gr.g) rp
    | exc x => rw [em] at h; exact fun cls dd G' H' gr rx => h cls dd G' H' (S1.gr gr) (e1.trans gr.g) (by rw [hmg] at rx; exact rx)
    | no => rw [em] at h; exact h
theorem x_callW {x rx : Str} {p p1 : Pos} {es : List Expr} {i j n : Nat} {m : Drw → List PyData → Rw} {fs : M (List PyData)} (F : Fit X mg W k) (D : DefW X.prog X.w X.K X.mg X.base j x n m) (hj : j ≤ k) (hN : X.N[i]? = some rx) (hv : Vis X.env.scope rx) (hlen : ∀ ρ ds ρ', fs ρ = .ok ds ρ' → ds.length = n) (ha : PA X es (taOf mg W fs))
    (hg : Gl X x := by rfl) (hdb : (x == ("__debug__" : Str)) = false := by decide) (hd : (rx == ("__debug__" : Str)) = false := by decide) (hcd : (rx == ("__classdict__" : Str)) = false := by decide) (he : starEach (.Name rx p1 :: es) X.env = (false, eval (.Name rx p1) X.env) :: starEach es X.env := by rfl) (hpl : (backTo pos (starEach es X.env)).any (·.1) = false := by rfl) :
    PE X (.Call (.Name x p) (.Name rx p1 :: es) [] pos) (tOf mg W (fCallW i m fs)) := by
  obtain ⟨f, fd, ps, hm, hk, hb, G0⟩ := D.ok
  have kk := F.kk
  refine (pe_callS (G0.mono hj) F.room hg hm hk hb (fun σ => passAt F.tk σ) (pa_cons (pe_var hN hv hd hcd) ha he) hdb he hpl).imp fun σ H Q ⟨c, G, ρ, S, h⟩ => ?_
  unfold fCallW needW at h
  split at h
  · rename_i loc w0 eo
    obtain ⟨y, hy, q, rfl, gq, hq0, row⟩ := S.sl i _ eo
    refine ⟨_, hy, ?_⟩
    have hl : ∀ ds ρ', fs ρ = .ok ds ρ' → ds.length = n := fun ds ρ' => hlen ρ ds ρ'
    show taOf mg W fs σ H _
    refine ⟨c, G, ρ, S, ?_⟩
    unfold M.bind at h
    cases ef : fs ρ with
    | no => rw [ef] at h; exact h
    | exc x ρ1 => rw [ef] at h; exact h
    | ok ds ρ1 =>
      rw [ef] at h
      dsimp only at h ⊢
      intro vs G1 H1 S1 e1 r1
      split at h
      · rename_i loc1 w1 eo1
        obtain ⟨y1, hy1, q1, ey1, gq1, hq1, row1⟩ := S1.sl i _ eo1
        subst ey1
        cases slot_fn hy hy1
        refine ⟨G1, q, w1, vs, ds, rfl, by rw [r1.length]; exact hl _ _ ef, S1.ex, gq1, (by rw [kk]; exact row1), r1, ?_⟩
        cases em : m w1 ds with
        | no => rw [em] at h; exact h
        | exc x => rw [em] at h; exact h
        | ok d w2 =>
          rw [em] at h
          intro v G2 H2 gr row2 rv
          rw [kk] at row2
          obtain ⟨o1, ho1, nt1, _⟩ := row1.some
          have gq2 : G2 q = none := by
            cases e : G2 q with
            | none => rfl
            | some u =>
              rcases gr.new q u e with z | z
              · rw [gq1] at z; cases z
              · exact NtA.ad ⟨o1, ho1, nt1⟩ z
          refine h v G2 H2 ?_ (e1.trans gr.g) rv
          have hpin : c.H0 q = none ∨ c.P q := by cases loc1 with | true => exact .inl hq1 | false => exact .inr hq1
          refine ⟨gr.gh, S1.ex0.trans gr.g, fun a o ha na => ?_, fun a o ha => ?_, fun a ha => ?_, by simp [S1.len], fun jj t et => ?_, fun a b s t pp ea eb ma mb xa xb => ?_⟩
          · refine gr.h a o (fun z => ?_) (S1.old a o ha na)
            subst z
            rcases hpin with z | z
            · rw [z] at ha; cases ha
            · exact na z
          · rcases gr.new a o ha with z | z
            · exact S1.new a o z
            · right
              cases e : c.H0 a with
              | none => exact .inl e
              | some u =>
                by_cases hp : c.P a
                · exact (S1.pin a hp).2.ad z
                · rcases z with z | ⟨xs, z⟩
                  · rw [S1.old a u e hp] at z; cases z
                  · rw [S1.old a u e hp] at z; cases z; exact .inr ⟨xs, e⟩
          · obtain ⟨⟨g1, g2⟩, u, hu, nt⟩ := S1.pin a ha
            refine ⟨⟨?_, g2⟩, ?_⟩
            · cases e : G2 a with
              | none => rfl
              | some u2 =>
                rcases gr.new a u2 e with z | z
                · rw [g1] at z; cases z
                · exact NtA.ad ⟨u, hu, nt⟩ z
            · by_cases z : a = q
              · subst z; obtain ⟨o2, ho2, nt2, _⟩ := row2.some; exact ⟨o2, ho2, nt2⟩
              · exact ⟨u, gr.h a u z hu, nt⟩
          · by_cases z : i = jj
            · subst z
              have hi : i < ρ1.length := (List.getElem?_eq_some_iff.mp eo1).1
              rw [List.getElem?_set_self hi] at et
              cases et
              exact ⟨_, hy, q, rfl, gq2, hq1, row2⟩
            · rw [List.getElem?_set_ne z] at et
              obtain ⟨y2, hy2, ok2⟩ := S1.sl jj t et
              refine ⟨y2, hy2, ?_⟩
              have far : ∀ {r}, isMut t = true → y2 = some (.ref r) → r ≠ q := fun {r} mt ey z2 => by
                subst z2; subst ey
                exact z (S1.apart i jj _ t r eo1 et rfl mt hy hy2)
              have keep : ∀ {r o}, G1 r = none → r ≠ q → H1 r = some o → (∀ xs, o ≠ .tup xs) → G2 r = none ∧ H1 r = H2 r := fun {r o} gn ne ho nt => by
                refine ⟨?_, by rw [ho, gr.h _ _ ne ho]⟩
                cases e : G2 r with
                | none => rfl
                | some u =>
                  rcases gr.new r u e with zz | zz
                  · rw [gn] at zz; cases zz
                  · exact NtA.ad ⟨o, ho, nt⟩ zz
              cases t with
              | un => trivial
              | dat d => obtain ⟨v, e1, r⟩ := ok2; exact ⟨v, e1, r.mono gr.g⟩
              | scr l => obtain ⟨v, e1, r⟩ := ok2; exact ⟨v, e1, sqL_ex gr.g r⟩
              | own d => obtain ⟨r, e1, gn, h0, ow⟩ := ok2; obtain ⟨o, ho, nt, _⟩ := ow.some; have kk := keep gn (far rfl e1) ho nt; exact ⟨r, e1, kk.1, h0, ow.mono gr.g kk.2⟩
              | par l d => obtain ⟨r, e1, gn, h0, ow⟩ := ok2; obtain ⟨o, ho, nt, _⟩ := ow.some; have kk := keep gn (far rfl e1) ho nt; exact ⟨r, e1, kk.1, h0, ow.mono gr.g kk.2⟩
          · have old : ∀ {kk t}, (ρ1.set i (.par loc1 w2))[kk]? = some t → isMut t = true → ∃ t', ρ1[kk]? = some t' ∧ isMut t' = true := fun {kk t} e mt => by
              by_cases z : i = kk
              · subst z; exact ⟨_, eo1, rfl⟩
              · rw [List.getElem?_set_ne z] at e; exact ⟨t, e, mt⟩
            obtain ⟨s', ea', ma'⟩ := old ea ma
            obtain ⟨t', eb', mb'⟩ := old eb mb
            exact S1.apart a b s' t' pp ea' eb' ma' mb' xa xb
      · exact h.elim
  · exact h.elim
end
/-! ### defs -/
def rho (n : Nat) (ds : List PyData) : Env := ds.map .dat ++ List.replicate (n - ds.length) .un
def outF : Out → Rf
  | .rt d _ => .ok d
  | .nx _ => .ok .none
  | .exc e _ => .exc e
  | _ => .no
def runF (n : Nat) (g : SM) (ds : List PyData) : Rf := outF (g (rho n ds))
def rhoW (n : Nat) (w : Drw) (ds : List PyData) : Env := .par false w :: (ds.map .dat ++ List.replicate (n - (ds.length + 1)) .un)
def outW : Out → Rw
  | .rt d (.par false w :: _) => .ok d w
  | .nx (.par false w :: _) => .ok .none w
  | _ => .no
def runW (n : Nat) (g : SM) (w : Drw) (ds : List PyData) : Rw := outW (g (rhoW n w ds))
theorem rho_sl {κ : PySem.W.Frag} {c : Fc κ} {G H : Hp} : ∀ {vs : List V} {ds : List PyData} {n : Nat}, RpA G vs ds → ∀ (i : Nat) s, (ds.map Sl.dat ++ List.replicate n .un)[i]? = some s → ∃ x, (vs.map some ++ List.replicate n none : L2.St)[i]? = some x ∧ SlOk c G H x s ∧ isMut s = false
  | _, _, n, .nil, i, s, e => by
    simp only [List.map_nil, List.nil_append] at e ⊢
    rw [List.getElem?_replicate] at e ⊢
    split at e
    · cases e; rw [if_pos (by assumption)]; exact ⟨none, rfl, trivial, rfl⟩
    · cases e
  | _, _, n, .cons h t, 0, s, e => by
    simp at e; subst e
    exact ⟨_, rfl, ⟨_, rfl, h⟩, rfl⟩
  | _, _, n, .cons h t, i + 1, s, e => by
    obtain ⟨x, hx, ok⟩ := rho_sl (c := c) (H := H) (n := n) t i s (by simpa using e)
    exact ⟨x, by simpa using hx, ok⟩
theorem start_ok {κ : PySem.W.Frag} {N : List Str} {G H : Hp} {vs : List V} {ds : List PyData} (ex : Ex G H) (r : RpA G vs ds) (hN : ds.length ≤ N.length) : Stt (⟨H, G, fun _ => False⟩ : Fc κ) G H (L2.start N vs) (rho N.length ds) where
  ex := ex
  ex0 := .refl G
  old := fun a o h _ => h
  new := fun a o h => .inl h
  pin := fun a h => h.elim
  len := by unfold L2.start rho; simp [r.length]
  sl := fun i s e => by
    unfold rho at e
    unfold L2.start
    rw [r.length]
    obtain ⟨x, hx, ok, _⟩ := rho_sl r i s e
    exact ⟨x, hx, ok⟩
  apart := fun i j s t p e1 _ m1 _ _ _ => by
    unfold rho at e1
    obtain ⟨x, hx, ok, nm⟩ := rho_sl (c := (⟨H, G, fun _ => False⟩ : Fc κ)) (H := H) r i s e1
    rw [nm] at m1; cases m1
theorem Stt.grown {κ : PySem.W.Frag} {G H G' H' : Hp} {σ : L2.St} {ρ : Env} (S : Stt (⟨H, G, fun _ => False⟩ : Fc κ) G' H' σ ρ) : Gr G H G' H' :=
  ⟨S.ex0, fun a o h => S.old a o h (fun z => z), S.ex, S.new⟩
theorem startW_ok {κ : PySem.W.Frag} {N : List Str} {G H : Hp} {p : Addr} {w : Drw} {vs : List V} {ds : List PyData} (ex : Ex G H) (gp : G p = none) (row : RowAt κ G H p w) (r : RpA G vs ds) (hN : ds.length + 1 ≤ N.length) : Stt (⟨H, G, fun a => a = p⟩ : Fc κ) G H (L2.start N (.ref p :: vs)) (rhoW N.length w ds) where
  ex := ex
  ex0 := .refl G
  old := fun a o h _ => h
  new := fun a o h => .inl h
  pin := fun a h => by
    obtain ⟨o, ho, nt, _⟩ := row.some
    have h' : a = p := h
    subst h'
    exact ⟨⟨gp, o, ho, nt⟩, o, ho, nt⟩
  len := by unfold L2.start rhoW; simp [r.length]
  sl := fun i s e => by
    unfold rhoW at e
    unfold L2.start
    cases i with
    | zero => simp at e; subst e; exact ⟨_, rfl, p, rfl, gp, rfl, row⟩
    | succ i =>
      have e' : (ds.map Sl.dat ++ List.replicate (N.length - (ds.length + 1)) .un)[i]? = some s := by simpa using e
      obtain ⟨x, hx, ok, _⟩ := rho_sl (c := (⟨H, G, fun a => a = p⟩ : Fc κ)) (H := H) r i s e'
      refine ⟨x, ?_, ok⟩
      rw [List.length_cons, r.length]
      simpa using hx
  apart := fun i j s t q e1 e2 m1 m2 _ _ => by
    unfold rhoW at e1 e2
    have z : ∀ {i s}, (Sl.par false w :: (ds.map Sl.dat ++ List.replicate (N.length - (ds.length + 1)) .un))[i]? = some s → isMut s = true → i = 0 := fun {i s} e m => by
      cases i with
      | zero => rfl
      | succ i =>
        have e' : (ds.map Sl.dat ++ List.replicate (N.length - (ds.length + 1)) .un)[i]? = some s := by simpa using e
        obtain ⟨x, hx, ok, nm⟩ := rho_sl (c := (⟨H, G, fun a => a = p⟩ : Fc κ)) (H := H) r i s e'
        rw [nm] at m; cases m
    rw [z e1 m1, z e2 m2]
section
variable {w : World} {P : Program} {K : PySem.W.Frag} {base : Heap} {mg : Str → Option Value}
/-- the context of a def's body fits -/
theorem fit_def {N : List Str} {qual : Str} {scope : Scope} {f : Addr} {cd : Value} {A : Around} {outer : List PySem.Env} {s : Shared} {H : Hp} {E : XK} {k : Nat} (nd : N.Nodup) (hr : Room k (A.deeper (envOfC qual scope s.heap.objs.size f cd))) :
    Fit (cxOf (L2.CX P w) P w K mg base N qual scope f cd A outer s H E) mg ⟨fun cls d _ H => E cls d H, K⟩ k :=
  ⟨rfl, rfl, nd, takes_of rfl rfl rfl rfl, rfl, hr, passes_of rfl⟩
/-- a def of the text, its body as a term -/
theorem def_ok {x : Str} {st : Stmt} {f : Addr} {fd : FuncData} {N ps : List Str} {k n : Nat} {g : SM} (Fn : Fun K x x st f fd) (hx : mg x = some (.ref f)) (S : FnScope N ps (defScope st)) (hn : ps.length = n) (hN : n ≤ N.length)
    (bind : ∀ (kV doc pm : Value) (an : Option Addr) (cdv ct : Value) (us : List Value), us.length = ps.length → bindArgs (PySem.W.fnOf x x (defArgs st) (defBody st) (defScope st) .none kV doc pm an cdv ct) ⟨us, []⟩ = pure (ps.zip us))
    (body : ∀ X : Cx, (∃ cdv A outer s H E, X = cxOf (L2.CX P w) P w K mg base N x (defScope st) f cdv A outer s H E) → ∀ W : WK, Fit X mg W k → PSs X (defBody st) (sOf mg W g)) : DefD P w K mg base (k + 1) x n (runF N.length g) := by
  refine ⟨f, fd, ps, hx, Fn.kp, Fn.binds bind, Fn.okX S (fun vs H Q E h => ?_) fun cdv A outer s H vs Q E hr h => ⟨_, body _ ⟨cdv, A, outer, s, H, E, rfl⟩ ⟨fun cls d _ H => E cls d H, K⟩ (fit_def S.nd hr), ?_⟩⟩
  · obtain ⟨G, ds, hl, _⟩ := h
    rw [hl, hn]
  · obtain ⟨G, ds, hl, ex, r, h⟩ := h
    refine ⟨_, G, _, start_ok ex r (by rw [← r.length, hl]; exact hN), ?_⟩
    unfold runF at h
    cases e : g (rho N.length ds) with
    | nx ρ => rw [e] at h; exact fun σ' G' H' S' _ => h _ G' H' S'.grown .non
    | rt d ρ => rw [e] at h; exact fun v σ' G' H' S' _ rp => h v G' H' S'.grown rp
    | bk ρ => rw [e] at h; exact h.elim
    | ct ρ => rw [e] at h; exact h.elim
    | exc x ρ => rw [e] at h; exact fun cls dd σ' G' H' S' _ rx => h cls dd G' H' S'.grown rx
    | no => rw [e] at h; exact h
theorem Stt.grownP {κ : PySem.W.Frag} {G H G' H' : Hp} {p : Addr} {σ : L2.St} {ρ : Env} {w : Drw} (S : Stt (⟨H, G, fun a => a = p⟩ : Fc κ) G' H' σ (.par false w :: ρ)) : GrP p G H G' H' ∧ RowAt κ G' H' p w := by
  refine ⟨⟨S.ex0, fun a o z h => S.old a o h z, S.ex, S.new⟩, ?_⟩
  obtain ⟨x, hx, q, e, gq, hq, row⟩ := S.sl 0 _ rfl
  have hq' : q = p := hq
  subst hq'
  exact row
theorem defW_ok {x : Str} {st : Stmt} {f : Addr} {fd : FuncData} {N ps : List Str} {k n : Nat} {g : SM} (Fn : Fun K x x st f fd) (hx : mg x = some (.ref f)) (S : FnScope N ps (defScope st)) (hn : ps.length = n + 1) (hN : n + 1 ≤ N.length)
    (bind : ∀ (kV doc pm : Value) (an : Option Addr) (cdv ct : Value) (us : List Value), us.length = ps.length → bindArgs (PySem.W.fnOf x x (defArgs st) (defBody st) (defScope st) .none kV doc pm an cdv ct) ⟨us, []⟩ = pure (ps.zip us))
    (body : ∀ X : Cx, (∃ cdv A outer s H E, X = cxOf (L2.CX P w) P w K mg base N x (defScope st) f cdv A outer s H E) → ∀ W : WK, Fit X mg W k → PSs X (defBody st) (sOf mg W g)) : DefW P w K mg base (k + 1) x n (runW N.length g) := by
  refine ⟨f, fd, ps, hx, Fn.kp, Fn.binds bind, Fn.okX S (fun vs H Q E h => ?_) fun cdv A outer s H vs Q E hr h => ⟨_, body _ ⟨cdv, A, outer, s, H, E, rfl⟩ ⟨fun cls d _ H => E cls d H, K⟩ (fit_def S.nd hr), ?_⟩⟩
  · obtain ⟨G, p, w, rest, ds, e, hl, _⟩ := h
    rw [e, List.length_cons, hl, hn]
  · obtain ⟨G, p, w, rest, ds, e, hl, ex, gp, row, r, h⟩ := h
    subst e
    refine ⟨_, G, _, startW_ok ex gp row r (by rw [← r.length, hl]; exact hN), ?_⟩
    unfold runW at h
    generalize g (rhoW N.length w ds) = o at h
    unfold outW at h
    split at h
    · rename_i heq
      split at heq
      · cases heq
        exact fun v σ' G' H' S' _ rp => h v G' H' S'.grownP.1 S'.grownP.2 rp
      · cases heq
        exact fun σ' G' H' S' _ => h _ G' H' S'.grownP.1 S'.grownP.2 .non
      · cases heq
    · exact h.elim
    · exact h.elim
end
end Pu
end TP9

section TP10
set_option Elab.async false
set_option linter.all false
set_option maxRecDepth 100000
set_option maxHeartbeats 4200000
namespace Pu
open PyProof.Rows L2 PySem PySem.Spec

/-! ### a dict of data is locked while it is walked -/
structure Swp {κ : PySem.W.Frag} (c c' : Fc κ) (d : Addr) (o o2 : HO) : Prop where
  p : c'.P = c.P
  np : ¬ c.P d
  h : ∀ a, a ≠ d → c'.H0 a = c.H0 a
  g : ∀ a, a ≠ d → c'.G0 a = c.G0 a
  h2 : ∀ u, c'.H0 d = some u → u = o2
  g2 : ∀ u, c'.G0 d = some u → u = o2
  n : c'.G0 d = some o2 ∨ Ad c'.H0 d
  f1 : ∀ xs, o ≠ .tup xs
  f2 : ∀ xs, o ≠ .lst xs
  f3 : ∀ xs od, o ≠ .frz od (.lst xs)
  f4 : ∀ ws, (o = .dT ws ∨ ∃ od, o = .frz od (.dT ws)) → (o2 = .dT ws ∨ ∃ od, o2 = .frz od (.dT ws))
section
variable {κ : PySem.W.Frag} {c c' : Fc κ} {d : Addr} {o o2 : HO} {G H : Hp} {σ : L2.St} {ρ : Env}
theorem Swp.rp (s : Swp c c' d o o2) (hg : G d = some o) : (∀ {v x}, Rp G v x → Rp (upd G d o2) v x) ∧ (∀ {v x}, RpA G v x → RpA (upd G d o2) v x) ∧ (∀ {v x}, RpK G v x → RpK (upd G d o2) v x) := by
  have e1 : ∀ a ws, Rd G a (.dT ws) → Rd (upd G d o2) a (.dT ws) := fun a ws h => by
    by_cases z : a = d
    · subst z
      rcases h with h | ⟨od, h⟩
      · rw [hg] at h; cases h
        rcases s.f4 ws (.inl rfl) with z | ⟨od, z⟩
        · exact .inl (by rw [upd_same, z])
        · exact .inr ⟨od, by rw [upd_same, z]⟩
      · rw [hg] at h; cases h
        rcases s.f4 ws (.inr ⟨od, rfl⟩) with z | ⟨od, z⟩
        · exact .inl (by rw [upd_same, z])
        · exact .inr ⟨od, by rw [upd_same, z]⟩
    · rcases h with h | ⟨od, h⟩
      · exact .inl (by rw [upd_ne z]; exact h)
      · exact .inr ⟨od, by rw [upd_ne z]; exact h⟩
  have e2 : ∀ a xs, G a = some (.tup xs) → upd G d o2 a = some (.tup xs) := fun a xs h => by
    rw [upd_ne (fun z => by subst z; rw [hg] at h; cases h; exact s.f1 xs rfl)]; exact h
  have e3 : ∀ a xs, G a = some (.lst xs) → upd G d o2 a = some (.lst xs) := fun a xs h => by
    rw [upd_ne (fun z => by subst z; rw [hg] at h; cases h; exact s.f2 xs rfl)]; exact h
  exact ⟨fun r => r.lock e1 e2 e3, fun r => r.lock e1 e2 e3, fun r => r.lock e1 e2 e3⟩
theorem Stt.swap (S : Stt c G H σ ρ) (s : Swp c c' d o o2) (hg : G d = some o) : Stt c' (upd G d o2) (upd H d o2) σ ρ := by
  obtain ⟨rp, rpa, rpk⟩ := s.rp hg
  have hh : H d = some o := S.ex _ _ hg
  have rdl : ∀ {a xs}, Rd G a (.lst xs) → Rd (upd G d o2) a (.lst xs) := fun {a xs} h => by
    have z : a ≠ d := fun z => by
      subst z
      rcases h with h | ⟨od, h⟩
      · rw [hg] at h; cases h; exact s.f2 xs rfl
      · rw [hg] at h; cases h; exact s.f3 xs od rfl
    rcases h with h | ⟨od, h⟩
    · exact .inl (by rw [upd_ne z]; exact h)
    · exact .inr ⟨od, by rw [upd_ne z]; exact h⟩
  refine ⟨fun a u e => ?_, fun a u e => ?_, fun a u e n => ?_, fun a u e => ?_, fun a h => ?_, S.len, fun i t e => ?_, S.apart⟩
  · by_cases z : a = d
    · subst z; rw [upd_same] at e ⊢; exact e
    · rw [upd_ne z] at e ⊢; exact S.ex a u e
  · by_cases z : a = d
    · subst z; rw [upd_same, s.g2 u e]
    · rw [upd_ne z]; rw [s.g a z] at e; exact S.ex0 a u e
  · by_cases z : a = d
    · subst z; rw [upd_same, s.h2 u e]
    · rw [upd_ne z]; rw [s.h a z] at e; exact S.old a u e (by rw [s.p] at n; exact n)
  · by_cases z : a = d
    · subst z; rw [upd_same] at e; cases e; exact s.n
    · rw [upd_ne z] at e
      unfold Ad
      rw [s.g a z, s.h a z]
      exact S.new a u e
  · rw [s.p] at h
    have z : a ≠ d := fun z => s.np (by rw [← z]; exact h)
    obtain ⟨⟨g1, g2⟩, k⟩ := S.pin a h
    unfold NtA
    rw [upd_ne z, upd_ne z, s.h a z]
    exact ⟨⟨g1, g2⟩, k⟩
  · obtain ⟨x, hx, ok⟩ := S.sl i t e
    refine ⟨x, hx, ?_⟩
    have oth : ∀ {p}, G p = none → p ≠ d := fun {p} gn z => by subst z; rw [hg] at gn; cases gn
    cases t with
    | un => trivial
    | dat x => obtain ⟨v, e1, r⟩ := ok; exact ⟨v, e1, rp r⟩
    | own x =>
      obtain ⟨p, e1, gn, h0, ow⟩ := ok
      have z := oth gn
      refine ⟨p, e1, by rw [upd_ne z]; exact gn, by rw [s.h p z]; exact h0, ?_⟩
      cases x with
      | list ds => obtain ⟨l, vs, h, r⟩ := ow; exact ⟨l, vs, by rw [upd_ne z]; exact h, rpa r⟩
      | dict ds => obtain ⟨l, vs, h, r⟩ := ow; exact ⟨l, vs, by rw [upd_ne z]; exact h, rpk r⟩
      | _ => cases ow
    | par l w =>
      obtain ⟨p, e1, gn, h0, sa, row, rd⟩ := ok
      have z := oth gn
      refine ⟨p, e1, by rw [upd_ne z]; exact gn, ?_, sa, by rw [upd_ne z]; exact row, rd.elim (fun z => .inl (rdl z)) .inr⟩
      cases l with
      | true => show c'.H0 p = none; rw [s.h p z]; exact h0
      | false => show c'.P p; rw [s.p]; exact h0
    | scr l => obtain ⟨p, e1, rd⟩ := ok; exact ⟨p, e1, rd.elim (fun z => .inl (rdl z)) .inr⟩
end
open Classical in
/-- the context under the lock -/
noncomputable def lockC {κ : PySem.W.Frag} (c : Fc κ) (d : Addr) (o2 : HO) : Fc κ := ⟨if c.H0 d = none then c.H0 else upd c.H0 d o2, if c.G0 d = none then c.G0 else upd c.G0 d o2, c.P⟩
section
variable {κ : PySem.W.Frag} {c : Fc κ} {d : Addr} {ws : List (List Key × V)} {od : Obj} {G H : Hp} {σ : L2.St} {ρ : Env}
theorem Stt.locked (S : Stt c G H σ ρ) (hg : G d = some (.dT ws)) : Swp c (lockC c d (.frz od (.dT ws))) d (.dT ws) (.frz od (.dT ws)) ∧ Swp (lockC c d (.frz od (.dT ws))) c d (.frz od (.dT ws)) (.dT ws) := by
  have hh : H d = some (.dT ws) := S.ex _ _ hg
  have np : ¬ c.P d := fun h => by have := (S.pin d h).1.1; rw [hg] at this; cases this
  have c0 : c.H0 d = none ∨ c.H0 d = some (.dT ws) := by
    cases e : c.H0 d with
    | none => exact .inl rfl
    | some u => have := S.old d u e np; rw [hh] at this; cases this; exact .inr rfl
  have c1 : c.G0 d = none ∨ c.G0 d = some (.dT ws) := by
    cases e : c.G0 d with
    | none => exact .inl rfl
    | some u => have := S.ex0 d u e; rw [hg] at this; cases this; exact .inr rfl
  have nw : c.G0 d = some (.dT ws) ∨ c.H0 d = none := by
    rcases S.new d _ hg with q | q | ⟨xs, q⟩
    · rw [q]; exact .inl rfl
    · exact .inr q
    · rcases c0 with z | z
      · rw [z] at q; cases q
      · rw [z] at q; cases q
  have hH : ∀ a, a ≠ d → (lockC c d (.frz od (.dT ws))).H0 a = c.H0 a := fun a z => by
    unfold lockC; dsimp only; split
    · rfl
    · rw [upd_ne z]
  have hG : ∀ a, a ≠ d → (lockC c d (.frz od (.dT ws))).G0 a = c.G0 a := fun a z => by
    unfold lockC; dsimp only; split
    · rfl
    · rw [upd_ne z]
  constructor
  · refine ⟨rfl, np, hH, hG, fun u e => ?_, fun u e => ?_, ?_, (fun _ z => nomatch z), (fun _ z => nomatch z), (fun _ _ z => nomatch z), fun ws' h => ?_⟩
    · unfold lockC at e; dsimp only at e; split at e
      · rename_i z; rw [z] at e; cases e
      · rw [upd_same] at e; cases e; rfl
    · unfold lockC at e; dsimp only at e; split at e
      · rename_i z; rw [z] at e; cases e
      · rw [upd_same] at e; cases e; rfl
    · rcases nw with z | z
      · left; unfold lockC; dsimp only; rw [if_neg (by rw [z]; exact fun z => nomatch z), upd_same]
      · right; left; unfold lockC; dsimp only; rw [if_pos z]; exact z
    · rcases h with h | ⟨od', h⟩
      · cases h; exact .inr ⟨od, rfl⟩
      · cases h
  · refine ⟨rfl, np, fun a z => (hH a z).symm, fun a z => (hG a z).symm, fun u e => ?_, fun u e => ?_, ?_, (fun _ z => nomatch z), (fun _ z => nomatch z), (fun _ _ z => nomatch z), fun ws' h => ?_⟩
    · rcases c0 with z | z <;> rw [z] at e <;> cases e; rfl
    · rcases c1 with z | z <;> rw [z] at e <;> cases e; rfl
    · rcases nw with z | z
      · exact .inl z
      · exact .inr (.inl z)
    · rcases h with h | ⟨od', h⟩
      · cases h
      · cases h; exact .inl rfl
end
/-- a walk over the keys -/
theorem itk_ok {d : Addr} {od : Obj} {ws : List (List Key × V)} {kvs : List (PyData × PyData)} {G1 : Hp} (hg : G1 d = some (.frz od (.dT ws))) (r : RpK G1 ws kvs) : ItOk (Itkt d od ws) (kvs.map (·.1)) G1 := fun i G H e1 e2 => by
  have hH : H d = some (.frz od (.dT ws)) := e2 _ _ (e1 _ _ hg)
  have hl := r.length
  refine ⟨fun x hx => ?_, fun hi => ⟨hH, by rw [hl, hi, List.length_map]; exact Nat.le_refl _⟩⟩
  have hi : i < ws.length := by have := (List.getElem?_eq_some_iff.mp hx).1; rw [List.length_map] at this; omega
  have key : ∀ {ws : List (List Key × V)} {kvs : List (PyData × PyData)} {i : Nat} {k v x}, RpK G1 ws kvs → ws[i]? = some (k, v) → (kvs.map (·.1))[i]? = some x → x = keyD k ∧ k.length ≤ LIM := by
    intro ws kvs i k v x r
    induction i generalizing ws kvs with
    | zero =>
      intro h1 h2
      cases r with
      | nil => cases h1
      | cons l _ _ => simp at h1 h2; obtain ⟨rfl, rfl⟩ := h1; exact ⟨h2.symm, l⟩
    | succ i ih =>
      intro h1 h2
      cases r with
      | nil => cases h1
      | cons l _ t => exact ih t (by simpa using h1) (by simpa using h2)
  refine ⟨⟨hH, hi⟩, fun v H' y => ?_⟩
  obtain ⟨rfl, k, w, q, hk, rfl, hq⟩ := y
  obtain ⟨rfl, kl⟩ := key r hk hx
  refine ⟨upd G q (.tup (k.map kV)), ⟨fun a u e => ?_, .refl _, fun a u e => ?_, fun a u e => ?_⟩, ?_⟩
  · by_cases z : a = q
    · subst z; rw [upd_same]; rw [← hq]; exact e2 _ _ e
    · rw [upd_ne z]; exact e
  · by_cases z : a = q
    · subst z; rw [upd_same] at e; rw [← e]; exact hq
    · rw [upd_ne z] at e; exact e2 a u e
  · by_cases z : a = q
    · subst z; exact .inr (.inr ⟨_, hq⟩)
    · rw [upd_ne z] at e; exact .inl e
  · refine .tup upd_same (by rw [List.length_map]; exact kl) ?_
    have : ∀ ks : List Key, RpA (upd G q (.tup (k.map kV))) (ks.map kV) (ks.map keyV1) := fun ks => by
      induction ks with
      | nil => exact .nil
      | cons a ks ih =>
        cases a with
        | inl i => exact .cons (.int i) ih
        | inr x => exact .cons (.str x) ih
    exact this k
/-! ### for k in d -/
def sForD (i : Nat) (g : TM) (b : SM) : SM := fun ρ => match ρ[i]? with
  | some (.dat (.dict kvs)) => (match sForL g b (kvs.map (·.1)) ρ with
    | .exc _ _ => .no
    | o => o)
  | _ => .no
section
variable {X : Cx} {mg : Str → Option Value} {W : WK} {k : Nat} {pos : Pos}
theorem s_forD {i : Nat} {x : Str} {p : Pos} {tg : Expr} {body : List Stmt} {t : TG} {g : TM} {js : List Nat} {b : SM} (F : Fit X mg W k) (hN : X.N[i]? = some x) (hv : Vis X.env.scope x) (hg : PG X tg t) (ok : TgOk t g js) (hb : PSs X body (sOf mg W b)) (hs : ∀ v, foldedSetIterable (.Name x p) X.env v = pure v := by intro _; rfl)
    (hd : (x == ("__debug__" : Str)) = false := by decide) (hcd : (x == ("__classdict__" : Str)) = false := by decide) : PS X (.For tg (.Name x p) body [] pos) (sOf mg W (sForD i g b)) := by
  have h0 := ps_for (pos := pos) F.own F.calm (pi_keys (tg := tg) (pe_var (pos := p) hN hv hd hcd)) hg hb hs
  refine (PS.or (ps_lock h0) h0).imp fun D σ H ⟨c, G, ρ, S, h⟩ => ?_
  unfold sForD at h
  split at h
  · rename_i kvs e
    obtain ⟨y, hy, v, rfl, r⟩ := S.sl i _ e
    cases r with
    | @dic d ws _ hd l q =>
    have h' : OutOk mg W c G D (sForL g b (kvs.map (·.1)) ρ) ∧ ∀ e ρ', sForL g b (kvs.map (·.1)) ρ ≠ .exc e ρ' := by
      cases eo : sForL g b (kvs.map (·.1)) ρ with
      | exc z ρ' => rw [eo] at h; exact h.elim
      | nx _ => rw [eo] at h; exact ⟨h, fun _ _ z => nomatch z⟩
      | rt _ _ => rw [eo] at h; exact ⟨h, fun _ _ z => nomatch z⟩
      | bk _ => rw [eo] at h; exact ⟨h, fun _ _ z => nomatch z⟩
      | ct _ => rw [eo] at h; exact ⟨h, fun _ _ z => nomatch z⟩
      | no => rw [eo] at h; exact h.elim
    obtain ⟨h1, h2⟩ := h'
    rcases hd with hd | ⟨od, hd⟩
    · left
      refine ⟨d, .dT ws, S.ex _ _ hd, trivial, fun od => ?_⟩
      obtain ⟨s1, s2⟩ := S.locked (od := od) hd
      have SL := S.swap s1 hd
      have rpl := s1.rp hd
      refine ⟨_, hy, d, od, rfl, .inr ⟨ws, upd_same, ?_⟩⟩
      refine r_for (W := W) (mg := mg) (itk_ok upd_same (rpl.2.2 q)) SL ok ?_
      have back : ∀ {G' H' σ' ρ'}, Stt (lockC c d (.frz od (.dT ws))) G' H' σ' ρ' → Ex (upd G d (.frz od (.dT ws))) G' → H' d = some (.frz od (.dT ws)) ∧ Stt c (upd G' d (.dT ws)) (upd H' d (.dT ws)) σ' ρ' ∧ Ex G (upd G' d (.dT ws)) ∧ (∀ {v x}, Rp G' v x → Rp (upd G' d (.dT ws)) v x) := fun {G' H' σ' ρ'} S' e' => by
        have hd' : G' d = some (.frz od (.dT ws)) := e' _ _ upd_same
        refine ⟨S'.ex _ _ hd', S'.swap s2 hd', fun a u ea => ?_, (s2.rp hd').1⟩
        by_cases z : a = d
        · subst z; rw [hd] at ea; cases ea; exact upd_same
        · rw [upd_ne z]; exact e' a u (by rw [upd_ne z]; exact ea)
      cases eo : sForL g b (kvs.map (·.1)) ρ with
      | exc z ρ' => exact absurd eo (h2 z ρ')
      | nx ρ' => rw [eo] at h1; exact fun σ' G' H' S' e' => let ⟨b1, b2, b3, _⟩ := back S' e'; ⟨b1, h1 _ _ _ b2 b3⟩
      | rt x ρ' => rw [eo] at h1; exact fun v σ' G' H' S' e' rv => let ⟨b1, b2, b3, b4⟩ := back S' e'; ⟨b1, h1 _ _ _ _ b2 b3 (b4 rv)⟩
      | bk ρ' => rw [eo] at h1; exact fun σ' G' H' S' e' => let ⟨b1, b2, b3, _⟩ := back S' e'; ⟨b1, h1 _ _ _ b2 b3⟩
      | ct ρ' => rw [eo] at h1; exact fun σ' G' H' S' e' => let ⟨b1, b2, b3, _⟩ := back S' e'; ⟨b1, h1 _ _ _ b2 b3⟩
      | no => rw [eo] at h1; exact h1
    · right
      exact ⟨_, hy, d, od, rfl, .inr ⟨ws, S.ex _ _ hd, r_for (itk_ok hd q) S ok h1⟩⟩
  · exact h.elim
end
end Pu
end TP10

section TP11
set_option Elab.async false
set_option linter.all false
set_option maxRecDepth 100000
set_option maxHeartbeats 4200000
namespace Pu
open PyProof.Rows L2 PySem PySem.Spec

/-! ### {k: v for target in ..}, the keys tuples of ints and texts -/
theorem storeT {X : Cx} {pins : List (Addr × Obj)} {τ : L2.St} {H : Hp} {s : Shared} {E : Value → Shared → Prop} {D b : Addr} {ws : List (List Key × V)} {ks : List Key} {v : V} {r : Value} {Q : Unit → Shared → Prop}
    (hu : X.A.units < cLine) (J : Inv X pins τ H s) (hD : H D = some (.dT ws)) (hl : ws.length < sizeLine) (hb : H b = some (.tup (ks.map kV))) (rv : RelV v r)
    (h : ∀ s', Inv X pins τ (upd H D (.dT (putK ws ks v))) s' → Q () s') : wpAny (model X.prog X.w) X.A (dictSet D (.ref b) r) Q E s := by
  obtain ⟨z, hd, xs, rel, dd⟩ := dt_of J.hok hD
  have l1 : xs.length ≤ sizeLine := by rw [← Paired.length rel]; exact z
  have l2 : (putK ws ks v).length ≤ sizeLine := by have := length_putK ws ks v; omega
  refine wpAny_dictSet_heap (knd := tupleKind (mixKind X.prog X.w)) (hsz := l1) hu (key_of J.hok hb) dd fun h' dd' hs => h _ ?_
  obtain ⟨q, es, ep, hq, a2, a3, a4, _, a5⟩ := dd'
  refine d_write J (by rw [hD]; trivial) hs ⟨q, hq⟩ ⟨l2, hd, _, (rel.put ks hb rv).keeps fun c ys ec => ?_, q, es, ep, hq, a2, a3, a4, a5⟩
  rw [upd_ne (ne_of ec hD (fun z => nomatch z))]
  exact ec
def tDcT (wi : TI) (g : TG) (tt : TT) (tk tv : TE) (vs : List Nat) : TE := fun σ H Q => wi σ H fun J H1 => ∀ D, H1 D = none →
  ∃ I : Nat → Nat → Hp → Prop, (∃ m, I 0 m (upd H1 D (.dT []))) ∧ ∀ i m H, I i m H → (J.stop i H ∧ Q (.ref D) H) ∨
    (J.go i H ∧ ∃ Nx : Hp → Prop, (∀ H', Nx H' → ∃ m', m' < m ∧ I (i + 1) m' H') ∧ ∀ x H', J.yld i H x H' → g x (L2.wipe σ vs) H' fun σ2 H2 => L2.wipe σ2 vs = L2.wipe σ vs ∧ tt σ2 H2 fun b H3 =>
      if b = true then tk σ2 H3 fun y H4 => tv σ2 H4 fun z H5 => ∃ ws b ks, y = .ref b ∧ H5 b = some (.tup (ks.map kV)) ∧ H5 D = some (.dT ws) ∧ ws.length < sizeLine ∧ Nx (upd H5 D (.dT (putK ws ks z))) else Nx H3)
section
variable {X : Cx} {s3 : Shared} {H3 : Hp} {scope : Scope} {ce : PySem.Env} {fp : List Addr}
/-- the iterator's cells, seen from the block -/
theorem blk_fp {τ : L2.St} {H' : Hp} {s' : Shared} (I' : Inv (X.blk s3 H3 scope ce fp) [] τ H' s') (hn : ∀ b ∈ fp, H' b = none) (b : Addr) (hb : b ∈ fp) : FpOk (X.blk s3 H3 scope ce fp) [] H' b := by
  obtain ⟨e1, e2⟩ := I'.ok.exf b hb
  refine ⟨hn b hb, e1, I'.ok.exfs b hb, .inl hb, e2, fun p hp => ?_⟩
  cases (show p ∈ ([] : List (Addr × Obj)) from hp)
/-- what holds ahead of the turn i -/
structure Ahead (X : Cx) (s3 : Shared) (H3 : Hp) (scope : Scope) (ce : PySem.Env) (fp : List Addr) (tn : Nat → Heap → Prop) (τ : L2.St) (i : Nat) (H' : Hp) (s' : Shared) : Prop where
  inv : Inv (X.blk s3 H3 scope ce fp) [] τ H' s'
  st : tn i s'.heap
  no : ∀ b ∈ fp, H' b = none
/-- a turn is over: what was pinned meanwhile is as it was -/
theorem Ahead.next {tn : Nat → Heap → Prop} {P : Program} {w : World} {K : PySem.W.Frag} {tg : Expr} {J : It} {it : Addr} {vs : List Nat} {σ σ8 : L2.St} {i : Nat} {H' : Hp} {s7 s' : Shared} (T : Turn P w K tg J fp it tn) (st7 : tn (i + 1) s7.heap) (hw : L2.wipe σ8 vs = L2.wipe σ vs)
    (I' : Inv (X.blk s3 H3 scope ce fp) ([] ++ pinsAt fp s7.heap) σ8 H' s') : Ahead X s3 H3 scope ce fp tn (L2.wipe σ vs) (i + 1) H' s' := by
  have same : ∀ b ∈ fp, ∀ o, s7.heap.get? b = some o → s'.heap.get? b = some o ∧ H' b = none := fun b hb o e => by
    obtain ⟨a, c, _⟩ := I'.pin (b, o) (List.mem_append_right _ (List.mem_append_right _ (mem_pinsAt hb e)))
    exact ⟨a, c⟩
  have len : (L2.wipe σ vs).length = σ8.length := hw ▸ wipe_length σ8 vs
  refine ⟨(I'.unpinned (pins := [])).weak len fun j v e => ?_, T.keep _ _ _ st7 fun b hb o e => (same b hb o e).1, fun b hb => ?_⟩
  · exact (wipe_some (hw ▸ e)).1
  · have ⟨o, e, _⟩ := T.obj _ _ st7 b hb
    exact (same b hb o e).2
/-- the block's loop -/
theorem dc_loop {σ : L2.St} {Q : VK} {kx vx tg iter : Expr} {ifs : List Expr} {vs : List Nat} {pos : Pos} {g : TG} {tt : TT} {tk tv : TE} {J : It} {it D : Addr} {tn : Nat → Heap → Prop} {Wt : Nat → Nat → Hp → Prop} {R : Result → Shared → Prop} (hu : X.A.units < cLine) (hc : X.calm = true) (T : Turn X.prog X.w X.K tg J fp it tn)
    (pg : PG (X.blk s3 H3 scope ce fp) tg g) (pt : PTs (X.blk s3 H3 scope ce fp) ifs tt) (pk : PE (X.blk s3 H3 scope ce fp) kx tk) (pv : PE (X.blk s3 H3 scope ce fp) vx tv)
    (turn : ∀ i m H, Wt i m H → (J.stop i H ∧ Q (.ref D) H) ∨ (J.go i H ∧ ∃ Nx : Hp → Prop, (∀ H', Nx H' → ∃ m', m' < m ∧ Wt (i + 1) m' H') ∧ ∀ x H', J.yld i H x H' → g x (L2.wipe σ vs) H' fun σ2 H2 => L2.wipe σ2 vs = L2.wipe σ vs ∧ tt σ2 H2 fun b H3 =>
      if b = true then tk σ2 H3 fun y H4 => tv σ2 H4 fun z H5 => ∃ ws b ks, y = .ref b ∧ H5 b = some (.tup (ks.map kV)) ∧ H5 D = some (.dT ws) ∧ ws.length < sizeLine ∧ Nx (upd H5 D (.dT (putK ws ks z))) else Nx H3))
    (out : ∀ H' s', Inv (X.blk s3 H3 scope ce fp) [] (L2.wipe σ vs) H' s' → Q (.ref D) H' → R (.ok .next) s') {m : Nat} {s4 : Shared} {H4 : Hp} (w0 : Wt 0 m H4) (a0 : Ahead X s3 H3 scope ce fp tn (L2.wipe σ vs) 0 H4 s4) :
    codeAny (model X.prog X.w) X.A (.compLoop (.DictComp kx vx [⟨tg, iter, ifs, 0⟩] scope pos) 0 (.ref it) (.ref D) ce) R s4 := by
  refine compLoop_anyD (fun n s' => ∃ i H', Wt i n H' ∧ Ahead X s3 H3 scope ce fp tn (L2.wipe σ vs) i H' s') ?_ m ⟨0, H4, w0, a0⟩
  rintro n s5 ⟨i, H5, w5, a5⟩
  have own := blk_fp a5.inv a5.no
  rcases turn i n H5 w5 with ⟨stop, q⟩ | ⟨go, Nx, less, body⟩
  · exact thnF (T.done (X.blk s3 H3 scope ce fp) rfl rfl rfl hc i [] s5 _ H5 (fun _ _ => False) a5.inv own a5.st stop) fun r s6 ⟨er, I6⟩ => by
      subst er
      exact out H5 s6 I6 q
  refine thnF (T.item (X.blk s3 H3 scope ce fp) rfl rfl rfl hc i [] s5 _ H5 (fun _ _ => False) a5.inv own a5.st go) fun r s6 ⟨u, er, rest⟩ => ?_
  subst er
  refine thnF rest fun _ s7 ⟨x, H7, I7, rx, yx, st7, no7⟩ => ?_
  have back : ∀ {s' : Shared} {H' : Hp} {σ8 : L2.St}, L2.wipe σ8 vs = L2.wipe σ vs → Inv (X.blk s3 H3 scope ce fp) ([] ++ pinsAt fp s7.heap) σ8 H' s' → Nx H' → ∃ m, m < n ∧ ∃ i H', Wt i m H' ∧ Ahead X s3 H3 scope ce fp tn (L2.wipe σ vs) i H' s' := fun hw I' nx => by
    obtain ⟨m', lt, w'⟩ := less _ nx
    exact ⟨m', lt, i + 1, _, w', .next T st7 hw I'⟩
  refine thnF (pg.run _ s7 _ H7 x u _ (I7.pinned (blk_fp I7 no7) (T.obj _ _ st7)) rx (body x H7 yx)) fun _ s8 ⟨σ8, H8, I8, hw, q8⟩ => ?_
  refine thnF (pt.run _ s8 σ8 H8 _ I8 q8) fun yes s9 ⟨H9, I9, q9⟩ => ?_
  cases yes
  case true =>
    simp only [if_true] at q9 ⊢
    refine thnF (pk.run _ s9 σ8 H9 _ I9 q9) fun z s10 ⟨y, H10, I10, rz, q10⟩ => ?_
    refine thnF (pv.run _ s10 σ8 H10 _ I10 q10) fun z2 s11 ⟨y2, H11, I11, rz2, ws, b, ks, ey, hb, hD, lw, nx⟩ => ?_
    rw [ey] at rz
    rw [show z = Value.ref b from rz]
    exact storeT (X := X.blk s3 H3 scope ce fp) hu I11 hD lw hb rz2 fun _ I12 => back hw I12 nx
  case false =>
    simp only [if_false, Bool.false_eq_true] at q9 ⊢
    exact back hw I9 q9
end
section
variable {X : Cx}
/-- from the iterator to the finished dict -/
theorem dcT_core {pins : List (Addr × Obj)} {s : Shared} {σ : L2.St} {H : Hp} {Q : VK} {kx vx tg iter : Expr} {ifs : List Expr} {scope : Scope} {own : List (Str × Nat)} {pos pos' : Pos} {wi : TI} {g : TG} {tt : TT} {tk tv : TE} {use : Option (Value → Sem Unit)} {Qf : Value → Shared → Prop} (hu : X.A.units < cLine) (hc : X.calm = true) (hN : X.N.Nodup) (I : Inv X pins σ H s) (hi : PI X tg iter wi) (ok : BlkOk X.N X.env.scope scope own)
    (hg : BlkPG X scope tg g) (ht : BlkPTs X scope ifs tt) (hk : BlkPE X scope kx tk) (he : BlkPE X scope vx tv) (hs : ∀ x, foldedSetIterable iter X.env x = pure x) (h : tDcT wi g tt tk tv (own.map (·.2)) σ H Q)
    (last : ∀ D C s' m H', Inv X pins σ H' s' → Q (.ref D) H' → s'.heap.Ns C m → FpOk X pins H' C → compPost (model X.prog X.w) X.A X.xe use Qf (.ref D) C (.ok .next) s') : wpAny (model X.prog X.w) X.A (comprehension (.DictComp kx vx [⟨tg, iter, ifs, 0⟩] scope pos) scope X.env pos' newDict false (eval iter X.env) use) Qf X.xe s := by
  have free : ∀ y ∈ scope.names, y.2 = .free → ∃ c, X.env.cells.lookup y.1 = some c := fun y hy e => I.ok.has _ (ok.free y hy e)
  refine wpAny_comprehension_free (use := use) rfl hs (closure_ok free) ok.kind (fun y hy e => e ▸ ok.uniq y hy) (thn (hi.run pins s σ H _ I h) fun a s1 ha => thn ha fun itv s2 hit => ?_)
  obtain ⟨it, fp, tn, J, H2, rfl, I2, T, st2, f2, q⟩ := hit
  let d0 : Obj := { cls := .type "dict", data := .dict #[] }
  refine wpAny_newObj_type ?_
  refine newEnv_comp ?_
  have no : H2 s2.heap.objs.size = none := I2.hok.fresh (Nat.le_refl _)
  obtain ⟨Wt, ⟨m, w0⟩, turn⟩ := q _ no
  generalize hD : s2.heap.objs.size = D at no w0 turn
  obtain ⟨s3, e3⟩ : ∃ s3 : Shared, s3 = { s2 with heap := s2.heap.push d0 } := ⟨_, rfl⟩
  have up3 : ∀ b o, s2.heap.get? b = some o → s3.heap.get? b = some o := fun b o e => by rw [e3]; exact Heap.get?_push_of_some _ e
  have sz3 : s3.heap.objs.size = s2.heap.objs.size + 1 := by rw [e3]; exact Heap.size_push ..
  obtain ⟨H3, eH⟩ : ∃ H3, H3 = upd H2 D (.dT []) := ⟨_, rfl⟩
  rw [← eH] at w0
  have I3 : Inv X pins σ H3 s3 := by
    rw [e3, eH, ← hD]
    exact I2.laid (t' := s2.toks) (fun b o e => Heap.get?_push_of_some _ e) (Nat.le_refl _) (dt_empty s2.heap I2.big)
  have f3 : ∀ b ∈ fp, FpOk X pins H3 b ∧ b < s3.heap.objs.size := fun b hb => by
    obtain ⟨o, eo, _⟩ := T.obj _ _ st2 b hb
    have lt := Heap.lt_size eo
    obtain ⟨c0, c⟩ := f2 b hb
    refine ⟨⟨?_, c⟩, ?_⟩
    · rw [eH, upd_ne (hD ▸ Nat.ne_of_lt lt)]
      exact c0
    · rw [sz3]
      exact Nat.lt_succ_of_lt lt
  have I4 := (block_start I3 ok hN f3)
  generalize hcl : cellsFrom (s3.heap.objs.size + 1) scope.names (cloFrom X.env.cells scope.names []) = cl at I4
  obtain ⟨ce, ece⟩ : ∃ ce, ce = compEnvC scope cl s3.heap.objs.size X.env := ⟨_, rfl⟩
  have loc : ce.locals = s3.heap.objs.size := by rw [ece]; rfl
  obtain ⟨s4, e4⟩ : ∃ s4 : Shared, s4 = { s3 with heap := pushCells (s3.heap.push d0) scope.names } := ⟨_, rfl⟩
  have st4 : tn 0 s4.heap := T.keep _ _ _ st2 fun b _ o e => by rw [e4]; exact pushCells_keeps _ _ _ _ (Heap.get?_push_of_some _ (up3 b o e))
  have pg := hg s3 H3 s3.heap.objs.size cl fp
  have pt := ht s3 H3 s3.heap.objs.size cl fp
  have pk := hk s3 H3 s3.heap.objs.size cl fp
  have pv := he s3 H3 s3.heap.objs.size cl fp
  rw [← ece] at pg pt pk pv I4
  have run := dc_loop (pos := pos) (iter := iter) (R := compPost (model X.prog X.w) X.A X.xe use Qf (.ref D) s3.heap.objs.size) hu hc T pg pt pk pv turn (fun H' s' I' q' => by
    have nC : H' ce.locals = none := I'.free
    obtain ⟨m', ns, _⟩ := I'.loc
    rw [loc] at nC
    refine last D _ s' m' H' (I3.call' (ch := fp) I'.os I'.base I'.hok I'.bare fun b hb => ?_) q' (loc ▸ ns) (I3.fpOk (Nat.le_refl _) nC)
    obtain ⟨⟨_, a1, a2, a3, a4, a5⟩, _⟩ := f3 b hb
    exact ⟨a3, a1, a4, a5⟩) w0 ⟨by rw [e4]; exact I4, st4, fun b hb => (f3 b hb).1.1⟩
  have fin := codeAny_compStart_dict run (T.self X.A 0 _ _ _ st4 run)
  rw [ece, e4, ← hcl, e3] at fin
  exact fin
theorem pe_dcT {kx vx tg iter : Expr} {ifs : List Expr} {scope : Scope} {own : List (Str × Nat)} {pos : Pos} {wi : TI} {g : TG} {tt : TT} {tk tv : TE} (hu : X.A.units < cLine) (hc : X.calm = true) (hN : X.N.Nodup) (hi : PI X tg iter wi) (ok : BlkOk X.N X.env.scope scope own)
    (hg : BlkPG X scope tg g) (ht : BlkPTs X scope ifs tt) (hk : BlkPE X scope kx tk) (he : BlkPE X scope vx tv) (hs : ∀ x, foldedSetIterable iter X.env x = pure x := by intro _; rfl) : PE X (.DictComp kx vx [⟨tg, iter, ifs, 0⟩] scope pos) (tDcT wi g tt tk tv (own.map (·.2))) :=
  ⟨fun pins s σ H Q I h => by
    rw [arm_eval_DictComp]
    refine dcT_core hu hc hN I hi ok hg ht hk he hs h fun D C s' m H' I' q ns ⟨k0, k1, _, k3, k4, k5⟩ => ⟨m, ns, fun h'' sb => ?_⟩
    exact ⟨.ref D, H', I'.turned (t' := s'.toks) (fun b o hb e => (sb.2 b hb).trans e) k0 k1 k3 k4 k5, rfl, q⟩⟩
/-- name = {k: v for ..} on one line -/
theorem ps_dcT {i : Nat} {y : Str} {py : Pos} {kx vx tg iter : Expr} {ifs : List Expr} {scope : Scope} {own : List (Str × Nat)} {pos spos : Pos} {wi : TI} {g : TG} {tt : TT} {tk tv : TE} (hu : X.A.units < cLine) (hc : X.calm = true) (hN : X.N.Nodup) (hy : X.N[i]? = some y) (hyl : X.env.scope.names.lookup y = some .local)
    (hsw : swapsWith (.DictComp kx vx [⟨tg, iter, ifs, 0⟩] scope pos) (some (.Name y py)) spos.line X.env = pure true) (hi : PI X tg iter wi) (ok : BlkOk X.N X.env.scope scope own) (hg : BlkPG X scope tg g) (ht : BlkPTs X scope ifs tt) (hk : BlkPE X scope kx tk) (he : BlkPE X scope vx tv)
    (hs : ∀ x, foldedSetIterable iter X.env x = pure x := by intro _; rfl) : PS X (.Assign [.Name y py] (.DictComp kx vx [⟨tg, iter, ifs, 0⟩] scope pos) spos) (tAsg (tDcT wi g tt tk tv (own.map (·.2))) (gName i)) :=
  ⟨fun pins s σ H D I h => by
    have h' : tDcT wi g tt tk tv (own.map (·.2)) σ H (fun x H1 => gName i x σ H1 D.nx) := h
    rewrite [exec_Assign_Name_used _ _ _ _ hsw]
    refine wpAny_bind (wpAny_standAt (wpAny_bind (wpAny_bind (thn (dcT_core (Qf := fun _ s' => SP X pins D .next s') hu hc hN I hi ok hg ht hk he hs h' fun L C s' m H' I' q ns ⟨f0, f1, _, f3, f4, f5⟩ => ?_) fun _ s' hq => wpAny_pure (wpAny_pure hq)))))
    refine wpAny_assign_Name (store_ok2 (v := V.ref L) I' hN hy (.inl hyl) rfl (fun s2 I2 ⟨a, sb, ha⟩ => ⟨m, ns.sameBut sb ?_, fun h3 sb3 => ⟨σ.set i (some (V.ref L)), H', I2.turned (t' := s2.toks) (fun b o hb e => (sb3.2 b hb).trans e) f0 f1 f3 f4 f5, q⟩⟩) (.inr hyl))
    rcases ha with z | z
    · rw [z]; exact f1
    · exact fun e => f4 y a z e.symm⟩
end
end Pu
end TP11

section TP12
set_option Elab.async false
set_option linter.all false
set_option maxRecDepth 100000
set_option maxHeartbeats 4200000
namespace Pu
open PyProof.Rows L2 PySem PySem.Spec

def fDcL (g : TM) (t : M Bool) (fk fv : M PyData) (vs : List Nat) : List PyData → List (PyData × PyData) → M (List (PyData × PyData))
  | [], acc => fun ρ => .ok acc ρ
  | d :: ds, acc => fun ρ => match g d ρ with
    | none => .no
    | some ρ1 => match t ρ1 with
      | .ok true ρ2 => match fk ρ2 with
        | .ok kd ρ3 => match fv ρ3 with
          | .ok vd ρ4 => match keyT kd with
            | some ks => if acc.length < LIM then fDcL g t fk fv vs ds (dPut kd ks vd acc) (wipeE ρ4 vs) else .no
            | none => .no
          | _ => .no
        | _ => .no
      | .ok false ρ2 => fDcL g t fk fv vs ds acc (wipeE ρ2 vs)
      | _ => .no
def dcRes (r : R (List (PyData × PyData))) (vs : List Nat) : R PyData := match r with
  | .ok l ρ' => .ok (.dict l) (wipeE ρ' vs)
  | .exc _ _ => .no
  | .no => .no
def fDc (i : Nat) (g : TM) (t : M Bool) (fk fv : M PyData) (vs : List Nat) : M PyData := fun ρ => match ρ[i]? with
  | some (.dat (.dict kvs)) => dcRes (fDcL g t fk fv vs (kvs.map (·.1)) [] (wipeE ρ vs)) vs
  | _ => .no
section
variable {X : Cx} {mg : Str → Option Value} {W : WK} {k : Nat} {pos : Pos}
theorem r_dc {J : It} {ds : List PyData} {c : Fc W.K} {G1 H1 : Hp} {σ : L2.St} {ρ : Env} {Q : V → Hp → Prop} {t : TG} {g : TM} {js : List Nat} {ft : M Bool} {fk fv : M PyData} {vs : List Nat} (ij : ItOk J ds G1) (S : Stt c G1 H1 σ ρ) (ok : TgOk t g js) (hjs : ∀ j ∈ js, j ∈ vs)
    (h : Res mg W rO c G1 σ (fun v H' => Q v H') (dcRes (fDcL g ft fk fv vs ds [] (wipeE ρ vs)) vs)) :
    ∀ D, H1 D = none → ∃ I : Nat → Nat → Hp → Prop, (∃ m, I 0 m (upd H1 D (.dT []))) ∧ ∀ i m H, I i m H → (J.stop i H ∧ Q (.ref D) H) ∨
      (J.go i H ∧ ∃ Nx : Hp → Prop, (∀ H', Nx H' → ∃ m', m' < m ∧ I (i + 1) m' H') ∧ ∀ x H', J.yld i H x H' → t x (L2.wipe σ vs) H' fun σ2 H2 => L2.wipe σ2 vs = L2.wipe σ vs ∧ ttOf mg W.z ft σ2 H2 fun b H3 =>
        if b = true then tOf mg W.z fk σ2 H3 fun y H4 => tOf mg W.z fv σ2 H4 fun z H5 => ∃ ws b ks, y = .ref b ∧ H5 b = some (.tup (ks.map kV)) ∧ H5 D = some (.dT ws) ∧ ws.length < sizeLine ∧ Nx (upd H5 D (.dT (putK ws ks z))) else Nx H3) := by
  intro D hD
  obtain ⟨_, h0D, g0D, npD, _⟩ := S.fresh hD
  let Pv : Nat → Hp → Prop := fun i H => ∃ G' ρ' ws acc, Stt (gd c D (.dT ws)) G' H (L2.wipe σ vs) ρ' ∧ Ex G1 G' ∧ RpK G' ws acc ∧ acc.length ≤ LIM ∧ Res mg W rO c G1 σ Q (dcRes (fDcL g ft fk fv vs (ds.drop i) acc ρ') vs)
  have S0 : Stt c G1 H1 (L2.wipe σ vs) (wipeE ρ vs) := S.wipe (wipe_length σ vs) fun i hi => wipe_out' hi
  have S0' : Stt (gd c D (.dT [])) G1 (upd H1 D (.dT [])) (L2.wipe σ vs) (wipeE ρ vs) := (S0.gr (.apart S.ex hD)).guard (S.ex.free hD) h0D upd_same (S0.fresh hD).2.2.2.2
  refine ⟨fun i m H => m = ds.length - i ∧ i ≤ ds.length ∧ Pv i H, ⟨_, rfl, Nat.zero_le _, G1, wipeE ρ vs, [], [], S0', .refl _, .nil, Nat.zero_le _, h⟩, ?_⟩
  rintro i m H ⟨rfl, hi, G', ρ', ws, acc, S', e', ra, la, h'⟩
  obtain ⟨go, stop⟩ := ij i G' H e' S'.ex
  by_cases hlt : i < ds.length
  · have hd : ds[i]? = some ds[i] := List.getElem?_eq_getElem hlt
    obtain ⟨g1, y1⟩ := go _ hd
    rw [List.drop_eq_getElem_cons hlt] at h'
    simp only [fDcL] at h'
    refine .inr ⟨g1, fun H2 => Pv (i + 1) H2, fun H2 p => ⟨ds.length - (i + 1), by omega, rfl, hlt, p⟩, fun x H2 y => ?_⟩
    obtain ⟨G2, gr, rx⟩ := y1 x H2 y
    have S2 := S'.gr gr
    cases eg : g ds[i] ρ' with
    | none => rw [eg] at h'; exact h'.elim
    | some ρ1 =>
      rw [eg] at h'
      dsimp only at h'
      refine ok _ _ G2 H2 _ ρ' x ds[i] ρ1 _ S2 rx eg fun σ3 S3 kp => ?_
      have hlen : σ3.length = σ.length := by rw [kp.1, wipe_length]
      have hag : ∀ j, j ∉ vs → σ3[j]? = (L2.wipe σ vs)[j]? := fun j hj => kp.2 j fun z => hj (hjs j z)
      have hw : L2.wipe σ3 vs = L2.wipe σ vs := wipe_ext (σ := σ) hlen fun j hj => (hag j hj).trans (wipe_out' hj)
      have back : ∀ {κ' : PySem.W.Frag} {c' : Fc κ'} {G4 H4 : Hp} {ρ4 : Env}, Stt c' G4 H4 σ3 ρ4 → Stt c' G4 H4 (L2.wipe σ vs) (wipeE ρ4 vs) := fun {κ' c' G4 H4 ρ4} S4 => S4.wipe (by rw [wipe_length, hlen]) fun j hj => (hag j hj).symm
      refine ⟨hw, _, G2, ρ1, S3, ?_⟩
      cases et : ft ρ1 with
      | no => rw [et] at h'; exact h'.elim
      | exc e ρ2 => rw [et] at h'; exact h'.elim
      | ok b ρ2 =>
        rw [et] at h'
        intro b' G3 H3 S4 e4 rb
        cases rb
        cases b with
        | false =>
          dsimp only at h'
          rw [if_neg (fun z => nomatch z)]
          exact ⟨G3, wipeE ρ2 vs, ws, acc, back S4, e'.trans (gr.g.trans e4), ra.mono (gr.g.trans e4), la, h'⟩
        | true =>
          dsimp only at h'
          rw [if_pos rfl]
          refine ⟨_, G3, ρ2, S4, ?_⟩
          cases ek : fk ρ2 with
          | no => rw [ek] at h'; exact h'.elim
          | exc e ρ3 => rw [ek] at h'; exact h'.elim
          | ok kd ρ3 =>
            rw [ek] at h'
            dsimp only at h'
            intro y G5 H5 S5 e5 ry
            refine ⟨_, G5, ρ3, S5, ?_⟩
            cases ee : fv ρ3 with
            | no => rw [ee] at h'; exact h'.elim
            | exc e ρ4 => rw [ee] at h'; exact h'.elim
            | ok vd ρ4 =>
              rw [ee] at h'
              dsimp only at h'
              intro z G6 H6 S6 e6 rz
              cases et2 : keyT kd with
              | none => rw [et2] at h'; exact h'.elim
              | some ks =>
                rw [et2] at h'
                dsimp only at h'
                by_cases hl : acc.length < LIM
                · rw [if_pos hl] at h'
                  have eall := gr.g.trans (e4.trans (e5.trans e6))
                  obtain ⟨S7, hD5, gD5, fr5⟩ := (back S6).unguard h0D g0D npD
                  obtain ⟨b, rfl, hb, hkl⟩ := keyT_rp (ry.mono e6) et2
                  have hkd := keyD_of et2
                  refine ⟨ws, b, ks, rfl, S6.ex _ _ hb, hD5, by rw [ra.length]; exact lim_lt (Nat.le_of_lt hl), ?_⟩
                  refine ⟨G6, wipeE ρ4 vs, putK ws ks z, dPut kd ks vd acc, (S7.write gD5 h0D npD fr5).guard gD5 h0D upd_same fr5, e'.trans eall, ?_, by have := dPut_len kd ks vd acc; omega, h'⟩
                  rw [hkd]
                  exact dPut_rp hkl rz (ra.mono eall)
                · rw [if_neg hl] at h'; exact h'.elim
  · have e : i = ds.length := by omega
    subst e
    rw [List.drop_length] at h'
    refine .inl ⟨stop rfl, ?_⟩
    obtain ⟨S7, hD5, gD5, fr5⟩ := S'.unguard h0D g0D npD
    have S8 : Stt c G' H σ (wipeE ρ' vs) := S7.wipe (wipe_length σ vs).symm fun j hj => (wipe_out' hj).symm
    simp only [fDcL, dcRes] at h'
    have fr8 : Free σ (wipeE ρ' vs) D := fun j s e m hx => by
      rcases wipeE_get e with rfl | ⟨e1, ni⟩
      · cases m
      · exact fr5 j s e1 m (by rw [wipe_out' ni]; exact hx)
    exact h' _ G' H S8 e' ⟨D, rfl, gD5, h0D, ⟨la, ws, hD5, ra⟩, fr8⟩
theorem dc_open {i : Nat} {t : TG} {g : TM} {js vs : List Nat} {ft : M Bool} {fk fv : M PyData} {σ : L2.St} {H : Hp} {Q : VK} (hg' : TgOk t g js) (hjs : ∀ j ∈ js, j ∈ vs) (w : toOf mg W (fDc i g ft fk fv vs) σ H Q) :
    (∃ d ws, H d = some (.dT ws) ∧ ∀ od, tDcT (iKeys (tVar i)) t (ttOf mg W.z ft) (tOf mg W.z fk) (tOf mg W.z fv) vs σ (upd H d (.frz od (.dT ws))) (fun v H' => H' d = some (.frz od (.dT ws)) ∧ Q v (upd H' d (.dT ws)))) ∨ tDcT (iKeys (tVar i)) t (ttOf mg W.z ft) (tOf mg W.z fk) (tOf mg W.z fv) vs σ H Q := by
  obtain ⟨c, G, ρ, S, h⟩ := w
  unfold fDc at h
  split at h
  · rename_i kvs e
    obtain ⟨y, hy, v, rfl, r⟩ := S.sl i _ e
    cases r with
    | @dic d ws _ hd l q =>
    rcases hd with hd | ⟨od, hd⟩
    · left
      refine ⟨d, ws, S.ex _ _ hd, fun od => ?_⟩
      obtain ⟨s1, s2⟩ := S.locked (od := od) hd
      have SL := S.swap s1 hd
      have rpl := s1.rp hd
      refine ⟨_, hy, d, od, rfl, .inr ⟨ws, upd_same, ?_⟩⟩
      refine r_dc (W := W) (Q := fun v H' => H' d = some (.frz od (.dT ws)) ∧ Q v (upd H' d (.dT ws))) (itk_ok upd_same (rpl.2.2 q)) SL hg' hjs ?_
      cases eo : fDcL g ft fk fv vs (kvs.map (·.1)) [] (wipeE ρ vs) with
      | exc z ρ' => rw [eo] at h; exact h.elim
      | no => rw [eo] at h; exact h.elim
      | ok l ρ' =>
        rw [eo] at h
        intro v G' H' S' e' ⟨pp, ev, gn, h0, ow, fr⟩
        have hd' : G' d = some (.frz od (.dT ws)) := e' _ _ upd_same
        have z : pp ≠ d := fun z => by rw [z, hd'] at gn; cases gn
        refine ⟨S'.ex _ _ hd', h _ _ _ (S'.swap s2 hd') (fun a u ea => ?_) ⟨pp, ev, by rw [upd_ne z]; exact gn, by rw [s2.h pp z]; exact h0, ?_, fr⟩⟩
        · by_cases z : a = d
          · subst z; rw [hd] at ea; cases ea; exact upd_same
          · rw [upd_ne z]; exact e' a u (by rw [upd_ne z]; exact ea)
        · obtain ⟨la, wss, hw, rk⟩ := ow
          exact ⟨la, wss, by rw [upd_ne z]; exact hw, (s2.rp hd').2.2 rk⟩
    · right
      exact ⟨_, hy, d, od, rfl, .inr ⟨ws, S.ex _ _ hd, r_dc (W := W) (itk_ok hd q) S hg' hjs h⟩⟩
  · exact h.elim
theorem x_dcO {kx vx tg : Expr} {i : Nat} {x : Str} {p : Pos} {ifs : List Expr} {scope : Scope} {own : List (Str × Nat)} {t : TG} {g : TM} {js : List Nat} {ft : M Bool} {fk fv : M PyData} (F : Fit X mg W k) (hN : X.N[i]? = some x) (hv : Vis X.env.scope x) (ok : BlkOk X.N X.env.scope scope own)
    (hg : BlkPG X scope tg t) (hg' : TgOk t g js) (hjs : ∀ j ∈ js, j ∈ own.map (·.2)) (ht : BlkPTs X scope ifs (ttOf mg W.z ft)) (hk : BlkPE X scope kx (tOf mg W.z fk)) (he : BlkPE X scope vx (tOf mg W.z fv)) (hs : ∀ v, foldedSetIterable (.Name x p) X.env v = pure v := by intro _; rfl)
    (hd : (x == ("__debug__" : Str)) = false := by decide) (hcd : (x == ("__classdict__" : Str)) = false := by decide) : PE X (.DictComp kx vx [⟨tg, .Name x p, ifs, 0⟩] scope pos) (toOf mg W (fDc i g ft fk fv (own.map (·.2)))) := by
  have h0 := pe_dcT (pos := pos) (by have := hu1 F; omega) F.calm F.nd (pi_keys (tg := tg) (pe_var (pos := p) hN hv hd hcd)) ok hg ht hk he hs
  refine (PE.or (pe_lock h0) h0).imp fun σ H Q w => ?_
  rcases dc_open hg' hjs w with ⟨d, ws, hH, z⟩ | z
  · exact .inl ⟨d, .dT ws, hH, trivial, z⟩
  · exact .inr z
/-- name = {k: v for ..}, to be changed later -/
theorem s_dcO {j : Nat} {y : Str} {py spos : Pos} {kx vx tg : Expr} {i : Nat} {x : Str} {p : Pos} {ifs : List Expr} {scope : Scope} {own : List (Str × Nat)} {t : TG} {g : TM} {js : List Nat} {ft : M Bool} {fk fv : M PyData} (F : Fit X mg W k) (hy : X.N[j]? = some y) (hyl : X.env.scope.names.lookup y = some .local)
    (hsw : swapsWith (.DictComp kx vx [⟨tg, .Name x p, ifs, 0⟩] scope pos) (some (.Name y py)) spos.line X.env = pure true) (hN : X.N[i]? = some x) (hv : Vis X.env.scope x) (ok : BlkOk X.N X.env.scope scope own)
    (hg : BlkPG X scope tg t) (hg' : TgOk t g js) (hjs : ∀ j ∈ js, j ∈ own.map (·.2)) (ht : BlkPTs X scope ifs (ttOf mg W.z ft)) (hk : BlkPE X scope kx (tOf mg W.z fk)) (he : BlkPE X scope vx (tOf mg W.z fv)) (hs : ∀ v, foldedSetIterable (.Name x p) X.env v = pure v := by intro _; rfl)
    (hd : (x == ("__debug__" : Str)) = false := by decide) (hcd : (x == ("__classdict__" : Str)) = false := by decide) : PS X (.Assign [.Name y py] (.DictComp kx vx [⟨tg, .Name x p, ifs, 0⟩] scope pos) spos) (sOf mg W (sOwn (fDc i g ft fk fv (own.map (·.2))) j)) := by
  have h0 := ps_dcT (pos := pos) (by have := hu1 F; omega) F.calm F.nd hy hyl hsw (pi_keys (tg := tg) (pe_var (pos := p) hN hv hd hcd)) ok hg ht hk he hs
  refine (PS.or (ps_lock h0) h0).imp fun D σ H ⟨c, G, ρ, S, h⟩ => ?_
  have w : toOf mg W (fDc i g ft fk fv (own.map (·.2))) σ H (fun v H1 => D.nx (σ.set j (some v)) H1) := stepS S h fun v G1 H1 ρ1 d S1 e1 r1 h1 => by
    obtain ⟨p, rfl, g0, h0, ow, fr⟩ := r1
    exact h1 _ G1 H1 (S1.setOwn g0 h0 ow fr) (.refl _)
  rcases dc_open hg' hjs w with ⟨d, ws, hH, z⟩ | z
  · exact .inl ⟨d, .dT ws, hH, trivial, z⟩
  · exact .inr z
theorem sw_trueD {kx vx : Expr} {gs : List Comprehension} {scope : Scope} {py : Pos} {y : Str} {l : Nat} {env : PySem.Env} (hk : env.scope.kind = .function) (hy : env.scope.names.lookup y = some .local) (hl : (py.line == pos.line) = true)
    (ha : (scope.names.any fun (n, k) => n == y && (k == .local || k == .cell)) = false) : swapsWith (.DictComp kx vx gs scope pos) (some (.Name y py)) l env = pure true := by
  have h1 : env.kindOf y = some .local := hy
  have h2 : env.blockKind = .function := by unfold PySem.Env.blockKind; rw [hk]; rfl
  unfold swapsWith
  simp only [h2, h1, ha, Expr.pos, hl]
  rfl
end
end Pu
end TP12

section TP13
set_option Elab.async false
set_option linter.all false
set_option maxRecDepth 100000
set_option maxHeartbeats 4200000
namespace Pu
open PyProof.Rows L2 PySem PySem.Spec

/-! ### for x, y, z in zip(t, u, v) -/
def Itz3 (K : PySem.W.Frag) (a b c : Addr) : It where
  go i H := ∃ (xs ys zs : List V) (x y z : V), SqT K H a xs ∧ SqT K H b ys ∧ SqT K H c zs ∧ xs[i]? = some x ∧ ys[i]? = some y ∧ zs[i]? = some z
  yld i H v H' := ∃ T x y z, v = .ref T ∧ H T = none ∧ H' = upd H T (.tup [x, y, z]) ∧ (∀ xs, SqT K H a xs → xs[i]? = some x) ∧ (∀ xs, SqT K H b xs → xs[i]? = some y) ∧ ∀ xs, SqT K H c xs → xs[i]? = some z
  stop i H := ∃ xs ys zs : List V, SqT K H a xs ∧ SqT K H b ys ∧ SqT K H c zs ∧ i = xs.length ∧ i = ys.length ∧ i = zs.length
def ZSt (n a b c i : Nat) (h : Heap) : Prop :=
  IsZip h (n + 5) (n + 3) (n + 4) .none ∧ IsTupOf3 h (n + 3) (.ref n) (.ref (n + 1)) (.ref (n + 2)) ∧ (∃ x y z, IsTupOf3 h (n + 4) x y z) ∧ h.IsTupleIter n a i ∧ h.IsTupleIter (n + 1) b i ∧ h.IsTupleIter (n + 2) c i
abbrev six (n : Nat) : List Nat := [n, n + 1, n + 2, n + 3, n + 4, n + 5]
theorem six_iff {n d : Nat} : d ∈ six n ↔ n ≤ d ∧ d ≤ n + 5 := by
  simp only [six, List.mem_cons, List.not_mem_nil, or_false]
  omega
theorem six_out {n d : Nat} (h : d ∉ six n) : d ≠ n + 5 ∧ d ≠ n + 4 ∧ d ≠ n ∧ d ≠ n + 1 ∧ d ≠ n + 2 := by
  have h' : ¬ (n ≤ d ∧ d ≤ n + 5) := fun z => h (six_iff.mpr z)
  omega
theorem six_in {n d : Nat} (h : d ∈ six n) : d = n ∨ d = n + 1 ∨ d = n + 2 ∨ d = n + 3 ∨ d = n + 4 ∨ d = n + 5 := by
  have h' := six_iff.mp h
  omega
theorem far_up {n : Nat} {a b : Nat} (h : a ≠ b) : n + a ≠ n + b := by omega
theorem far_low {n d j : Nat} (h : d < n) : d ≠ n + j := by omega
theorem vals3 {x y z : V} {us : List Value} (r : Vals [x, y, z] us) : ∃ u v w, us = [u, v, w] ∧ RelV x u ∧ RelV y v ∧ RelV z w := by
  cases r with
  | cons r1 r => cases r with
    | cons r2 r => cases r with
      | cons r3 r => cases r; exact ⟨_, _, _, rfl, r1, r2, r3⟩
theorem get_of_vals {xs : List V} {its : List Value} (r : Vals xs its) {i : Nat} {x : V} (h : xs[i]? = some x) : ∃ u, its.toArray[i]? = some u ∧ RelV x u := by
  obtain ⟨u, hu, ru⟩ := r.get h
  exact ⟨u, by simpa using hu, ru⟩
theorem lt_of_vals {xs : List V} {its : List Value} (r : Vals xs its) {i : Nat} {x : V} (h : xs[i]? = some x) : i < its.toArray.size := by
  have a := (List.getElem?_eq_some_iff.mp h).1
  have b := r.length
  rw [List.size_toArray]
  omega
theorem turn_z3 {P : Program} {w : World} {K : PySem.W.Frag} {elts : List Expr} {kk : Nat} {tpos : Pos} {a b c n : Nat} (ha : a < n) (hb : b < n) (hc' : c < n) : Turn P w K (.Tuple elts kk tpos) (Itz3 K a b c) (six n) (n + 5) (ZSt n a b c) where
  mem := six_iff.mpr ⟨Nat.le_add_right _ _, Nat.le_refl _⟩
  obj := fun i h Z d hd => by
    obtain ⟨z, t, ⟨_, _, _, o⟩, j1, j2, j3⟩ := Z
    rcases six_in hd with rfl | rfl | rfl | rfl | rfl | rfl
    · exact drT.live j1
    · exact drT.live j2
    · exact drT.live j3
    · exact ⟨_, t, fun _ e => nomatch e⟩
    · exact ⟨_, o, fun _ e => nomatch e⟩
    · exact ⟨_, z, fun _ e => nomatch e⟩
  keep := fun i h h' Z k => by
    obtain ⟨z, t, ⟨x, y, v, o⟩, j1, j2, j3⟩ := Z
    have k' : ∀ j, j ≤ 5 → ∀ o, h.get? (n + j) = some o → h'.get? (n + j) = some o := fun j hj => k _ (six_iff.mpr ⟨Nat.le_add_right _ _, Nat.add_le_add_left hj n⟩)
    exact ⟨k' 5 (by decide) _ z, k' 3 (by decide) _ t, ⟨x, y, v, k' 4 (by decide) _ o⟩, j1.at (k' 0 (by decide)), j2.at (k' 1 (by decide)), j3.at (k' 2 (by decide))⟩
  item := by
    rintro X rfl rfl rfl hc i pins s σ H E I hf ⟨hz, ti, ⟨p, q, r, to⟩, j1, j2, j3⟩ ⟨xs, ys, zs, x, y, z, qx, qy, qz, gx, gy, gz⟩
    obtain ⟨ix, vx, px⟩ := drT.read I qx
    obtain ⟨iy, vy, py⟩ := drT.read I qy
    obtain ⟨iz, vz, pz⟩ := drT.read I qz
    obtain ⟨u1, hu1, r1⟩ := get_of_vals vx gx
    obtain ⟨u2, hu2, r2⟩ := get_of_vals vy gy
    obtain ⟨u3, hu3, r3⟩ := get_of_vals vz gz
    have hh : X.A.in1.handled = none := I.ok.hd hc
    have top : n + 5 < s.heap.objs.size := Heap.lt_size hz
    have below : ∀ {d : Nat}, d < n → ∀ b ∈ [d], b < n := fun {d} hd b hb => by rw [List.mem_singleton.mp hb]; exact hd
    refine wpAny_pyNext_zipD3_item (zip_sep3 (below ha) (below hb) (below hc')) (Draws.tuple hh n a (far_low (j := 0) ha) _) (Draws.tuple hh (n + 1) b (far_low hb) _) (Draws.tuple hh (n + 2) c (far_low hc') _) hz ti to ⟨j1, px⟩ ⟨j2, py⟩ ⟨j3, pz⟩
      (lt_of_vals vx gx) (lt_of_vals vy gy) (lt_of_vals vz gz) fun x1 x2 x3 h' tk e1 e2 e3 hz' to' s1 s2 s3 hT hsz hk => ?_
    rw [hu1] at e1; rw [hu2] at e2; rw [hu3] at e3
    cases e1; cases e2; cases e3
    refine ⟨_, rfl, wpAny_letOwnedTupleGo_zip (s := { s with heap := h', toks := tk }) hz' fun h2 z2 sb => ?_⟩
    have left : ∀ (d : Nat) o, d ≠ n + 5 → h'.get? d = some o → h2.get? d = some o := fun d o hd e => (sb.2 d hd).trans e
    have kept : ∀ d o, d ∉ six n → s.heap.get? d = some o → h2.get? d = some o := fun d o hd e => by
      obtain ⟨n5, n4, n0, n1, n2⟩ := six_out hd
      exact left d o n5 (hk d o n5 n4 n0 n1 n2 e)
    have I1 : Inv X pins σ (upd H s.heap.objs.size (.tup [x, y, z])) { s with heap := h2, toks := tk } :=
      I.turnedNew kept hf (Nat.le_refl _) ⟨by show 3 ≤ sizeLine; decide, [u1, u2, u3], .cons r1 (.cons r2 (.cons r3 .nil)), _, left _ _ (Nat.ne_of_gt top) hT, rfl, _, rfl⟩
    have ne5 : ∀ j, j < 5 → n + j ≠ n + 5 := fun j hj => far_up (Nat.ne_of_lt hj)
    refine ⟨.ref s.heap.objs.size, _, I1, rfl, ⟨_, x, y, z, rfl, I.hok.fresh (Nat.le_refl _), rfl, fun l hl => drT.one I hl qx ▸ gx, fun l hl => drT.one I hl qy ▸ gy, fun l hl => drT.one I hl qz ▸ gz⟩,
      ⟨z2, left _ _ (ne5 3 (by decide)) (hk _ _ (far_up (by decide)) (far_up (by decide)) (far_up (b := 0) (by decide)) (far_up (by decide)) (far_up (by decide)) ti), ⟨_, _, _, left _ _ (ne5 4 (by decide)) to'⟩, s1.1.at fun o => left _ o (ne5 0 (by decide)), s2.1.at fun o => left _ o (ne5 1 (by decide)), s3.1.at fun o => left _ o (ne5 2 (by decide))⟩, fun d hd => ?_⟩
    rw [upd_ne (Nat.ne_of_lt (Nat.lt_of_le_of_lt (six_iff.mp hd).2 top))]
    exact (hf d hd).1
  done := by
    rintro X rfl rfl rfl hc i pins s σ H E I hf ⟨hz, ti, ⟨p, q, r, to⟩, j1, j2, j3⟩ ⟨xs, ys, zs, qx, qy, qz, l1, l2, l3⟩
    obtain ⟨ix, vx, px⟩ := drT.read I qx
    obtain ⟨iy, vy, py⟩ := drT.read I qy
    obtain ⟨iz, vz, pz⟩ := drT.read I qz
    have hh : X.A.in1.handled = none := I.ok.hd hc
    have below : ∀ {d : Nat}, d < n → ∀ b ∈ [d], b < n := fun {d} hd b hb => by rw [List.mem_singleton.mp hb]; exact hd
    have z1 : i = ix.toArray.size := by rw [List.size_toArray, l1, vx.length]
    have z2 : i = iy.toArray.size := by rw [List.size_toArray, l2, vy.length]
    have z3 : i = iz.toArray.size := by rw [List.size_toArray, l3, vz.length]
    refine wpAny_pyNext_zipD3_end (zip_sep3 (below ha) (below hb) (below hc')) (Draws.tuple hh n a (far_low (j := 0) ha) _) (Draws.tuple hh (n + 1) b (far_low hb) _) (Draws.tuple hh (n + 2) c (far_low hc') _) hz ti to ⟨j1, px⟩ ⟨j2, py⟩ ⟨j3, pz⟩
      (Nat.le_of_eq z1) (Nat.le_of_eq z2) (Nat.le_of_eq z3) (.inl z1) fun h' tk hk => ⟨rfl, I.turnedL (fun d o hd e => ?_) hf⟩
    obtain ⟨n5, n4, n0, n1, n2⟩ := six_out hd
    exact hk d o n5 n4 n0 n1 n2 e
  self := fun A i s Q E Z h => wpAny_pyIter_zip Z.1 h
def iZip3 (K : PySem.W.Frag) (ta : TA) : TI := fun σ H R => ta σ H fun vs H1 => ∃ a b c xs ys zs, vs = [.ref a, .ref b, .ref c] ∧ SqT K H1 a xs ∧ SqT K H1 b ys ∧ SqT K H1 c zs ∧ R (Itz3 K a b c) H1
theorem ref_of {a : Addr} {u : Value} (r : RelV (.ref a) u) : u = .ref a := r
theorem pi_zip3 {X : Cx} {e1 e2 e3 : Expr} {ta : TA} {p pos tpos : Pos} {elts : List Expr} {kk : Nat} (hg : Gl X "zip") (hm : X.mg "zip" = none) (ha : PA X [e1, e2, e3] ta)
    (hs : starEach [e1, e2, e3] X.env = (false, eval e1 X.env) :: starEach [e2, e3] X.env := by rfl) (hpl : (backTo pos (starEach [e2, e3] X.env)).any (·.1) = false := by rfl) : PI X (.Tuple elts kk tpos) (.Call (.Name "zip" p) [e1, e2, e3] [] pos) (iZip3 X.K ta) :=
  ⟨fun pins s σ H R I h => by
    refine Call_ (ld_blt I hg hm PyProof.Rows.boot_zip (PyProof.Rows.callWith_type1 (thn (ha.run pos pins s σ H _ I h) fun us s1 ⟨vs, H1, I1, r1, a, b, c, xs, ys, zs, ex, qx, qy, qz, q⟩ => ?_) hs hpl))
    subst ex
    obtain ⟨ix, vx, px⟩ := drT.read I1 qx
    obtain ⟨iy, vy, py⟩ := drT.read I1 qy
    obtain ⟨iz, vz, pz⟩ := drT.read I1 qz
    obtain ⟨u1, u2, u3, rfl, ra, rb, rc⟩ := vals3 r1
    rw [ref_of ra, ref_of rb, ref_of rc]
    refine zip_begins3 (drT.beg a _) (drT.beg b _) (drT.beg c _) px py pz fun h' hz ti to g1 g2 g3 hsz hk => wpAny_pyIter_zip hz ?_
    refine ⟨_, six s1.heap.objs.size, _, Itz3 X.K a b c, H1, rfl, I1.kept (t' := s1.toks) hk, turn_z3 (drT.old px) (drT.old py) (drT.old pz), ⟨hz, ti, ⟨_, _, _, to⟩, drT.new g1, drT.new g2, drT.new g3⟩, fun d hd => ?_, q⟩
    have le := (six_iff.mp hd).1
    exact I1.fpOk le (I1.hok.fresh le)⟩

/-! ### for i, x in enumerate(xs), from any start -/
section
variable {Sq : SqOf}
def Ien (Sq : SqOf) (K : PySem.W.Frag) (a : Addr) (c : Int) : It where
  go i H := ∃ (xs : List V) (x : V), Sq K H a xs ∧ xs[i]? = some x
  yld i H v H' := ∃ T x, v = .ref T ∧ H T = none ∧ H' = upd H T (.tup [.int (c + (i : Nat)), x]) ∧ ∀ xs, Sq K H a xs → xs[i]? = some x
  stop i H := ∃ xs : List V, Sq K H a xs ∧ i = xs.length
theorem turn_en (D : Dr Sq) {P : Program} {w : World} {K : PySem.W.Frag} {elts : List Expr} {kk : Nat} {tpos : Pos} {a n : Nat} {c : Int} (ha : a < n) :
    Turn P w K (.Tuple elts kk tpos) (Ien Sq K a c) [n, n + 1] (n + 1) (fun i h => (∃ old, IsEnum h (n + 1) n (c + (i : Nat)) old) ∧ D.It h n a i) where
  mem := List.mem_cons_of_mem _ List.mem_cons_self
  obj := fun i h st b hb => by
    rcases (by simpa using hb : b = n ∨ b = n + 1) with rfl | rfl
    · exact D.live st.2
    · exact ⟨_, st.1.choose_spec, fun _ e => nomatch e⟩
  keep := fun i h h' st k => ⟨⟨_, k (n + 1) (by simp) _ st.1.choose_spec⟩, D.stay st.2 (k n (by simp))⟩
  item := by
    rintro X rfl rfl rfl hc i pins s σ H E I hf ⟨⟨old, he⟩, hit⟩ ⟨xs, x, hq, hx⟩
    obtain ⟨its, rv, p⟩ := D.read I hq
    obtain ⟨u, hu, ru⟩ := get_of_vals rv hx
    have top : n + 1 < s.heap.objs.size := Heap.lt_size he
    have hh : X.A.in1.handled = none := I.ok.hd hc
    refine wpAny_pyNext_enum_itemC (D.draws X.prog X.w X.A.in1 n a its.toArray hh (Nat.ne_of_lt ha)) he ⟨hit, p⟩ (lt_of_vals rv hx) (Nat.succ_ne_self n) (by simp [Nat.ne_of_gt (Nat.lt_succ_of_lt ha)]) fun y h' tk hy ho hst hT hsz hk => ?_
    rw [hu] at hy
    cases hy
    refine ⟨_, rfl, wpAny_letOwnedTupleGo_enum (s := { s with heap := h', toks := tk + 1 }) ho fun h2 he' sb => ?_⟩
    have left : ∀ (d : Nat) o, d ≠ n + 1 → h'.get? d = some o → h2.get? d = some o := fun d o hd e => (sb.2 d hd).trans e
    have I1 : Inv X pins σ (upd H s.heap.objs.size (.tup [.int (c + (i : Nat)), x])) { s with heap := h2, toks := tk + 1 } :=
      I.turnedNew (ch := [n, n + 1]) (fun d o hd e => by
        have hd' : d ≠ n ∧ d ≠ n + 1 := by simpa using hd
        exact left d o hd'.2 (hk d o hd'.2 hd'.1 e)) hf (Nat.le_refl _) ⟨by show 2 ≤ sizeLine; decide, [.int (c + (i : Nat)) tk, u], .cons ⟨_, rfl⟩ (.cons ru .nil), _, left _ _ (Nat.ne_of_gt top) hT, rfl, _, rfl⟩
    refine ⟨.ref s.heap.objs.size, _, I1, rfl, ⟨_, x, rfl, I.hok.fresh (Nat.le_refl _), rfl, fun l hl => D.one I hl hq ▸ hx⟩, ⟨⟨u, ?_⟩, D.stay hst.1 fun o => left n o (Nat.ne_of_lt (Nat.lt_succ_self n))⟩, fun d hd => ?_⟩
    · rw [show c + ((i + 1 : Nat) : Int) = c + (i : Nat) + 1 by omega]
      exact he'
    · have le : d ≤ n + 1 := by
        rcases (by simpa using hd : d = n ∨ d = n + 1) with rfl | rfl
        · exact Nat.le_succ _
        · exact Nat.le_refl _
      rw [upd_ne (Nat.ne_of_lt (Nat.lt_of_le_of_lt le top))]
      exact (hf d hd).1
  done := by
    rintro X rfl rfl rfl hc i pins s σ H E I hf ⟨⟨old, he⟩, hit⟩ ⟨xs, hq, hl⟩
    obtain ⟨its, rv, p⟩ := D.read I hq
    have hh : X.A.in1.handled = none := I.ok.hd hc
    have z : i = its.toArray.size := by rw [List.size_toArray, hl, rv.length]
    refine wpAny_pyNext_enum_endD (D.draws X.prog X.w X.A.in1 n a its.toArray hh (Nat.ne_of_lt ha)) he ⟨z ▸ hit, p⟩ fun h' hx => ⟨rfl, I.turnedL (t' := s.toks) (ch := [n, n + 1]) (fun d o hd e => hx d o (fun z => hd (by simp [z])) e) hf⟩
  self := fun A i s Q E st h => wpAny_pyIter_enum st.1.choose_spec h
/-- enumerate(v): what is new -/
theorem enum_new1 {v : Value} {o : Obj} {C : Heap → Prop} (B : Begins v o C) : Meets (Builtin.«enumerate.__new__» ⟨[.type "enumerate", v], []⟩) (fun _ R s => C s.heap ∧
    R (.ok (.ret (.ref (s.heap.push o).objs.size))) { s with heap := (s.heap.push o).push { cls := .type "enumerate", data := .fields #[.none, .bool false, .ref s.heap.objs.size, rawInt 0, .none, .none] } }) :=
  .of_wp fun P w A R ⟨hp, g, d, tk, os⟩ ⟨h1, h⟩ => by
    have sub := sub_enumerate
    have go : ∀ {A' : Around} {E : Value → Shared → Prop} {Q : Value → Shared → Prop}, Q (.ref hp.objs.size) ⟨hp.push o, g, d, tk, os⟩ → wpAny (model P w) A' (pyIter v) Q E ⟨hp, g, d, tk, os⟩ := fun q => B.iter P w _ _ _ _ h1 q
    wp_walk using go
    refine wpAny_stack_any fun _ => wpAny_pure ?_
    split
    · rename_i c _ _ _ _ _
      cases (c == Value.type "enumerate") <;> (wp_walk using go; exact ⟨_, rfl, h⟩)
    · wp_walk using go
      exact ⟨_, rfl, h⟩
theorem enum_call1 {P : Program} {w : World} {A : Around} {E : Value → Shared → Prop} {s : Shared} {v : Value} {o : Obj} {C : Heap → Prop} {Q : Value → Shared → Prop} (B : Begins v o C) (h1 : C s.heap)
    (h : ∀ h', IsEnum h' (s.heap.objs.size + 1) s.heap.objs.size 0 .none → h'.get? s.heap.objs.size = some o → (∀ b u, s.heap.get? b = some u → h'.get? b = some u) → Q (.ref (s.heap.objs.size + 1)) { s with heap := h' }) :
    wpAny (model P w) A (call (.type "enumerate") [v]) Q E s := by
  refine callType_new F.called_enumerate (by decide) (F.typeCall_enumerate_1 _) (F.newCall_enumerate_1 _) (fun x => F.args_object_init_2 x _) F.entry_enumerate_new (enum_new1 B) ⟨h1, ?_⟩
  let e : Obj := { cls := .type "enumerate", data := .fields #[.none, .bool false, .ref s.heap.objs.size, rawInt 0, .none, .none] }
  have sz : (s.heap.push o).objs.size = s.heap.objs.size + 1 := Heap.size_push ..
  have ge : ((s.heap.push o).push e).get? (s.heap.push o).objs.size = some e := Heap.get?_push_size _ rfl
  refine ⟨⟨_, ge, rfl⟩, ?_⟩
  have := h ((s.heap.push o).push e) (by rw [sz] at ge; exact ge) (Heap.get?_push_of_some _ (Heap.get?_push_size _ B.free)) fun b u x => Heap.get?_push_of_some _ (Heap.get?_push_of_some _ x)
  rw [← sz] at this
  exact this
def iEn (Sq : SqOf) (K : PySem.W.Frag) (ta : TA) : TI := fun σ H R => ta σ H fun vs H1 => ∃ a xs, vs = [.ref a] ∧ Sq K H1 a xs ∧ R (Ien Sq K a 0) H1
theorem pi_en (D : Dr Sq) {X : Cx} {e : Expr} {ta : TA} {p pos tpos : Pos} {elts : List Expr} {kk : Nat} (hg : Gl X "enumerate") (hm : X.mg "enumerate" = none) (ha : PA X [e] ta) (hs : starEach [e] X.env = [(false, eval e X.env)] := by rfl) : PI X (.Tuple elts kk tpos) (.Call (.Name "enumerate" p) [e] [] pos) (iEn Sq X.K ta) :=
  ⟨fun pins s σ H R I h => by
    refine Call_ (ld_blt I hg hm boot_enumerate (PyProof.Rows.callWith_type1 (thn (ha.run pos pins s σ H _ I h) fun us s1 ⟨vs, H1, I1, r1, a, xs, ex, hq, q⟩ => ?_) hs rfl))
    subst ex
    obtain ⟨its, rv, p⟩ := D.read I1 hq
    obtain ⟨u, rfl, ra⟩ := vals1 r1
    rw [ref_of ra]
    refine enum_call1 (D.beg a _) p fun h' he hit hk => wpAny_pyIter_enum he ?_
    have he' : IsEnum h' (s1.heap.objs.size + 1) s1.heap.objs.size (0 + ((0 : Nat) : Int)) .none := he
    refine ⟨_, [s1.heap.objs.size, s1.heap.objs.size + 1], _, _, H1, rfl, I1.kept (t' := s1.toks) hk, turn_en D (D.old p), ⟨⟨.none, he'⟩, D.new hit⟩, fun d hd => ?_, q⟩
    have le : s1.heap.objs.size ≤ d := by
      rcases (by simpa using hd : d = s1.heap.objs.size ∨ d = s1.heap.objs.size + 1) with rfl | rfl
      · exact Nat.le_refl _
      · exact Nat.le_succ _
    exact I1.fpOk le (I1.hok.fresh le)⟩
end
end Pu
end TP13

section TP14
set_option Elab.async false
set_option linter.all false
set_option maxRecDepth 100000
set_option maxHeartbeats 4200000
namespace Pu
open PyProof.Rows L2 PySem PySem.Spec

section
variable {X : Cx} {mg : Str → Option Value} {W : WK} {k : Nat} {pos : Pos}
/-- a new tuple of data is handed out at each turn -/
theorem it_tup {J : It} {ds : List PyData} {G1 : Hp} (h : ∀ i G H, Ex G1 G → Ex G H → (∀ d, ds[i]? = some d → J.go i H ∧ ∀ x H', J.yld i H x H' → ∃ T vs es, x = .ref T ∧ H T = none ∧ H' = upd H T (.tup vs) ∧ d = .tuple es ∧ es.length ≤ LIM ∧ RpA G vs es) ∧ (i = ds.length → J.stop i H)) : ItOk J ds G1 := fun i G H e1 e2 => by
  obtain ⟨a, b⟩ := h i G H e1 e2
  refine ⟨fun d hd => ?_, b⟩
  obtain ⟨g, y⟩ := a d hd
  refine ⟨g, fun x H' hy => ?_⟩
  obtain ⟨T, vs, es, rfl, hT, rfl, rfl, hl, r⟩ := y x H' hy
  exact ⟨_, .laid e2 hT, .tup upd_same hl (r.mono (.new (e2.free hT)))⟩
def asZip2 : List PyData → Option (List PyData)
  | [.tuple xs, .tuple ys] => some (List.zipWith (fun a b => .tuple [a, b]) xs ys)
  | [.list xs, .list ys] => some (List.zipWith (fun a b => .tuple [a, b]) xs ys)
  | _ => none
def fZip2 (fs : M (List PyData)) : M (List PyData) := fs.bind fun a => M.lift (asZip2 a)
theorem zip2_get {xs ys : List PyData} {i : Nat} {d : PyData} (h : (List.zipWith (fun a b => PyData.tuple [a, b]) xs ys)[i]? = some d) : ∃ a b, xs[i]? = some a ∧ ys[i]? = some b ∧ d = .tuple [a, b] := by
  rw [List.getElem?_zipWith] at h
  cases ea : xs[i]? with
  | none => rw [ea] at h; cases h
  | some a =>
    cases eb : ys[i]? with
    | none => rw [ea, eb] at h; cases h
    | some b => rw [ea, eb] at h; cases h; exact ⟨a, b, rfl, rfl, rfl⟩
theorem zip2_len {xs ys : List PyData} {vx vy : List V} (l1 : vx.length = xs.length) (l2 : vy.length = ys.length) {i : Nat} (h : i = (List.zipWith (fun a b => PyData.tuple [a, b]) xs ys).length) : vx.length ≤ i ∨ vy.length ≤ i := by
  rw [List.length_zipWith] at h
  omega
theorem i_zip2 {e e2 : Expr} {fs : M (List PyData)} {p tpos : Pos} {elts : List Expr} {kk : Nat} (F : Fit X mg W k) (hm : mg "zip" = none) (ha : PA X [e, e2] (taOf mg W fs)) (hg : Gl X "zip" := by rfl)
    (hs : starEach [e, e2] X.env = (false, eval e X.env) :: starEach [e2] X.env := by rfl) (hpl : (backTo pos (starEach [e2] X.env)).any (·.1) = false := by rfl) : PI X (.Tuple elts kk tpos) (.Call (.Name "zip" p) [e, e2] [] pos) (iOf mg W (fZip2 fs)) :=
  (RZ.pi_zipA hg (by rw [F.mg]; exact hm) ha hs hpl).imp fun σ H R ⟨c, G, ρ, S, h⟩ => stepI S h fun v G1 H1 ρ1' a ds ea S1 e1 r1 hg kk => by
    unfold asZip2 at hg
    split at hg
    · cases hg
      cases r1 with
      | cons r r' =>
      cases r' with
      | cons r2 r' =>
      cases r'
      cases r with
      | @tup a1 vx _ h1 l1 q1 =>
      cases r2 with
      | @tup a2 vy _ h2 l2 q2 =>
      refine ⟨a1, a2, vx, vy, rfl, .inr ⟨SqT.of (S1.ex _ _ h1), SqT.of (S1.ex _ _ h2), kk _ (it_tup fun i G H g1 g2 => ⟨fun d hd => ?_, fun hi => ⟨vx, vy, SqT.of (g2 _ _ (g1 _ _ h1)), SqT.of (g2 _ _ (g1 _ _ h2)), zip2_len q1.length q2.length hi⟩⟩)⟩⟩
      obtain ⟨a, b, ga, gb, rfl⟩ := zip2_get hd
      obtain ⟨x, hx, rx⟩ := q1.get ga
      obtain ⟨y, hy, ry⟩ := q2.get gb
      have s1 : SqT X.K H a1 vx := SqT.of (g2 _ _ (g1 _ _ h1))
      have s2 : SqT X.K H a2 vy := SqT.of (g2 _ _ (g1 _ _ h2))
      refine ⟨⟨vx, vy, x, y, s1, s2, hx, hy⟩, fun u H' ⟨T, x', y', eu, hT, eH, z1, z2⟩ => ⟨T, _, _, eu, hT, eH, rfl, by show 2 ≤ LIM; decide, ?_⟩⟩
      have e1 := z1 vx s1
      have e2 := z2 vy s2
      rw [hx] at e1; rw [hy] at e2; cases e1; cases e2
      exact .cons (rx.mono g1) (.cons (ry.mono g1) .nil)
    · cases hg
      cases r1 with
      | cons r r' =>
      cases r' with
      | cons r2 r' =>
      cases r'
      cases r with
      | @lst a1 vx _ h1 l1 q1 =>
      cases r2 with
      | @lst a2 vy _ h2 l2 q2 =>
      refine ⟨a1, a2, vx, vy, rfl, .inl ⟨SqL.of (S1.ex _ _ h1), SqL.of (S1.ex _ _ h2), kk _ (it_tup fun i G H g1 g2 => ⟨fun d hd => ?_, fun hi => ⟨vx, vy, SqL.of (g2 _ _ (g1 _ _ h1)), SqL.of (g2 _ _ (g1 _ _ h2)), zip2_len q1.length q2.length hi⟩⟩)⟩⟩
      obtain ⟨a, b, ga, gb, rfl⟩ := zip2_get hd
      obtain ⟨x, hx, rx⟩ := q1.get ga
      obtain ⟨y, hy, ry⟩ := q2.get gb
      have s1 : SqL X.K H a1 vx := SqL.of (g2 _ _ (g1 _ _ h1))
      have s2 : SqL X.K H a2 vy := SqL.of (g2 _ _ (g1 _ _ h2))
      refine ⟨⟨vx, vy, x, y, s1, s2, hx, hy⟩, fun u H' ⟨T, x', y', eu, hT, eH, z1, z2⟩ => ⟨T, _, _, eu, hT, eH, rfl, by show 2 ≤ LIM; decide, ?_⟩⟩
      have e1 := z1 vx s1
      have e2 := z2 vy s2
      rw [hx] at e1; rw [hy] at e2; cases e1; cases e2
      exact .cons (rx.mono g1) (.cons (ry.mono g1) .nil)
    · cases hg
def zip3w : List PyData → List PyData → List PyData → List PyData
  | a :: as, b :: bs, c :: cs => .tuple [a, b, c] :: zip3w as bs cs
  | _, _, _ => []
theorem zip3_get : ∀ {xs ys zs : List PyData} {i : Nat} {d : PyData}, (zip3w xs ys zs)[i]? = some d → ∃ a b c, xs[i]? = some a ∧ ys[i]? = some b ∧ zs[i]? = some c ∧ d = .tuple [a, b, c]
  | a :: as, b :: bs, c :: cs, 0, d, h => by simp [zip3w] at h; exact ⟨a, b, c, rfl, rfl, rfl, h.symm⟩
  | a :: as, b :: bs, c :: cs, i + 1, d, h => by simp [zip3w] at h; simpa using zip3_get h
  | [], _, _, _, _, h => by simp [zip3w] at h
  | _ :: _, [], _, _, _, h => by simp [zip3w] at h
  | _ :: _, _ :: _, [], _, _, h => by simp [zip3w] at h
theorem zip3_len : ∀ {xs ys zs : List PyData}, xs.length = ys.length → xs.length = zs.length → (zip3w xs ys zs).length = xs.length
  | [], _, _, _, _ => rfl
  | a :: as, [], _, h, _ => by cases h
  | a :: as, b :: bs, [], _, h => by cases h
  | a :: as, b :: bs, c :: cs, h1, h2 => by show (zip3w as bs cs).length + 1 = as.length + 1; rw [zip3_len (Nat.succ.inj h1) (Nat.succ.inj h2)]
def asZip3 : List PyData → Option (List PyData)
  | [.tuple xs, .tuple ys, .tuple zs] => if xs.length = ys.length ∧ xs.length = zs.length then some (zip3w xs ys zs) else none
  | _ => none
def fZip3 (fs : M (List PyData)) : M (List PyData) := fs.bind fun a => M.lift (asZip3 a)
theorem i_zip3 {e1 e2 e3 : Expr} {fs : M (List PyData)} {p tpos : Pos} {elts : List Expr} {kk : Nat} (F : Fit X mg W k) (hm : mg "zip" = none) (ha : PA X [e1, e2, e3] (taOf mg W fs)) (hg : Gl X "zip" := by rfl)
    (hs : starEach [e1, e2, e3] X.env = (false, eval e1 X.env) :: starEach [e2, e3] X.env := by rfl) (hpl : (backTo pos (starEach [e2, e3] X.env)).any (·.1) = false := by rfl) : PI X (.Tuple elts kk tpos) (.Call (.Name "zip" p) [e1, e2, e3] [] pos) (iOf mg W (fZip3 fs)) :=
  (pi_zip3 hg (by rw [F.mg]; exact hm) ha hs hpl).imp fun σ H R ⟨c, G, ρ, S, h⟩ => stepI S h fun v G1 H1 ρ1' a ds ea S1 ex1 r1 hg kk => by
    unfold asZip3 at hg
    split at hg
    · split at hg <;> cases hg
      rename_i hlen
      cases r1 with
      | cons r r' =>
      cases r' with
      | cons r2 r' =>
      cases r' with
      | cons r3 r' =>
      cases r'
      cases r with
      | @tup a1 vx _ h1 l1 q1 =>
      cases r2 with
      | @tup a2 vy _ h2 l2 q2 =>
      cases r3 with
      | @tup a3 vz _ h3 l3 q3 =>
      refine ⟨a1, a2, a3, vx, vy, vz, rfl, SqT.of (S1.ex _ _ h1), SqT.of (S1.ex _ _ h2), SqT.of (S1.ex _ _ h3), kk _ (it_tup fun i G H g1 g2 => ⟨fun d hd => ?_, fun hi => ⟨vx, vy, vz, SqT.of (g2 _ _ (g1 _ _ h1)), SqT.of (g2 _ _ (g1 _ _ h2)), SqT.of (g2 _ _ (g1 _ _ h3)), by rw [hi, zip3_len hlen.1 hlen.2, q1.length], by rw [hi, zip3_len hlen.1 hlen.2, q2.length, hlen.1], by rw [hi, zip3_len hlen.1 hlen.2, q3.length, hlen.2]⟩⟩)⟩
      obtain ⟨a, b, c, ga, gb, gc, rfl⟩ := zip3_get hd
      obtain ⟨x, hx, rx⟩ := q1.get ga
      obtain ⟨y, hy, ry⟩ := q2.get gb
      obtain ⟨z, hz, rz⟩ := q3.get gc
      have s1 : SqT X.K H a1 vx := SqT.of (g2 _ _ (g1 _ _ h1))
      have s2 : SqT X.K H a2 vy := SqT.of (g2 _ _ (g1 _ _ h2))
      have s3 : SqT X.K H a3 vz := SqT.of (g2 _ _ (g1 _ _ h3))
      refine ⟨⟨vx, vy, vz, x, y, z, s1, s2, s3, hx, hy, hz⟩, fun u H' ⟨T, x', y', z', eu, hT, eH, k1, k2, k3⟩ => ⟨T, _, _, eu, hT, eH, rfl, by show 3 ≤ LIM; decide, ?_⟩⟩
      have e1 := k1 vx s1
      have e2 := k2 vy s2
      have e3 := k3 vz s3
      rw [hx] at e1; rw [hy] at e2; rw [hz] at e3; cases e1; cases e2; cases e3
      exact .cons (rx.mono g1) (.cons (ry.mono g1) (.cons (rz.mono g1) .nil))
    · cases hg
/-- enumerate -/
def enumD : Int → List PyData → List PyData
  | _, [] => []
  | c, d :: ds => .tuple [.int c, d] :: enumD (c + 1) ds
theorem enumD_len : ∀ (c : Int) (ds : List PyData), (enumD c ds).length = ds.length
  | _, [] => rfl
  | c, d :: ds => by show (enumD (c + 1) ds).length + 1 = _; rw [enumD_len]; rfl
theorem enumD_get : ∀ {c : Int} {ds : List PyData} {i : Nat} {d : PyData}, (enumD c ds)[i]? = some d → ∃ x, ds[i]? = some x ∧ d = .tuple [.int (c + (i : Nat)), x]
  | c, [], i, d, h => by simp [enumD] at h
  | c, x :: ds, 0, d, h => by simp [enumD] at h; exact ⟨x, rfl, by rw [← h]; simp⟩
  | c, x :: ds, i + 1, d, h => by
    simp only [enumD, List.getElem?_cons_succ] at h
    obtain ⟨y, h1, h2⟩ := enumD_get h
    refine ⟨y, by simpa using h1, ?_⟩
    rw [h2]
    have : c + 1 + (i : Int) = c + ((i + 1 : Nat) : Int) := by omega
    rw [this]
def asEnum : List PyData → Option (List PyData)
  | [.tuple xs] => some (enumD 0 xs)
  | [.list xs] => some (enumD 0 xs)
  | _ => none
def fEnum (fs : M (List PyData)) : M (List PyData) := fs.bind fun a => M.lift (asEnum a)
theorem i_enum {e : Expr} {fs : M (List PyData)} {p tpos : Pos} {elts : List Expr} {kk : Nat} (F : Fit X mg W k) (hm : mg "enumerate" = none) (ha : PA X [e] (taOf mg W fs)) (hg : Gl X "enumerate" := by rfl) (hs : starEach [e] X.env = [(false, eval e X.env)] := by rfl) : PI X (.Tuple elts kk tpos) (.Call (.Name "enumerate" p) [e] [] pos) (iOf mg W (fEnum fs)) :=
  (PI.or (pi_en drT hg (by rw [F.mg]; exact hm) ha hs) (pi_en drL hg (by rw [F.mg]; exact hm) ha hs)).imp fun σ H R ⟨c, G, ρ, S, h⟩ => by
    by_cases q : ∃ xs ρ1, fs ρ = .ok [.list xs] ρ1
    · obtain ⟨xs, ρ1, q⟩ := q
      refine .inr (stepI S h fun v G1 H1 ρ1' a ds ea S1 ex1 r1 hg kk => ?_)
      rw [q] at ea; cases ea
      cases hg
      cases r1 with
      | cons r r' =>
      cases r'
      cases r with
      | @lst a1 vx _ h1 l1 q1 =>
      refine ⟨a1, vx, rfl, SqL.of (S1.ex _ _ h1), kk _ (it_tup fun i G H g1 g2 => ⟨fun d hd => ?_, fun hi => ⟨vx, SqL.of (g2 _ _ (g1 _ _ h1)), by rw [hi, enumD_len, q1.length]⟩⟩)⟩
      obtain ⟨a, ga, rfl⟩ := enumD_get hd
      obtain ⟨x, hx, rx⟩ := q1.get ga
      have s1 : SqL X.K H a1 vx := SqL.of (g2 _ _ (g1 _ _ h1))
      refine ⟨⟨vx, x, s1, hx⟩, fun u H' ⟨T, x', eu, hT, eH, k1⟩ => ⟨T, _, _, eu, hT, eH, rfl, by show 2 ≤ LIM; decide, ?_⟩⟩
      have e1 := k1 vx s1
      rw [hx] at e1; cases e1
      exact .cons (.int _) (.cons (rx.mono g1) .nil)
    · refine .inl (stepI S h fun v G1 H1 ρ1' a ds ea S1 ex1 r1 hg kk => ?_)
      unfold asEnum at hg
      split at hg
      · cases hg
        cases r1 with
        | cons r r' =>
        cases r'
        cases r with
        | @tup a1 vx _ h1 l1 q1 =>
        refine ⟨a1, vx, rfl, SqT.of (S1.ex _ _ h1), kk _ (it_tup fun i G H g1 g2 => ⟨fun d hd => ?_, fun hi => ⟨vx, SqT.of (g2 _ _ (g1 _ _ h1)), by rw [hi, enumD_len, q1.length]⟩⟩)⟩
        obtain ⟨a, ga, rfl⟩ := enumD_get hd
        obtain ⟨x, hx, rx⟩ := q1.get ga
        have s1 : SqT X.K H a1 vx := SqT.of (g2 _ _ (g1 _ _ h1))
        refine ⟨⟨vx, x, s1, hx⟩, fun u H' ⟨T, x', eu, hT, eH, k1⟩ => ⟨T, _, _, eu, hT, eH, rfl, by show 2 ≤ LIM; decide, ?_⟩⟩
        have e1 := k1 vx s1
        rw [hx] at e1; cases e1
        exact .cons (.int _) (.cons (rx.mono g1) .nil)
      · exact absurd ⟨_, _, ea⟩ q
      · cases hg
/-- reversed(range(n)) -/
def downTo (n : Nat) : List PyData := (List.range n).map fun (i : Nat) => PyData.int ((n : Int) - 1 - (i : Int))
def asRev1 : List PyData → Option (List PyData)
  | [.int n] => if -(2 ^ 62) ≤ n ∧ n ≤ 1000000 then some (downTo n.toNat) else none
  | _ => none
def fRev1 (fs : M (List PyData)) : M (List PyData) := fs.bind fun a => M.lift (asRev1 a)
theorem downTo_get {n i : Nat} {d : PyData} (h : (downTo n)[i]? = some d) : i < n ∧ d = .int ((n : Int) - 1 - (i : Int)) := by
  unfold downTo at h
  rw [List.getElem?_map] at h
  cases e : (List.range n)[i]? with
  | none => rw [e] at h; exact nomatch h
  | some j =>
    rw [e] at h; cases h
    obtain ⟨hi, hj⟩ := List.getElem?_eq_some_iff.mp e
    rw [List.length_range] at hi
    have : i = j := by simpa using hj
    subst this
    exact ⟨hi, rfl⟩
theorem downTo_len {n : Nat} : (downTo n).length = n := by simp [downTo]
end
end Pu
end TP14

section TP15
set_option Elab.async false
set_option linter.all false
set_option maxRecDepth 100000
set_option maxHeartbeats 4200000
namespace Pu
open PyProof.Rows L2 PySem PySem.Spec

section
variable {X : Cx} {mg : Str → Option Value} {W : WK} {k : Nat} {pos : Pos}
theorem i_rev1 {tg a : Expr} {fs : M PyData} {p p2 pos2 : Pos} (F : Fit X mg W k) (hm : mg "range" = none) (hm2 : mg "reversed" = none) (ha : PE X a (tOf mg W fs)) (hg : Gl X "range" := by rfl) (hg2 : Gl X "reversed" := by rfl)
    (hs : starEach [a] X.env = (false, eval a X.env) :: starEach [] X.env := by rfl) (hs2 : starEach [.Call (.Name "range" p) [a] [] pos] X.env = (false, eval (.Call (.Name "range" p) [a] [] pos) X.env) :: starEach [] X.env := by rfl) :
    PI X tg (.Call (.Name "reversed" p2) [.Call (.Name "range" p) [a] [] pos] [] pos2) (iOf mg W (fRev1 (fCons fs fNil))) :=
  (pi_revR hg2 (by rw [F.mg]; exact hm2) (prg_1 hg (by rw [F.mg]; exact hm) ha hs) hs2).imp fun σ H R ⟨c, G, ρ, S, h⟩ => by
    refine ⟨c, G, ρ, S, ?_⟩
    unfold fRev1 fCons fNil M.bind M.pure at h
    cases e : fs ρ with
    | no => rw [e] at h; exact h
    | exc x ρ1 => rw [e] at h; exact h
    | ok d ρ1 =>
      rw [e] at h
      dsimp only at h
      intro v G1 H1 S1 e1 r1
      unfold M.lift asRev1 at h
      cases d with
      | int n =>
        dsimp only at h
        split at h
        · rename_i ds ρ2 heq
          split at heq
          · rename_i ds' hq
            split at hq <;> cases hq
            cases heq
            rename_i hl
            cases r1
            refine ⟨n, rfl, by omega, by omega, by omega, by omega, h _ G1 H1 S1 e1 fun i G H g1 g2 => ⟨fun d hd => ?_, fun hi => ?_⟩⟩
            · obtain ⟨hi, rfl⟩ := downTo_get hd
              have e0 : (n - 0).toNat = n.toNat := by rw [Int.sub_zero]
              refine ⟨by show i < (n - 0).toNat; rw [e0]; exact hi, fun x H' hy => ?_⟩
              obtain ⟨rfl, rfl⟩ := hy
              refine ⟨G, .refl g2, ?_⟩
              have e2 : (0 : Int) + (((n - 0).toNat : Nat) : Int) - 1 + (i : Nat) * (-1) = ((n.toNat : Nat) : Int) - 1 - (i : Int) := by rw [e0]; omega
              rw [e2]
              exact .int _
            · show (n - 0).toNat ≤ i
              rw [Int.sub_zero, hi, downTo_len]; exact Nat.le_refl _
          · cases heq
        · rename_i heq
          split at heq <;> cases heq
        · exact h.elim
      | _ => exact h.elim
/-! range(..) made a list, a tuple -/
def gRg (wrap : List PyData → PyData) (n : PyData) : Option PyData := match n with
  | .int n => if -(2 ^ 62) ≤ n ∧ n ≤ 1000000 then some (wrap (upTo 0 n.toNat)) else none
  | _ => none
theorem rgV_rp {G : Hp} (n : Int) : RpA G (rgV 0 n) (upTo 0 n.toNat) := by
  unfold rgV upTo
  rw [Int.sub_zero]
  generalize List.range n.toNat = l
  induction l with
  | nil => exact .nil
  | cons a l ih => exact .cons (.int _) ih
theorem RgOk_le {m : Int} (h1 : -(2 ^ 62) ≤ m) (h2 : m ≤ 1000000) : RgOk 0 m := ⟨by omega, by omega, by omega, by omega, by omega⟩
theorem x_listRg {a : Expr} {fa : M PyData} {p p2 pos2 : Pos} (F : Fit X mg W k) (hm : mg "range" = none) (hm2 : mg "list" = none) (ha : PE X a (tOf mg W fa)) (hg : Gl X "range" := by rfl) (hg2 : Gl X "list" := by rfl)
    (hs : starEach [a] X.env = (false, eval a X.env) :: starEach [] X.env := by rfl) (hs2 : starEach [.Call (.Name "range" p) [a] [] pos] X.env = (false, eval (.Call (.Name "range" p) [a] [] pos) X.env) :: starEach [] X.env := by rfl) :
    PE X (.Call (.Name "list" p2) [.Call (.Name "range" p) [a] [] pos] [] pos2) (tOf mg W (f1 (gRg .list) fa)) :=
  (pe_listRg F.calm hg2 (by rw [F.mg]; exact hm2) (prg_1 hg (by rw [F.mg]; exact hm) ha hs) hs2).imp fun σ H Q ⟨c, G, ρ, S, h⟩ => step S h fun v G1 H1 ρ1 d S1 e1 r1 h1 => by
    obtain ⟨z, hz, n⟩ := lift_gr (α := PyData) S1 h1
    unfold gRg at hz
    split at hz
    · rename_i m
      split at hz <;> cases hz
      rename_i hl
      cases r1
      have hn : m.toNat ≤ LIM := by show m.toNat ≤ 1000000; omega
      exact ⟨m, rfl, RgOk_le hl.1 hl.2, fun q hq => n _ _ _ (.laid S1.ex hq) (.lst upd_same (by rw [upTo_len]; exact hn) (rgV_rp m))⟩
    · cases hz
theorem x_tupRg {a : Expr} {fa : M PyData} {p p2 pos2 : Pos} (F : Fit X mg W k) (hm : mg "range" = none) (hm2 : mg "tuple" = none) (ha : PE X a (tOf mg W fa)) (hg : Gl X "range" := by rfl) (hg2 : Gl X "tuple" := by rfl)
    (hs : starEach [a] X.env = (false, eval a X.env) :: starEach [] X.env := by rfl) (hs2 : starEach [.Call (.Name "range" p) [a] [] pos] X.env = (false, eval (.Call (.Name "range" p) [a] [] pos) X.env) :: starEach [] X.env := by rfl) :
    PE X (.Call (.Name "tuple" p2) [.Call (.Name "range" p) [a] [] pos] [] pos2) (tOf mg W (f1 (gRg .tuple) fa)) :=
  (pe_tupRg F.calm hg2 (by rw [F.mg]; exact hm2) (prg_1 hg (by rw [F.mg]; exact hm) ha hs) hs2).imp fun σ H Q ⟨c, G, ρ, S, h⟩ => step S h fun v G1 H1 ρ1 d S1 e1 r1 h1 => by
    obtain ⟨z, hz, n⟩ := lift_gr (α := PyData) S1 h1
    unfold gRg at hz
    split at hz
    · rename_i m
      split at hz <;> cases hz
      rename_i hl
      cases r1
      have hn : m.toNat ≤ LIM := by show m.toNat ≤ 1000000; omega
      exact ⟨m, rfl, RgOk_le hl.1 hl.2, fun q hq => n _ _ _ (.laid S1.ex hq) (.tup upd_same (by rw [upTo_len]; exact hn) (rgV_rp m))⟩
    · cases hz
/-! ### slices -/
def fO0 : M (Option Int) := M.pure none
def asI : PyData → Option (Option Int)
  | .int i => some (some i)
  | _ => none
def fO (fa : M PyData) : M (Option Int) := fa.bind fun a => M.lift (asI a)
theorem o_none : PO X none (tiOf mg W fO0) := ⟨fun pins s σ H Q I ⟨c, G, ρ, S, h⟩ => po_none.run pins s σ H Q I (h none G H S (.refl G) rfl)⟩
theorem o_some {e : Expr} {fa : M PyData} (ha : PE X e (tOf mg W fa)) : PO X (some e) (tiOf mg W (fO fa)) := (po_some ha).imp fun σ H Q ⟨c, G, ρ, S, h⟩ => step S h fun v G1 H1 ρ1 d S1 e1 r1 h1 => by
  obtain ⟨z, hz, n⟩ := lift_some h1
  cases r1 <;> cases hz
  exact ⟨_, rfl, n _ G1 H1 S1 (.refl _) rfl⟩
def cutD (xs : List PyData) (lo hi : Option Int) : List PyData := (xs.drop (HT.sIx xs.length 0 lo)).take (HT.sIx xs.length xs.length hi - HT.sIx xs.length 0 lo)
theorem cutD_rp {G : Hp} {vs : List V} {ds : List PyData} (r : RpA G vs ds) (lo hi : Option Int) : RpA G (cutV vs lo hi) (cutD ds lo hi) := by
  unfold cutV cutD
  rw [r.length]
  exact (r.drop _).take _
theorem cutD_len (ds : List PyData) (lo hi : Option Int) : (cutD ds lo hi).length ≤ ds.length := by
  unfold cutD
  simp only [List.length_take, List.length_drop]
  omega
def pCut (d : PyData) (lo hi : Option Int) : Option PyData := match d with
  | .tuple xs => some (.tuple (cutD xs lo hi))
  | .list xs => some (.list (cutD xs lo hi))
  | _ => none
def fCut (fa : M PyData) (fl fh : M (Option Int)) : M PyData := fa.bind fun a => fl.bind fun l => fh.bind fun h => M.lift (pCut a l h)
theorem sIx_lo {n : Nat} {lo : Option Int} (h : HT.sIx n 0 lo = 0) : True := trivial
theorem cut_whole {vs : List PyData} {lo hi : Option Int} (h : HT.sIx vs.length 0 lo = 0 ∧ HT.sIx vs.length vs.length hi = vs.length) : cutD vs lo hi = vs := by
  unfold cutD
  rw [h.1, h.2]
  simp
theorem x_cut {e : Expr} {lo hi : Option Expr} {p2 : Pos} {fa : M PyData} {fl fh : M (Option Int)} (ha : PE X e (tOf mg W fa)) (hl : PO X lo (tiOf mg W fl)) (hh : PO X hi (tiOf mg W fh)) : PE X (.Subscript e (.Slice lo hi none p2) pos) (tOf mg W (fCut fa fl fh)) :=
  (pe_slice (SlR.or sl_tupA sl_list) ha hl hh).imp fun σ H Q ⟨c, G, ρ, S, h⟩ => step S h fun v G1 H1 ρ1 d S1 e1 r1 h1 => step S1 h1 fun l G2 H2 ρ2 l' S2 e2 r2 h2 => step S2 h2 fun u G3 H3 ρ3 u' S3 e3 r3 h3 => by
    cases r2; cases r3
    have r1 := r1.mono (e2.trans e3)
    obtain ⟨z, hz, n⟩ := lift_gr (α := PyData) S3 h3
    unfold pCut at hz
    split at hz <;> cases hz
    · cases r1 with
      | @tup a vs _ hg hlen q =>
      refine .inl ⟨a, vs, rfl, SqT.of (S3.ex _ _ hg), fun hw => ?_, fun hw p hp => ?_⟩
      · rw [q.length] at hw
        refine n _ G3 H3 (.refl S3.ex) ?_
        rw [cut_whole hw]
        exact .tup hg hlen q
      · exact n _ _ _ (.laid S3.ex hp) (.tup upd_same (Nat.le_trans (cutD_len _ _ _) hlen) (RpA.mono (.new (S3.ex.free hp)) (cutD_rp q l u)))
    · cases r1 with
      | @lst a vs _ hg hlen q =>
      exact .inr ⟨a, vs, rfl, SqL.of (S3.ex _ _ hg), fun p hp => n _ _ _ (.laid S3.ex hp) (.lst upd_same (Nat.le_trans (cutD_len _ _ _) hlen) (RpA.mono (.new (S3.ex.free hp)) (cutD_rp q l u)))⟩
/-! ### *e among the items -/
def fStar (fa : M PyData) (fr : M (List PyData)) : M (List PyData) := fa.bind fun a => (M.lift (asSeq a)).bind fun xs => fr.bind fun r => M.pure (xs ++ r)
theorem x_star {e : Expr} {es : List Expr} {p : Pos} {fa : M PyData} {fr : M (List PyData)} (ha : PE X e (tOf mg W fa)) (hr : PA X es (taOf mg W fr)) (hs : starEach (.Starred e p :: es) X.env = (true, eval e X.env) :: starEach es X.env := by rfl) : PA X (.Starred e p :: es) (taOf mg W (fStar fa fr)) :=
  (StX.pa_star ha hr hs).imp fun σ H Q ⟨c, G, ρ, S, h⟩ => step S h fun v G1 H1 ρ1 d S1 e1 r1 h1 => by
    unfold M.lift M.bind at h1
    dsimp only at h1
    cases ex : asSeq d with
    | none => rw [ex] at h1; exact h1.elim
    | some xs =>
      rw [ex] at h1
      dsimp only at h1
      have : ∃ p vs, v = V.ref p ∧ (SqT X.K H1 p vs ∨ SqL X.K H1 p vs) ∧ RpA G1 vs xs := by
        unfold asSeq at ex
        split at ex <;> cases ex
        · cases r1 with
          | lst hg hl q => exact ⟨_, _, rfl, .inr (SqL.of (S1.ex _ _ hg)), q⟩
        · cases r1 with
          | tup hg hl q => exact ⟨_, _, rfl, .inl (SqT.of (S1.ex _ _ hg)), q⟩
      obtain ⟨p, vs, rfl, sq, q⟩ := this
      refine ⟨p, vs, rfl, sq, step (fa := fr) (k := fun r => M.pure (xs ++ r)) S1 h1 fun ys G2 H2 ρ2 b S2 e2 r2 h2 => ?_⟩
      exact h2 _ G2 H2 S2 (.refl _) ((q.mono e2).append r2)
/-! ### a, b = x, y -/
def sPar (js : List Nat) (f : M (List PyData)) : SM := sE f fun ds ρ => match js, ds with
  | [i, j], [a, b] => .nx ((ρ.set i (.dat a)).set j (.dat b))
  | [i, j, l], [a, b, c] => .nx (((ρ.set i (.dat a)).set j (.dat b)).set l (.dat c))
  | _, _ => .no
theorem s_par {i j : Nat} {x y : Str} {a b : Expr} {fs : M (List PyData)} {px py pt : Pos} {kt k2 pt2} (F : Fit X mg W k) (hi : X.N[i]? = some x) (hj : X.N[j]? = some y) (hij : i ≠ j) (hx : X.env.scope.names.lookup x = some .local) (hy : X.env.scope.names.lookup y = some .local) (ha : PA X [a, b] (taOf mg W fs))
    (hw : swappedStores [.Tuple [.Name x px, .Name y py] kt pt] (.Tuple [a, b] k2 pt2) X.env = pure (some [x, y])) (hs : swapsWithSole [.Tuple [.Name x px, .Name y py] kt pt] (.Tuple [a, b] k2 pt2) pos.line X.env = pure false := by rfl) :
    PS X (.Assign [.Tuple [.Name x px, .Name y py] kt pt] (.Tuple [a, b] k2 pt2) pos) (sOf mg W (sPar [i, j] fs)) :=
  (ps_par F.calm F.nd hi hj hij hx hy ha hw hs).imp fun D σ H ⟨c, G, ρ, S, h⟩ => stepS S h fun v G1 H1 ρ1 d S1 e1 r1 h1 => by
    split at h1
    · rename_i heq
      cases heq
      cases r1 with
      | cons ra rr =>
      cases rr with
      | cons rb rr =>
      cases rr
      exact ⟨_, _, rfl, h1 _ G1 H1 ((S1.setDat ra).setDat rb) (.refl _)⟩
    · rename_i heq; cases heq
    · exact h1.elim
theorem s_par3 {i j l : Nat} {x y z : Str} {a b c : Expr} {fs : M (List PyData)} {px py pz pt : Pos} {kt k2 pt2} (F : Fit X mg W k) (hi : X.N[i]? = some x) (hj : X.N[j]? = some y) (hl : X.N[l]? = some z) (hij : i ≠ j) (hil : i ≠ l) (hjl : j ≠ l)
    (hx : X.env.scope.names.lookup x = some .local) (hy : X.env.scope.names.lookup y = some .local) (hz : X.env.scope.names.lookup z = some .local) (ha : PA X [a, b, c] (taOf mg W fs))
    (hw : swappedStores [.Tuple [.Name x px, .Name y py, .Name z pz] kt pt] (.Tuple [a, b, c] k2 pt2) X.env = pure (some [x, y, z])) (hs : swapsWithSole [.Tuple [.Name x px, .Name y py, .Name z pz] kt pt] (.Tuple [a, b, c] k2 pt2) pos.line X.env = pure false := by rfl) :
    PS X (.Assign [.Tuple [.Name x px, .Name y py, .Name z pz] kt pt] (.Tuple [a, b, c] k2 pt2) pos) (sOf mg W (sPar [i, j, l] fs)) :=
  (ps_par3 F.calm F.nd hi hj hl hij hil hjl hx hy hz ha hw hs).imp fun D σ H ⟨c, G, ρ, S, h⟩ => stepS S h fun v G1 H1 ρ1 d S1 e1 r1 h1 => by
    split at h1
    · rename_i heq; cases heq
    · rename_i heq
      cases heq
      cases r1 with
      | cons ra rr =>
      cases rr with
      | cons rb rr =>
      cases rr with
      | cons rc rr =>
      cases rr
      exact ⟨_, _, _, rfl, h1 _ G1 H1 (((S1.setDat ra).setDat rb).setDat rc) (.refl _)⟩
    · exact h1.elim
end
end Pu
end TP15

section TP16
set_option Elab.async false
set_option linter.all false
set_option maxRecDepth 100000
set_option maxHeartbeats 4200000
namespace Pu
open PyProof.Rows L2 PySem PySem.Spec

/-! ### the law's row: [script, a, b, c] -/
def Drw.at (w : Drw) : Nat → Option Int
  | 1 => some w.a
  | 2 => some w.b
  | 3 => some w.c
  | _ => none
def Drw.put (w : Drw) (v : Int) : Nat → Option Drw
  | 1 => some { w with a := v }
  | 2 => some { w with b := v }
  | 3 => some { w with c := v }
  | _ => none
def fRow (i j : Nat) : M PyData := fun ρ => match ρ[i]? with
  | some (.par _ w) => (match w.at j with | some v => .ok (.int v) ρ | none => .no)
  | _ => .no
def fScr (i : Nat) : M (List Int) := fun ρ => match ρ[i]? with
  | some (.par _ w) => .ok w.script ρ
  | _ => .no
def rScr : Rel V (List Int) := fun κ _ G _ _ _ v s => ∃ sa, v = .ref sa ∧ SqL κ G sa (s.map V.int)
theorem sqL_rd {K : PySem.W.Frag} {H : Hp} {a : Addr} {xs : List V} (h : Rd H a (.lst xs)) : SqL K H a xs := .inl h
section
variable {X : Cx} {mg : Str → Option Value} {W : WK} {k : Nat} {pos : Pos}
theorem x_row (i j : Nat) {rx : Str} {p1 p2 : Pos} {kk : Nat} (hN : X.N[i]? = some rx) (hv : Vis X.env.scope rx) (hd : (rx == ("__debug__" : Str)) = false := by decide) (hcd : (rx == ("__classdict__" : Str)) = false := by decide) (hs : PlainIx (.Constant (.int (j : Int)) kk p2) := by exact fun _ _ => rfl) :
    PE X (.Subscript (.Name rx p1) (.Constant (.int (j : Int)) kk p2) pos) (tOf mg W (fRow i j)) := (pe_ix ix_list (pe_var hN hv hd hcd) pe_int hs).imp fun σ H Q ⟨c, G, ρ, S, h⟩ => by
  unfold fRow at h
  split at h
  · rename_i loc w eo
    obtain ⟨y, hy, q, rfl, gq, hq0, sa, row, rd⟩ := S.sl i _ eo
    split at h
    · rename_i v ev
      refine ⟨_, hy, q, _, _, .int v, rfl, rfl, SqL.of row, ?_, h _ G H S (.refl _) (.int v)⟩
      match j, ev with
      | 1, ev => cases ev; rfl
      | 2, ev => cases ev; rfl
      | 3, ev => cases ev; rfl
    · exact h.elim
  · exact h.elim
theorem x_scr (i : Nat) {rx : Str} {p1 p2 : Pos} {kk : Nat} (hN : X.N[i]? = some rx) (hv : Vis X.env.scope rx) (hd : (rx == ("__debug__" : Str)) = false := by decide) (hcd : (rx == ("__classdict__" : Str)) = false := by decide) (hs : PlainIx (.Constant (.int 0) kk p2) := by exact fun _ _ => rfl) :
    PE X (.Subscript (.Name rx p1) (.Constant (.int 0) kk p2) pos) (wOf mg W rScr (fScr i)) := (pe_ix ix_list (pe_var hN hv hd hcd) pe_int hs).imp fun σ H Q ⟨c, G, ρ, S, h⟩ => by
  unfold fScr at h
  split at h
  · rename_i loc w eo
    obtain ⟨y, hy, q, rfl, gq, hq0, sa, row, rd⟩ := S.sl i _ eo
    exact ⟨_, hy, q, _, _, .ref sa, rfl, rfl, SqL.of row, rfl, h _ G H S (.refl _) ⟨sa, rfl, rd⟩⟩
  · exact h.elim
/-- len(row[0]) -/
def fScrLen (i : Nat) : M PyData := (fScr i).bind fun s => M.pure (.int s.length)
theorem x_slen {i : Nat} {e : Expr} {p : Pos} (F : Fit X mg W k) (hm : mg "len" = none) (he : PE X e (wOf mg W rScr (fScr i))) (hg : Gl X "len" := by rfl) (hs : starEach [e] X.env = (false, eval e X.env) :: starEach [] X.env := by rfl) (hpl : (backTo pos (starEach [] X.env)).any (·.1) = false := by rfl) :
    PE X (.Call (.Name "len" p) [e] [] pos) (tOf mg W (fScrLen i)) :=
  (pe_callB call_len_seq hg (by rw [F.mg]; exact hm) boot_len (pa_cons he pa_nil hs) (by decide) (by decide) hs hpl).imp fun σ H Q ⟨c, G, ρ, S, h⟩ => by
    show wOf mg W rScr (fScr i) σ H _
    refine step S h fun v G1 H1 ρ1 s S1 e1 ⟨sa, ev, sq⟩ h1 => ?_
    subst ev
    have h2 := Res.pureB h1 S1 (b := V.int (s.length : Int)) (.int _)
    exact ⟨sa, _, rfl, .inl (by rw [F.kk]; exact sqL_ex S1.ex sq), by rw [List.length_map]; exact h2⟩
/-- row[0][e] -/
def asInt : PyData → Option Int
  | .int i => some i
  | _ => none
def fScrAt (i : Nat) (fk : M PyData) : M PyData := (fScr i).bind fun s => fk.bind fun d => M.lift ((asInt d).bind fun j => (atI s j).map .int)
theorem atI_map {s : List Int} {j v : Int} (h : atI s j = some v) : atI (s.map V.int) j = some (V.int v) := by
  unfold atI at h ⊢
  rw [List.length_map]
  revert h
  cases ixN s.length j with
  | none => intro h; cases h
  | some m =>
    intro h
    have h' : s[m]? = some v := h
    show (s.map V.int)[m]? = some (V.int v)
    rw [List.getElem?_map, h'] <;> rfl
theorem x_sat {i : Nat} {e b : Expr} {fk : M PyData} (F : Fit X mg W k) (he : PE X e (wOf mg W rScr (fScr i))) (hb : PE X b (tOf mg W fk)) (hs : PlainIx b := by exact fun _ _ => rfl) : PE X (.Subscript e b pos) (tOf mg W (fScrAt i fk)) :=
  (pe_ix ix_list he hb hs).imp fun σ H Q ⟨c, G, ρ, S, h⟩ => by
    refine step S h fun v G1 H1 ρ1 s S1 e1 ⟨sa, ev, sq⟩ h1 => ?_
    subst ev
    refine step S1 h1 fun u G2 H2 ρ2 d S2 e2 r2 h2 => ?_
    obtain ⟨z, hz, n⟩ := lift_gr (α := PyData) S2 h2
    obtain ⟨j, ej, hz⟩ := Option.bind_eq_some_iff.mp hz
    obtain ⟨v, ev, rfl⟩ := Option.map_eq_some_iff.mp hz
    cases r2 <;> cases ej
    exact ⟨sa, _, _, .int v, rfl, rfl, (by rw [F.kk]; exact sqL_ex S2.ex (sqL_ex e2 sq)), atI_map ev, n _ G2 H2 (.refl S2.ex) (.int v)⟩
/-- row[j] = e -/
def sRow (i j : Nat) (f : M PyData) : SM := sE f fun d ρ => match ρ[i]?, asInt d with
  | some (.par l w), some v => (match w.put v j with | some w' => .nx (ρ.set i (.par l w')) | none => .no)
  | _, _ => .no
def needP (i : Nat) {α : Type} (m : M α) : M α := fun ρ => match ρ[i]? with
  | some (.par _ _) => m ρ
  | _ => .no
theorem s_row (i j : Nat) {e : Expr} {rx : Str} {p1 p2 p3 : Pos} {kk : Nat} {f : M PyData} (hN : X.N[i]? = some rx) (hv : Vis X.env.scope rx) (he : PE X e (tOf mg W f)) (hd : (rx == ("__debug__" : Str)) = false := by decide) (hcd : (rx == ("__classdict__" : Str)) = false := by decide)
    (hs : swapsWithSole [.Subscript (.Name rx p1) (.Constant (.int (j : Int)) kk p3) p2] e pos.line X.env = pure false := by rfl) (hw : swappedStores [.Subscript (.Name rx p1) (.Constant (.int (j : Int)) kk p3) p2] e X.env = pure none := by rfl)
    (h1 : (assignEach [.Subscript (.Name rx p1) (.Constant (.int (j : Int)) kk p3) p2] X.env).map (·.2) = [assign (.Subscript (.Name rx p1) (.Constant (.int (j : Int)) kk p3) p2) X.env] := by rfl)
    (ha : ∀ v, assign (.Subscript (.Name rx p1) (.Constant (.int (j : Int)) kk p3) p2) X.env v = (do
      let ov ← holding [v] (eval (.Name rx p1) X.env)
      let iv ← holding [v, ov] (eval (.Constant (.int (j : Int)) kk p3) X.env)
      standAt p2; holding [v, ov, iv] (setItem ov iv v)
      release [v, ov, iv] []) := by intro _; rfl) :
    PS X (.Assign [.Subscript (.Name rx p1) (.Constant (.int (j : Int)) kk p3) p2] e pos) (sOf mg W (sRow i j f)) := (ps_asg he (pg_sub (pe_var hN hv hd hcd) pe_int set_list ha) hs hw h1).imp fun D σ H ⟨c, G, ρ, S, h⟩ => by
  refine stepS S h fun v G1 H1 ρ1 d S1 e1 r1 h1 => ?_
  split at h1
  · rename_i l w v eo ev
    split at h1
    · rename_i w' ew
      obtain ⟨y, hy, q, rfl, gq, hq0, sa, row, rd⟩ := S1.sl i _ eo
      cases r1 <;> cases ev
      refine ⟨_, hy, q, _, _, j, rfl, rfl, row, ?_, ?_⟩
      · match j, ew with
        | 1, _ => rfl
        | 2, _ => rfl
        | 3, _ => rfl
      · refine h1 _ G1 _ (S1.change eo hy rfl (fun d d' z => nomatch z) (fun l1 d d' ed ed' => ?_) (.inr ⟨_, _, _, rfl, rfl⟩)) (.refl _)
        cases ed'
        refine ⟨sa, ?_, ?_⟩
        · rw [upd_same]
          match j, ew with
          | 1, ew => cases ew; rfl
          | 2, ew => cases ew; rfl
          | 3, ew => cases ew; rfl
        · match j, ew with
          | 1, ew => cases ew; exact rd
          | 2, ew => cases ew; exact rd
          | 3, ew => cases ew; exact rd
    · exact h1.elim
  · exact h1.elim
/-- row = [script, 0, n, 0] -/
def sMkRow (i j : Nat) (n : Int) : SM := fun ρ => match ρ[j]? with
  | some (.scr s) => .nx (ρ.set i (.par true ⟨s, 0, n, 0⟩))
  | _ => .no
theorem Stt.setPar {κ : PySem.W.Frag} {c : Fc κ} {G H : Hp} {σ : L2.St} {ρ : Env} (S : Stt c G H σ ρ) {i : Nat} {p : Addr} {w : Drw} (hg : G p = none) (h0 : c.H0 p = none) (ow : RowAt κ G H p w)
    (free : ∀ (j : Nat) s, ρ[j]? = some s → isMut s = true → σ[j]? ≠ some (some (V.ref p))) : Stt c G H (σ.set i (some (.ref p))) (ρ.set i (.par true w)) where
  ex := S.ex
  ex0 := S.ex0
  old := S.old
  new := S.new
  pin := S.pin
  len := by simp [S.len]
  sl := fun j s e => by
    by_cases z : i = j
    · subst z
      have hi : i < ρ.length := by simpa using (List.getElem?_eq_some_iff.mp e).1
      rw [List.getElem?_set_self hi] at e
      rw [List.getElem?_set_self (by rw [S.len]; exact hi)]
      cases e
      exact ⟨_, rfl, p, rfl, hg, h0, ow⟩
    · rw [List.getElem?_set_ne z] at e ⊢
      exact S.sl j s e
  apart := fun a b s t q e1 e2 m1 m2 h1 h2 => by
    by_cases za : i = a
    · by_cases zb : i = b
      · omega
      · rw [List.getElem?_set_ne zb] at e2 h2
        subst za
        have hi : i < ρ.length := by simpa using (List.getElem?_eq_some_iff.mp e1).1
        rw [List.getElem?_set_self (by rw [S.len]; exact hi)] at h1
        cases h1
        exact absurd h2 (free b t e2 m2)
    · rw [List.getElem?_set_ne za] at e1 h1
      by_cases zb : i = b
      · subst zb
        have hi : i < ρ.length := by simpa using (List.getElem?_eq_some_iff.mp e2).1
        rw [List.getElem?_set_self (by rw [S.len]; exact hi)] at h2
        cases h2
        exact absurd h1 (free a s e1 m1)
      · rw [List.getElem?_set_ne zb] at e2 h2
        exact S.apart a b s t q e1 e2 m1 m2 h1 h2
theorem s_mkRow (i j : Nat) {n : Int} {rx sx : Str} {p1 p2 p3 p4 p5 p6 : Pos} {k1 k2 k3 : Nat} (F : Fit X mg W k) (hi : X.N[i]? = some rx) (hx : Loc X.env.scope rx) (hj : X.N[j]? = some sx) (hv : Vis X.env.scope sx)
    (hd : (sx == ("__debug__" : Str)) = false := by decide) (hcd : (sx == ("__classdict__" : Str)) = false := by decide)
    (ha : starEach [.Name sx p2, .Constant (.int 0) k1 p3, .Constant (.int n) k2 p4, .Constant (.int 0) k3 p5] X.env = (false, eval (.Name sx p2) X.env) :: starEach [.Constant (.int 0) k1 p3, .Constant (.int n) k2 p4, .Constant (.int 0) k3 p5] X.env := by rfl)
    (hs : swapsWith (.List [.Name sx p2, .Constant (.int 0) k1 p3, .Constant (.int n) k2 p4, .Constant (.int 0) k3 p5] p6) (some (.Name rx p1)) pos.line X.env = pure false := by rfl) (hf : X.fn rx = true ∨ X.env.scope.names.lookup rx = some .local := by first | exact .inl rfl | exact .inr rfl | assumption) :
    PS X (.Assign [.Name rx p1] (.List [.Name sx p2, .Constant (.int 0) k1 p3, .Constant (.int n) k2 p4, .Constant (.int 0) k3 p5] p6) pos) (sOf mg W (sMkRow i j n)) :=
  (ps_set F.nd hi hx (pe_lst (pa_cons (pe_var hj hv hd hcd) (pa_cons pe_int (pa_cons pe_int (pa_cons pe_int pa_nil))) ha)) hs hf).imp fun D σ H ⟨c, G, ρ, S, h⟩ => by
    unfold sMkRow at h
    split at h
    · rename_i s eo
      obtain ⟨y, hy, sa, rfl, rd⟩ := S.sl j _ eo
      refine ⟨_, hy, by show 4 ≤ sizeLine; decide, fun p hp => ?_⟩
      obtain ⟨f1, f2, f3, f4, f5⟩ := S.fresh hp
      exact h _ G _ ((S.gr (.apart S.ex hp)).setPar f1 f2 ⟨sa, upd_same, rd⟩ f5) (.refl _)
    · exact h.elim
end
end Pu
end TP16

section TP17
set_option Elab.async false
set_option linter.all false
set_option maxRecDepth 100000
set_option maxHeartbeats 4200000
namespace Pu
open PyProof.Rows L2 PySem PySem.Spec

/-! ### sorted -/
def alikeL (ds : List PyData) : Bool := ds.all fun a => ds.all fun b => PySem.W.alike a b
def isTC : PyData → Bool
  | .tuple (_ :: _) => true
  | _ => false
def isNT : PyData → Bool
  | .tuple _ => false
  | .none => false
  | _ => true
def okSort (ds : List PyData) : Bool := alikeL ds && (ds.all isTC || ds.all isNT) && ds.all (fun d => shal d) && decide (ds.length ≤ LIM)
/-- sorting by putting in, which the kernel can run -/
def putIn {α : Type} (le : α → α → Bool) (a : α) : List α → List α
  | [] => [a]
  | b :: l => if le a b then a :: b :: l else b :: putIn le a l
def isort {α : Type} (le : α → α → Bool) : List α → List α
  | [] => []
  | a :: l => putIn le a (isort le l)
theorem putIn_mem {α : Type} {le : α → α → Bool} {a x : α} : ∀ {l : List α}, x ∈ putIn le a l ↔ x = a ∨ x ∈ l
  | [] => by simp [putIn]
  | b :: l => by
    unfold putIn
    split
    · simp
    · rw [List.mem_cons, putIn_mem, List.mem_cons]
      constructor
      · rintro (h | h | h)
        · exact .inr (.inl h)
        · exact .inl h
        · exact .inr (.inr h)
      · rintro (h | h | h)
        · exact .inr (.inl h)
        · exact .inl h
        · exact .inr (.inr h)
theorem putIn_pw {α : Type} {le : α → α → Bool} (h : PySem.W.TotalLe le) {a : α} : ∀ {l : List α}, l.Pairwise (fun x y => le x y = true) → (putIn le a l).Pairwise (fun x y => le x y = true)
  | [], _ => by simp [putIn]
  | b :: l, p => by
    obtain ⟨p1, p2⟩ := List.pairwise_cons.mp p
    unfold putIn
    split
    · rename_i e
      refine List.pairwise_cons.mpr ⟨fun y hy => ?_, p⟩
      rcases List.mem_cons.mp hy with z | z
      · rw [z]; exact e
      · exact h.trans _ _ _ e (p1 y z)
    · rename_i e
      refine List.pairwise_cons.mpr ⟨fun y hy => ?_, putIn_pw h p2⟩
      rcases putIn_mem.mp hy with z | z
      · rw [z]
        exact (h.total a b).resolve_left e
      · exact p1 y z
theorem isort_pw {α : Type} {le : α → α → Bool} (h : PySem.W.TotalLe le) : ∀ l : List α, (isort le l).Pairwise (fun x y => le x y = true)
  | [] => List.Pairwise.nil
  | a :: l => putIn_pw h (isort_pw h l)
theorem putIn_rank {α : Type} {le : α → α → Bool} (h : PySem.W.TotalLe le) (c a : α) : ∀ l : List α, (putIn le a l).filter (PySem.W.sameRank le c) = (a :: l).filter (PySem.W.sameRank le c)
  | [] => rfl
  | b :: l => by
    unfold putIn
    split
    · rfl
    · rename_i e
      rw [List.filter_cons, putIn_rank h c a l]
      by_cases hb : PySem.W.sameRank le c b = true
      · have ha : PySem.W.sameRank le c a = false := by
          cases z : PySem.W.sameRank le c a with
          | false => rfl
          | true =>
            unfold PySem.W.sameRank at hb z
            rw [Bool.and_eq_true] at hb z
            exact absurd (h.trans _ _ _ z.2 hb.1) e
        simp [List.filter_cons, ha, hb]
      · simp [List.filter_cons, hb]
theorem isort_rank {α : Type} {le : α → α → Bool} (h : PySem.W.TotalLe le) (c : α) : ∀ l : List α, (isort le l).filter (PySem.W.sameRank le c) = l.filter (PySem.W.sameRank le c)
  | [] => rfl
  | a :: l => by
    show (putIn le a (isort le l)).filter _ = _
    rw [putIn_rank h, List.filter_cons, isort_rank h c l, List.filter_cons]
theorem isort_eq {α : Type} {le : α → α → Bool} (h : PySem.W.TotalLe le) (l : List α) : isort le l = l.mergeSort le := PySem.W.sort_unique h (isort_pw h l) fun c => isort_rank h c l
def sortD (ds : List PyData) : List PyData := isort (PySem.W.dataLe false id) ds
theorem sortD_eq (ds : List PyData) : sortD ds = ds.mergeSort (PySem.W.dataLe false id) := isort_eq (PySem.W.sortLe_total _ _ _) ds
structure SortOk (ds : List PyData) : Prop where
  al : PySem.W.AllAlike ds
  so : PySem.W.Sortable ds
  sh : ∀ d ∈ ds, d.plain = true ∧ d.depth ≤ 32
  len : ds.length ≤ LIM
theorem sortOk {ds : List PyData} (h : okSort ds = true) : SortOk ds := by
  unfold okSort at h
  rw [Bool.and_eq_true, Bool.and_eq_true, Bool.and_eq_true] at h
  rcases h with ⟨⟨⟨h1, h2⟩, h3⟩, h4⟩
  refine ⟨fun d hd d' hd' => ?_, ?_, fun d hd => shal_of (List.all_eq_true.mp h3 d hd), of_decide_eq_true h4⟩
  · exact List.all_eq_true.mp (List.all_eq_true.mp h1 d hd) d' hd'
  · rcases (Bool.or_eq_true _ _).mp h2 with z | z
    · exact .inl fun d hd => by
        have := List.all_eq_true.mp z d hd
        unfold isTC at this
        split at this
        · exact ⟨_, _, rfl⟩
        · cases this
    · exact .inr fun d hd => by
        have := List.all_eq_true.mp z d hd
        unfold isNT at this
        split at this
        · cases this
        · cases this
        · rename_i n1 n2
          exact ⟨fun e => n2 e, fun xs e => n1 xs e⟩
section
variable {X : Cx} {pins : List (Addr × Obj)} {σ : L2.St} {G H : Hp} {s : Shared}
theorem plainAll_of : ∀ {ds : List PyData}, (∀ d ∈ ds, d.plain = true) → PyData.plainAll ds = true
  | [], _ => by unfold PyData.plainAll; rfl
  | d :: ds, h => by
    unfold PyData.plainAll
    rw [h d List.mem_cons_self, plainAll_of fun x hx => h x (List.mem_cons_of_mem _ hx)]; rfl
theorem pair_up (I : Inv X pins σ H s) (ex : Ex G H) : ∀ {xs : List V} {vs : List Value} {ds : List PyData}, Vals xs vs → RpA G xs ds → (∀ d ∈ ds, d.plain = true) →
    ∃ bs : List (V × PyData), bs.map (·.2) = ds ∧ PySem.W.EachIs (fun v b => RelV b.1 v ∧ Rp G b.1 b.2) vs bs ∧ PySem.W.EachIs (fun v b => ∃ as, Reads s.heap v b.2 as) vs bs
  | [], _, _, .nil, .nil, _ => ⟨[], rfl, .nil, .nil⟩
  | x :: xs, v :: vs, d :: ds, .cons r t, .cons h q, p => by
    obtain ⟨bs, e, a, b⟩ := pair_up I ex t q fun z hz => p z (List.mem_cons_of_mem _ hz)
    obtain ⟨as, hr⟩ := h.reads I ex r (p d List.mem_cons_self)
    exact ⟨(x, d) :: bs, by rw [List.map_cons, e], .cons ⟨r, h⟩ a, .cons ⟨as, hr⟩ b⟩
theorem pair_out : ∀ {vs : List Value} {bs : List (V × PyData)}, PySem.W.EachIs (fun v b => RelV b.1 v ∧ Rp G b.1 b.2) vs bs → Vals (bs.map (·.1)) vs ∧ RpA G (bs.map (·.1)) (bs.map (·.2))
  | _, _, .nil => ⟨.nil, .nil⟩
  | _, _, .cons ⟨r, h⟩ t => let ⟨a, b⟩ := pair_out t; ⟨.cons r a, .cons h b⟩
theorem sortD_map {bs : List (V × PyData)} : (bs.mergeSort (PySem.W.dataLe false (·.2))).map (·.2) = sortD (bs.map (·.2)) := by rw [sortD_eq]; exact List.map_mergeSort (fun _ _ _ _ => rfl)
theorem sortD_len (ds : List PyData) : (sortD ds).length = ds.length := by rw [sortD_eq]; exact List.length_mergeSort _
/-- the last of sorted: the new list is sorted -/
theorem sort_tail {Q : VK} {A : Around} {E : Value → Shared → Prop} {xs : List V} {vs : List Value} {ds : List PyData} (hA : A.units + 40 < cLine) (I : Inv X pins σ H s) (ex : Ex G H) (rv : Vals xs vs) (ra : RpA G xs ds) (ok : SortOk ds)
    (q : ∀ p ys, RpA G ys (sortD ds) → H p = none → Q (.ref p) (upd H p (.lst ys))) :
    wpAny (model X.prog X.w) A (newList vs >>= fun l => holding [l] (call (.builtin "list.sort") [l] []) >>= fun _ => ret l) (fun f s' => ∃ r, f = Fin.done (.ret r) ∧ EP X pins σ Q r s') E s := by
  obtain ⟨bs, eb, e1, e2⟩ := pair_up I ex rv ra fun d hd => (ok.sh d hd).1
  have hl : vs.length = ds.length := by rw [← rv.length, ra.length]
  have hs : vs.length ≤ sizeLine := by rw [hl]; exact lim_le ok.len
  refine wpAny_bind (wpAny_newList ?_ hs)
  generalize hh2 : s.heap.push (seqObj "list" vs.toArray 0) = h2
  have hoL : h2.get? s.heap.objs.size = some (seqObj "list" vs.toArray 0) := by rw [← hh2]; exact Heap.get?_push_size _ rfl
  have up : ∀ b o, s.heap.get? b = some o → h2.get? b = some o := fun b o e => by rw [← hh2]; exact Heap.get?_push_of_some _ e
  have hsz : h2.objs.size = s.heap.objs.size + 1 := by rw [← hh2]; exact Heap.size_push _ _
  have e3 : PySem.W.EachIs (fun v b => ∃ as, Reads (PySem.W.sortingHeap h2 s.heap.objs.size vs) v b.2 as) vs bs := e2.mono fun v b ⟨as, r⟩ => ⟨as, PyProof.Rows.Reads.keeps (fun b o e => PySem.W.sortingHeap_old (Nat.ne_of_lt (Heap.lt_size e)) (up b o e)) r⟩
  apply wpAny_bind; apply wpAny_holding
  refine wpAny_call_entry slot_list_sort ⟨_, hoL, rfl⟩ entry_list_sort (PySem.W.list_sort_vals (s := { s with heap := h2 }) (κ := PySem.W.dataKind (PySem.W.sortingHeap h2 s.heap.objs.size vs) (bs.map (·.2))) hoL
    (PySem.W.SortsAt.data (s := { s with heap := PySem.W.sortingHeap h2 s.heap.objs.size vs }) (PySem.W.each_map (R := fun v d => ∃ as, Reads (PySem.W.sortingHeap h2 s.heap.objs.size vs) v d as) (fun b : V × PyData => b.2) e3) (by rw [eb]; exact ok.al) (by rw [eb]; exact ok.so) (fun d hd => ?_)) hs ⟨.none, rfl, ?_⟩) (args_list_sort _)
  · rw [eb] at hd
    have := (ok.sh d hd).2
    show A.units + 1 + d.depth < cLine
    omega
  · obtain ⟨n, hn⟩ := sortedHeap_at (vs := vs) (out := (PySem.W.sortVals (PySem.W.dataKind (PySem.W.sortingHeap h2 s.heap.objs.size vs) (bs.map (·.2))) false vs vs).toArray) hoL
    have eo := PySem.W.sortVals_data (R := fun v b => RelV b.1 v ∧ Rp G b.1 b.2) (enc := fun b : V × PyData => b.2) false e1 e3 (by rw [eb]; exact ok.al)
    obtain ⟨o1, o2⟩ := pair_out eo
    rw [sortD_map, eb] at o2
    generalize hys : (bs.mergeSort (PySem.W.dataLe false fun b : V × PyData => b.2)).map (·.1) = ys at o1 o2
    have hly : ys.length ≤ sizeLine := by rw [o2.length, sortD_len]; exact lim_le ok.len
    refine wpAny_pure ⟨_, rfl, .ref s.heap.objs.size, upd H s.heap.objs.size (.lst ys), I.laid (t' := s.toks) (fun b u e => ?_) (Nat.le_refl _) ⟨hly, _, n, o1, hn⟩, rfl, q _ ys o2 (I.hok.fresh (Nat.le_refl _))⟩
    have hb : b < s.heap.objs.size := Heap.lt_size e
    show (sortedHeap h2 s.heap.objs.size vs _).get? b = some u
    rw [sortedHeap_old (Nat.ne_of_lt hb) (by rw [hsz]; exact Nat.lt_succ_of_lt hb)]
    exact up b u e
/-- tuples that stand anywhere become data -/
noncomputable def adopt (G H : Hp) : Hp := fun a => match G a with
  | some o => some o
  | none => match H a with
    | some (.tup xs) => some (.tup xs)
    | _ => none
theorem adopt_gr (ex : Ex G H) : Gr G H (adopt G H) H := by
  refine ⟨fun a o e => by unfold adopt; rw [e], .refl H, fun a o e => ?_, fun a o e => ?_⟩
  · unfold adopt at e
    cases eg : G a with
    | some u => rw [eg] at e; rw [← e]; exact ex a u eg
    | none =>
      rw [eg] at e
      dsimp only at e
      split at e
      · rename_i h; rw [h]; exact e
      · cases e
  · unfold adopt at e
    cases eg : G a with
    | some u => rw [eg] at e; exact .inl e
    | none =>
      rw [eg] at e
      dsimp only at e
      split at e
      · rename_i h; exact .inr (.inr ⟨_, h⟩)
      · cases e
theorem adopt_tup {a : Addr} {xs : List V} (ex : Ex G H) (h : H a = some (.tup xs)) : adopt G H a = some (.tup xs) := by
  unfold adopt
  cases eg : G a with
  | some u =>
    have e := ex a u eg
    rw [h] at e
    exact e.symm
  | none => dsimp only; rw [h]
def pSorted : List PyData → Option PyData
  | [.list xs] => if okSort xs = true then some (.list (sortD xs)) else none
  | [.tuple xs] => if okSort xs = true then some (.list (sortD xs)) else none
  | [.dict kvs] => if okSort (kvs.map (·.1)) = true then some (.list (sortD (kvs.map (·.1)))) else none
  | _ => none
theorem key_rpa {G : Hp} {ks : List Key} : RpA G (ks.map kV) (ks.map keyV1) := by
  induction ks with
  | nil => exact .nil
  | cons a ks ih =>
    cases a with
    | inl i => exact .cons (.int i) ih
    | inr x => exact .cons (.str x) ih
theorem c_sorted (hc : X.calm = true) (hu : X.A.units + 64 < cLine) : CallR X (.builtin "sorted") (rDA pSorted) := by
  intro pins s σ H vs us Q I r ⟨G, ds, z, ex, rs, hz, n⟩
  have hU : X.A.in1.units + 40 < cLine := by show X.A.units + 1 + 40 < cLine; omega
  have seq : ∀ {T : String} {a : Addr} {xs : List V} {es : List PyData} {o : Obj} {its : List Value} {m : Nat}, (T = "list" ∨ T = "tuple") → s.heap.get? a = some o → o.cls = .type T → o.data = .seq its.toArray m → Vals xs its → RpA G xs es → okSort es = true →
      (∀ w G' H', Gr G H G' H' → Rp G' w (.list (sortD es)) → Q w H') → wpAny (model X.prog X.w) X.A (call (.builtin "sorted") [.ref a]) (EP X pins σ Q) X.xe s := fun {T a xs es o its m} hT ho hcl hd rv ra ok n => by
    have so := sortOk ok
    have hl : its.length = es.length := by rw [← rv.length, ra.length]
    refine Calls.call_function_entry kind_sorted plain_sorted entry_sorted (args_sorted1 _) (wpAny_bind (m := checkCount "sorted" 1 1 _) (wpAny_pure ?_))
    refine wpAny_bind (wpAny_collect_seq a hT ho hcl hd (fun h' hk => ?_) (by rw [List.size_toArray, hl]; exact lim_le so.len))
    have e0 : its.toArray.toList = its := by simp
    rw [e0]
    have I1 : Inv X pins σ H { s with heap := h' } := I.kept (h' := h') (t' := s.toks) hk
    exact sort_tail hU I1 ex rv ra so fun p ys ry hp => n _ _ _ (.laid ex hp) (.lst upd_same (by rw [sortD_len]; exact so.len) (ry.mono (.new (ex.free hp))))
  unfold pSorted at hz
  split at hz
  · split at hz <;> cases hz
    rename_i ok
    cases rs with
    | cons r1 r2 =>
    cases r2; cases r1 with
    | lst h l q =>
    obtain ⟨its, rv, ⟨o, m, ho, hcl, _, hd⟩, _⟩ := I.list (SqL.of (ex _ _ h))
    rw [Vals.ref1 r]
    exact seq (.inl rfl) ho hcl hd rv q ok n
  · split at hz <;> cases hz
    rename_i ok
    cases rs with
    | cons r1 r2 =>
    cases r2; cases r1 with
    | tup h l q =>
    obtain ⟨its, rv, ⟨o, ho, hcl, m, hd⟩, _⟩ := I.tuple (SqT.of (ex _ _ h))
    rw [Vals.ref1 r]
    exact seq (.inr rfl) ho hcl hd rv q ok n
  · split at hz <;> cases hz
    rename_i kvs ok
    cases rs with
    | cons r1 r2 =>
    cases r2; cases r1 with
    | @dic a ws _ h l q =>
    rw [Vals.ref1 r]
    have so := sortOk ok
    obtain ⟨zl, hd, xs, rel, o, es, ep, h1, h2, h3, h4, h5⟩ := dt_rd I.hok (ex.rd h)
    have hlen : es.size = kvs.length := by
      have l1 := size_of_entries h4
      have l2 := Paired.length rel
      have l3 := q.length
      omega
    have raw : s.heap.DictRaw a es ep := ⟨o, h1, h2, h3⟩
    refine Calls.call_function_entry kind_sorted plain_sorted entry_sorted (args_sorted1 _) (wpAny_bind (m := checkCount "sorted" 1 1 _) (wpAny_pure ?_))
    refine wpAny_bind (PySem.W.kdu_collect (A := X.A.in1) (PySem.KdlSrc.rawDict hd) (I.ok.hd hc) raw (by rw [hlen]; exact lim_le l) fun h' tk acc hk hacc => ?_)
    have I1 := I.kept (h' := h') (t' := tk) hk
    have exa := (adopt_gr ex).gh
    -- the keys
    have key : ∀ {ws : List (List Key × V)} {kvs : List (PyData × PyData)} {us : List Value}, RpK G ws kvs → us.length = ws.length → (∀ (j : Nat) k v u, ws[j]? = some (k, v) → us[j]? = some u → ∃ q, u = Value.ref q ∧ H q = some (.tup (k.map kV))) →
        ∃ xs, Vals xs us ∧ RpA (adopt G H) xs (kvs.map (·.1)) := by
      intro ws kvs us r
      induction us generalizing ws kvs with
      | nil =>
        intro hl _
        cases r with
        | nil => exact .intro [] ⟨.nil, .nil⟩
        | cons _ _ _ => cases hl
      | cons u us ih =>
        intro hl hh
        cases r with
        | nil => cases hl
        | @cons k v ws d ds kl rd rt =>
          obtain ⟨xs, e1, e2⟩ := ih rt (Nat.succ.inj hl) fun j k v u a b => hh (j + 1) k v u (by simpa using a) (by simpa using b)
          obtain ⟨q, rfl, hq⟩ := hh 0 k v u rfl rfl
          exact ⟨V.ref q :: xs, .cons rfl e1, .cons (.tup (adopt_tup ex hq) (by rw [List.length_map]; exact kl) key_rpa) e2⟩
    obtain ⟨ys, y1, y2⟩ := key (us := acc.toList) q (by rw [Array.length_toList, hacc.1, hlen, q.length]) fun j k v u e1 e2 => by
      obtain ⟨b, hb, e3, e4, _⟩ := paired_get rel e1
      obtain ⟨hj, ev⟩ := hacc.2 j u (by rw [← Array.getElem?_toList]; exact e2)
      have q2 := entry_at h4 j
      rw [hb] at q2
      have q3 : es[j]? = some es[j] := by simp [hj]
      rw [q3] at q2
      refine ⟨b.2.1, ?_, e4⟩
      have q4 : es[j] = entryOfKey (tupleKind (mixKind X.prog X.w)) b := Option.some.inj q2
      rw [ev, q4] <;> rfl
    exact sort_tail hU I1 exa y1 y2 so fun p ys ry hp => n _ _ _ ((adopt_gr ex).trans (.laid exa hp)) (.lst upd_same (by rw [sortD_len]; exact so.len) (ry.mono (.new (exa.free hp))))
  · cases hz
end
end Pu
end TP17

section TP18
set_option Elab.async false
set_option linter.all false
set_option maxRecDepth 100000
set_option maxHeartbeats 4200000
namespace Pu
open PyProof.Rows L2 PySem PySem.Spec

/-! ### set(xs): the call, its __init__, the loop; then of tuples of ints, few of them unlike -/
section
variable {w : World} {P : Program} {A : Around} {s : Shared} {E : Value → Shared → Prop}
def newSet (w : World) : Obj := { cls := .type "set", dict := none, data := .set #[] 0 (.fresh 0 0 (!w.params.followText "set-order")) }
/-- set(v): the new set, and what its __init__ makes of it -/
theorem set_call {v : Value} {Q : Value → Shared → Prop}
    (h : codeAny (model P w) A.in1 (.call (.builtin "set.__init__") ⟨[.ref s.heap.objs.size, v], []⟩) (wants (fun r s' => r = .none ∧ Q (.ref s.heap.objs.size) s') E) { s with heap := s.heap.push (newSet w) }) :
    wpAny (model P w) A (call (.type "set") [v]) Q E s := by
  have K := F.called_set
  have k1 := K.made
  have k2 := K.sub
  have k3 := K.notType
  have k4 := K.canCreate
  have k5 := F.typeCall_set_1 v
  have k6 := K.init.lookup
  have k7 := K.init.bind (.ref s.heap.objs.size)
  rcases K.mro with ⟨_, _, k0⟩
  refine wpAny_call (codeAny_of_tree (wpAny_pure ⟨Code.quiet_builtin _ (by decide +kernel), codeAny_builtin F.entry_type_call ?_⟩))
  rw [Around.under_plain (weight_type_call_type "set" [v] []) rfl]
  repeat any_goals first | assumption | wp_step
  refine codeAny_mono (code_set_led1 v (E := E) (Q₁ := fun x s' => x = .ref s.heap.objs.size ∧ s' = { s with heap := s.heap.push (newSet w) }) ⟨rfl, rfl⟩) ?_
  rintro (e | f) s' hr
  · exact hr
  cases f with
  | ret x =>
    rcases hr with ⟨rfl, rfl⟩
    have new : Shared.TypeIs { s with heap := s.heap.push (newSet w) } (.ref s.heap.objs.size) "set" := ⟨_, Heap.get?_push_size _ rfl, rfl⟩
    repeat any_goals first | assumption | wp_step

    refine codeAny_mono h ?_
    rintro (e | f) s' hr
    · exact hr
    cases f with
    | ret r =>
      rcases hr with ⟨rfl, hq⟩
      repeat any_goals first | assumption | wp_step
    | _ => exact hr.elim
  | _ => exact hr.elim
/-- the loop that fills it, by what holds ahead of each turn -/
theorem set_loop {S I : Addr} {fp wr : List Addr} {G : Array GenState → Array GenState → Prop} {n : Nat} {Pv : Nat → Value → Prop} {St : Nat → Shared → Prop} {R : Result → Shared → Prop} (W : WalksS P w A.in1 I fp wr G n Pv St) (J : Nat → Shared → Prop)
    (turn : ∀ i s0 v s1, i < n → J i s0 → Pv i v → St (i + 1) s1 → Moved wr G s0 s1 → wpAny (model P w) A.in1 (setAdd S v) (fun _ s2 => J (i + 1) s2 ∧ St (i + 1) s2) (fun e s2 => R (.error e) s2) s1)
    (last : ∀ s0 s1, J n s0 → Moved wr G s0 s1 → R (.ok (.ret .none)) s1) :
    ∀ (k i : Nat) (s0 : Shared), i + k = n → St i s0 → J i s0 → codeAny (model P w) A (.builtin "set.update.loop" ⟨[.ref S, .ref I], []⟩) R s0
  | 0, i, s0, hi, st, j => codeAny_builtin F.entry_set_update_loop (by
      obtain rfl : i = n := hi
      rewrite [Around.under_plainId F.plain_set_update_loop]
      exact wpAny_bind (W.done s0 _ _ st fun s1 hm => wpAny_pure (last s0 s1 j hm)))
  | k + 1, i, s0, hi, st, j => codeAny_builtin F.entry_set_update_loop (by
      rewrite [Around.under_plainId F.plain_set_update_loop]
      refine wpAny_bind (W.item i s0 _ _ (by omega) st fun v s1 hP st1 hm => wpAny_bind (wpAny_holding ?_))
      exact wpAny_mono (turn i s0 v s1 (by omega) j hP st1 hm) (fun _ s2 (h2 : J (i + 1) s2 ∧ St (i + 1) s2) => wpAny_pure ⟨plainId_quiet F.plain_set_update_loop _, set_loop W J turn last k (i + 1) s2 (by omega) h2.2 h2.1⟩) fun _ _ z => z)
/-- what set.__init__ asks of a value that is no set and no dict -/
theorem set_init {v : Value} {c : String} {S : Addr} {R : Result → Shared → Prop} {s0 : Shared} (hS : s0.heap.get? S = some (newSet w)) (hv : s0.TypeIs v c) (h1 : isSubtype (.type c) (.type "set") = pure false) (h2 : isSubtype (.type c) (.type "frozenset") = pure false) (h3 : (Value.type c == Value.type "dict") = false)
    (go : wpAny (model P w) A.in1 (pyIter v) (fun I s1 => codeAny (model P w) A.in1 (.builtin "set.update.loop" ⟨[.ref S, I], []⟩) (wants (fun _ s2 => R (.ok (.ret .none)) s2) fun e s2 => R (.error e) s2) s1) (fun e s1 => R (.error e) s1) s0) :
    codeAny (model P w) A (.call (.builtin "set.__init__") ⟨[.ref S, v], []⟩) R s0 := by
  refine codeAny_call_builtin F.called_set.init.plain F.entry_set_init (check_set_init_1 ⟨_, hS, rfl⟩ ?_)
  generalize hPI : pyIter = PI at go
  unfold Builtin.«set.__init__» Builtin.Frozenset.updateFrom noKeywords
  rw [hPI]
  unfold newSet at hS
  wp_walk
  exact wpAny_mono go (fun I s1 h => wpAny_bind (wpAny_runValue (codeAny_mono h fun r s2 hr => by
    rcases r with e | f
    · exact hr
    · cases f with
      | ret x => exact wpAny_pure (wpAny_pure hr)
      | _ => exact hr.elim))) fun _ _ z => z
abbrev AL := Addr × List Int
/-- however the set's rows come about, there is room for one more -/
def Cap (ks : List AL) : Prop := ∀ L : List AL, (L.map (·.2)).Nodup → (∀ p ∈ L, p ∈ ks) → L.length < 63
theorem none_up {h : Heap} {b : Addr} (hb : h.objs.size ≤ b) : h.get? b = none := by
  cases e : h.get? b with
  | none => rfl
  | some o => exact absurd (Heap.lt_size e) (Nat.not_lt.mpr hb)
/-- what holds ahead of turn i: the set at S has what the first i items gave -/
structure Filling (P : Program) (w : World) (ks : List AL) (h0 : Heap) (s2 : Shared) (S I : Addr) (i : Nat) (s' : Shared) : Prop where
  set : ∃ L es ep t, SetTR P w s'.heap S L es ep t ∧ Got ks i L
  old : ∀ b o, h0.get? b = some o → s'.heap.get? b = some o
  moved : Moved [S, I] (fun a b => b = a) s2 s'
theorem Filling.drawn {ks : List AL} {h0 : Heap} {s2 s0 s1 : Shared} {S I : Addr} {i : Nat} (F : Filling P w ks h0 s2 S I i s0) (hk : ∀ p ∈ ks, IsT P w h0 p.2 p.1) (hI : h0.get? I = none) (ne : S ≠ I) (hm : Moved [I] (fun a b => b = a) s0 s1) : Filling P w ks h0 s2 S I i s1 := by
  have old : ∀ b o, h0.get? b = some o → s1.heap.get? b = some o := fun b o e => hm.heap b o (fun z => by rw [List.mem_singleton.mp z, hI] at e; cases e) (F.old b o e)
  obtain ⟨L, es, ep, t, R, g⟩ := F.set
  refine ⟨⟨L, es, ep, t, R.keep (fun o e => hm.heap S o (fun z => ne (List.mem_singleton.mp z)) e) fun p hp => isT_keep (hk p (List.mem_of_mem_take (g.sub p hp))) old, g⟩, old, F.moved.trans (fun _ _ _ a b => b.trans a) (hm.mono fun b hb => ?_)⟩
  exact List.mem_cons_of_mem _ hb
theorem Filling.add {ks : List AL} {h0 : Heap} {s2 s0 : Shared} {S I : Addr} {i : Nat} {p : AL} {St : Shared → Prop} (F : Filling P w ks h0 s2 S I i s0) (hk : ∀ p ∈ ks, IsT P w h0 p.2 p.1) (cap : Cap ks) (hp : ks[i]? = some p) (hS : h0.get? S = none) (hu : A.units < cLine)
    (fr : ∀ h' tk, s0.toks ≤ tk → (∀ b o, b ≠ S → s0.heap.get? b = some o → h'.get? b = some o) → St { s0 with heap := h', toks := tk }) :
    wpAny (model P w) A (setAdd S (.ref p.1)) (fun _ s' => Filling P w ks h0 s2 S I (i + 1) s' ∧ St s') E s0 := by
  obtain ⟨L, es, ep, t, R, g⟩ := F.set
  have hx : IsT P w s0.heap p.2 p.1 := isT_keep (hk p (List.mem_of_getElem? hp)) F.old
  unfold setAdd
  refine wpAny_holding (wpAny_bind (wpAny_pyHash_tuple hu hx ?_))
  refine add_at (s := { s0 with toks := s0.toks + (p.2.length + 1) }) R hx hu (Nat.succ_lt_succ (cap L R.nd fun q hq => List.mem_of_mem_take (g.sub q hq))) fun b h' L' es' ep' t' sb R' c1 c2 => ?_
  have keep : ∀ b o, b ≠ S → s0.heap.get? b = some o → h'.get? b = some o := fun b o hb e => (sb.2 b hb).trans e
  refine ⟨⟨⟨L', es', ep', t', R', ?_⟩, fun b o e => keep b o (fun z => by rw [z, hS] at e; cases e) (F.old b o e), F.moved.then_heap (Nat.le_add_right _ _) fun b o hb e => keep b o (fun z => hb (by rw [z]; exact List.mem_cons_self)) e⟩, fr _ _ (Nat.le_add_right _ _) keep⟩
  by_cases m : p.2 ∈ L.map (·.2)
  · rw [c1 m]
    exact g.same hp m
  · exact g.more hp (c2 m)
theorem set_of_seq {Sq : SqOf} (D : Dr Sq) {l : Addr} {its : Array Value} (ks : List AL) {Q : Value → Shared → Prop} (hh : A.handled = none) (hl : D.At s.heap l its) (hit : its.toList = ks.map fun p => Value.ref p.1) (hk : ∀ p ∈ ks, IsT P w s.heap p.2 p.1) (cap : Cap ks) (hu : A.units + 3 < cLine)
    (h : ∀ (h' : Heap) (tk : Nat) L es ep t, SetTR P w h' s.heap.objs.size L es ep t → Got ks ks.length L → (∀ b o, s.heap.get? b = some o → h'.get? b = some o) → Q (.ref s.heap.objs.size) { s with heap := h', toks := tk }) : wpAny (model P w) A (call (.type "set") [.ref l]) Q E s := by
  have up1 : ∀ b o, s.heap.get? b = some o → (s.heap.push (newSet w)).get? b = some o := fun b o e => Heap.get?_push_of_some _ e
  have gS : (s.heap.push (newSet w)).get? s.heap.objs.size = some (newSet w) := Heap.get?_push_size _ rfl
  have sz : (s.heap.push (newSet w)).objs.size = s.heap.objs.size + 1 := Heap.size_push ..
  have hl1 : D.At (s.heap.push (newSet w)) l its := D.up hl up1
  have up2 : ∀ b o, (s.heap.push (newSet w)).get? b = some o → ((s.heap.push (newSet w)).push (D.ob l)).get? b = some o := fun b o e => Heap.get?_push_of_some _ e
  have lI : l ≠ (s.heap.push (newSet w)).objs.size := Nat.ne_of_lt (D.old hl1)
  have SI : s.heap.objs.size ≠ (s.heap.push (newSet w)).objs.size := by rw [sz]; exact Nat.ne_of_lt (Nat.lt_succ_self _)
  have size : its.size = ks.length := by rw [← Array.length_toList, hit, List.length_map]
  have what : ∀ (i : Nat) (v : Value), its[i]? = some v → ∃ p, ks[i]? = some p ∧ v = .ref p.1 := fun i v e => by
    rw [← Array.getElem?_toList, hit, List.getElem?_map] at e
    rcases Option.map_eq_some_iff.mp e with ⟨p, hp, rfl⟩
    exact ⟨p, hp, rfl⟩
  refine set_call (set_init gS (D.ty (s := { s with heap := s.heap.push (newSet w) }) hl1) D.nset D.nfro D.ndic ((D.beg l its).iter P w _ _ _ _ hl1 ?_))
  have W := (D.walks P w A.in1.in1.in1 _ l its (show A.handled = none from hh) lI).toS
  refine set_loop W (Filling P w ks s.heap { s with heap := (s.heap.push (newSet w)).push (D.ob l) } s.heap.objs.size (s.heap.push (newSet w)).objs.size) (fun i s0 v s1 hi j hP st hm => ?_) (fun s0 s1 j hm => ?_) its.size 0 _ (Nat.zero_add _)
    ⟨D.new (Heap.get?_push_size _ (D.beg l its).free), D.up hl1 up2⟩ ⟨⟨[], #[], 0, _, setTR_fresh (up2 _ _ gS), Got.zero ks⟩, fun b o e => up2 b o (up1 b o e), Moved.refl fun _ => rfl⟩
  · obtain ⟨p, hp, rfl⟩ := what i v hP
    refine (j.drawn hk (none_up (by rw [sz]; exact Nat.le_succ _)) SI hm).add hk cap hp (none_up (Nat.le_refl _)) (by show A.units + 3 < cLine; exact hu) fun h' tk ht keep => ?_
    refine W.frame (i + 1) s1 h' tk st ht fun b hb o e => keep b o (fun z => ?_) e
    rcases (by simpa using hb : b = (s.heap.push (newSet w)).objs.size ∨ b = l) with e1 | e1
    · exact SI (z.symm.trans e1)
    · exact absurd (D.old hl) (by rw [← e1, z]; exact Nat.lt_irrefl _)
  · have j1 := j.drawn hk (none_up (by rw [sz]; exact Nat.le_succ _)) SI hm
    obtain ⟨L, es, ep, t, R, g⟩ := j1.set
    rw [size] at g
    have e : s1 = { s with heap := s1.heap, toks := s1.toks } := by rw [j1.moved.eq_with]
    rw [e]
    exact ⟨rfl, h _ _ L es ep t R g j1.old⟩
end
end Pu
end TP18

section TP19
set_option Elab.async false
set_option linter.all false
set_option maxRecDepth 100000
set_option maxHeartbeats 4200000
namespace Pu
open PyProof.Rows L2 PySem PySem.Spec

/-! ### tuples of ints, sorted, without repeats -/
def tupI (k : List Int) : PyData := .tuple (k.map .int)
def leL (a b : List Int) : Bool := decide (a ≤ b)
def srt (ks : List (List Int)) : List (List Int) := isort leL ks
def uniq : List (List Int) → List (List Int)
  | [] => []
  | k :: ks => if k ∈ uniq ks then uniq ks else k :: uniq ks
theorem mem_uniq {k : List Int} : ∀ {ks : List (List Int)}, k ∈ uniq ks ↔ k ∈ ks
  | [] => Iff.rfl
  | x :: ks => by
    unfold uniq
    split
    · rename_i h
      rw [mem_uniq, List.mem_cons]
      refine ⟨.inr, fun z => z.elim (fun e => ?_) id⟩
      rw [e]; exact mem_uniq.mp h
    · rw [List.mem_cons, List.mem_cons, mem_uniq]
theorem nodup_uniq : ∀ ks : List (List Int), (uniq ks).Nodup
  | [] => List.nodup_nil
  | x :: ks => by
    unfold uniq
    split
    · exact nodup_uniq ks
    · rename_i h
      exact List.nodup_cons.mpr ⟨h, nodup_uniq ks⟩
theorem nodup_len {α : Type} : ∀ {l D : List α}, l.Nodup → (∀ x ∈ l, x ∈ D) → l.length ≤ D.length
  | [], D, _, _ => D.length.zero_le
  | x :: l, D, hn, hs => by
    obtain ⟨a, b, rfl⟩ := List.append_of_mem (hs x List.mem_cons_self)
    have no := List.nodup_cons.mp hn
    have := nodup_len (D := a ++ b) no.2 fun y hy => by
      have m := hs y (List.mem_cons_of_mem _ hy)
      simp only [List.mem_append, List.mem_cons] at m ⊢
      rcases m with m | rfl | m
      · exact .inl m
      · exact absurd hy no.1
      · exact .inr m
    simp only [List.length_append, List.length_cons] at this ⊢
    omega
theorem dataLe_tup (a b : List Int) : PySem.W.dataLe false id (tupI a) (tupI b) = leL a b := by
  have h : PySem.W.dataLt (tupI b) (tupI a) = decide (b < a) := PySem.W.dataLt_ints b a
  show (!PySem.W.dataLt (tupI b) (tupI a)) = decide (a ≤ b)
  rw [h]
  by_cases z : b < a
  · rw [decide_eq_true z, decide_eq_false (fun y => y z)]; rfl
  · rw [decide_eq_false z, decide_eq_true (List.not_lt.mp z)]; rfl
theorem leL_trans (a b c : List Int) (h1 : leL a b = true) (h2 : leL b c = true) : leL a c = true := by
  unfold leL at *
  exact decide_eq_true (List.le_trans (of_decide_eq_true h1) (of_decide_eq_true h2))
theorem leL_total (a b : List Int) : (leL a b || leL b a) = true := by
  unfold leL
  rcases List.le_total a b with h | h
  · rw [decide_eq_true h]; rfl
  · rw [decide_eq_true h, Bool.or_true]
theorem leL_le : PySem.W.TotalLe leL := ⟨leL_trans, fun a b => (Bool.or_eq_true _ _).mp (leL_total a b)⟩
theorem srt_eq (ks : List (List Int)) : srt ks = ks.mergeSort leL := isort_eq leL_le ks
theorem sortD_tups (ks : List (List Int)) : sortD (ks.map tupI) = (srt ks).map tupI := by
  rw [sortD_eq, srt_eq]
  exact (List.map_mergeSort (r := leL) (s := PySem.W.dataLe false id) (f := tupI) (fun a _ b _ => (dataLe_tup a b).symm)).symm
theorem srt_perm {a b : List (List Int)} (h : a.Perm b) : srt a = srt b := by
  rw [srt_eq, srt_eq]
  have p1 : (a.mergeSort leL).Pairwise (fun x y => leL x y = true) := List.pairwise_mergeSort leL_trans leL_total a
  have p2 : (b.mergeSort leL).Pairwise (fun x y => leL x y = true) := List.pairwise_mergeSort leL_trans leL_total b
  have pm : (a.mergeSort leL).Perm (b.mergeSort leL) := (List.mergeSort_perm a leL).trans (h.trans (List.mergeSort_perm b leL).symm)
  exact List.Perm.eq_of_pairwise (le := fun x y => leL x y = true) (fun x y _ _ h1 h2 => List.le_antisymm (of_decide_eq_true h1) (of_decide_eq_true h2)) p1 p2 pm
def intsOf : List PyData → Option (List Int) := asInts
def tupsOf : List PyData → Option (List (List Int))
  | [] => some []
  | .tuple xs :: r => match asInts xs, tupsOf r with
    | some k, some ks => some (k :: ks)
    | _, _ => none
  | _ :: _ => none
theorem tupsOf_map : ∀ ks : List (List Int), tupsOf (ks.map tupI) = some ks
  | [] => rfl
  | k :: ks => by
    show (match asInts (k.map .int), tupsOf (ks.map tupI) with | some k, some ks => some (k :: ks) | _, _ => none) = _
    rw [asInts_map, tupsOf_map ks]
theorem tupsOf_vals {G : Hp} : ∀ {ds : List PyData} {vs : List V} {ks : List (List Int)}, RpA G vs ds → tupsOf ds = some ks → ∃ L : List AL, vs = L.map (fun p => V.ref p.1) ∧ L.map (·.2) = ks ∧ ∀ p ∈ L, G p.1 = some (.tup (p.2.map V.int)) ∧ p.2.length ≤ LIM
  | _, _, _, .nil, h => by cases h; exact ⟨[], rfl, rfl, fun p hp => nomatch hp⟩
  | _, _, _, .cons (d := d) (ds := ds) r t, h => by
    cases d with
    | tuple xs =>
      unfold tupsOf at h
      split at h
      · rename_i k ks e1 e2
        cases h
        obtain ⟨L, h1, h2, h3⟩ := tupsOf_vals t e2
        cases r with
        | @tup a vx _ hg hl q =>
        have e := asInts_vals q e1
        have hk : k.length ≤ LIM := by have := q.length; rw [e, List.length_map] at this; omega
        refine ⟨(a, k) :: L, by rw [List.map_cons, h1], by rw [List.map_cons, h2], fun p hp => ?_⟩
        rcases List.mem_cons.mp hp with z | z
        · rw [z]; exact ⟨by rw [hg, e], hk⟩
        · exact h3 p z
      · cases h
    | _ => unfold tupsOf at h; cases h
/-- a set that was just made -/
def rSet (P : Program) (w : World) : Rel V (List (List Int)) := fun _ _ G H _ _ v ks => ∃ (a : Addr) (L : List AL), v = .ref a ∧ H a = some (SetTO P w a L) ∧ (∀ p ∈ L, G p.1 = some (.tup (p.2.map V.int)) ∧ p.2.length ≤ LIM) ∧ (L.map (·.2)).Nodup ∧ ∀ k, k ∈ L.map (·.2) ↔ k ∈ ks
def pSet : PyData → Option (List (List Int))
  | .list xs => (tupsOf xs).bind fun ks => if (uniq ks).length < 63 then some ks else none
  | .tuple xs => (tupsOf xs).bind fun ks => if (uniq ks).length < 63 then some ks else none
  | _ => none
def fSet (fa : M PyData) : M (List (List Int)) := fa.bind fun d => M.lift (pSet d)
section
variable {X : Cx} {mg : Str → Option Value} {W : WK} {k : Nat} {pos : Pos}
def rMkSet (Sq : SqOf) (K : PySem.W.Frag) (P : Program) (w : World) : List V → Hp → VK → Prop := fun xs H Q => ∃ (l : Addr) (ks : List AL), xs = [V.ref l] ∧ Sq K H l (ks.map fun p => V.ref p.1) ∧ (∀ p ∈ ks, SqT K H p.1 (p.2.map V.int)) ∧ Cap ks ∧
  ∀ a L, H a = none → (L.map (·.2)).Nodup → (∀ p ∈ L, p ∈ ks) → (∀ p ∈ ks, p.2 ∈ L.map (·.2)) → Q (.ref a) (upd H a (SetTO P w a L))
theorem c_set {Sq : SqOf} (D : Dr Sq) (hc : X.calm = true) (hu : X.A.units + 64 < cLine) : CallR X (.type "set") (rMkSet Sq X.K X.prog X.w) := by
  rintro pins s σ H _ us Q I r ⟨l, ks, rfl, hl, hk, cap, q⟩
  obtain ⟨its, rv, at_⟩ := D.read I hl
  rw [Vals.ref1 r]
  exact set_of_seq D (P := X.prog) (w := X.w) ks (I.ok.hd hc) at_ (refs_of_vals rv) (fun p hp => I.isT (hk p hp)) cap (by omega) fun h' tk L es ep t R g up =>
    ⟨.ref s.heap.objs.size, _, I.laid (t' := tk) up (Nat.le_refl _) (setTO_new R.t0), rfl, q _ L (I.hok.fresh (Nat.le_refl _)) R.nd (fun p hp => List.mem_of_mem_take (g.sub p hp)) fun p hp => g.all p (by rw [List.take_length]; exact hp)⟩
theorem cap_of {L : List AL} {ks : List (List Int)} (e : L.map (·.2) = ks) (h : (uniq ks).length < 63) : Cap L := fun M hn hs => by
  have := nodup_len (D := uniq ks) hn fun x hx => by
    obtain ⟨p, hp, rfl⟩ := List.mem_map.mp hx
    exact mem_uniq.mpr (by rw [← e]; exact List.mem_map.mpr ⟨p, hs p hp, rfl⟩)
  rw [List.length_map] at this
  omega
theorem boot_set' : bootBuiltins (Str.ofString "set") = some (.type "set") := by decide +kernel
theorem CallR.or {f : Value} {r r' : List V → Hp → VK → Prop} (h : CallR X f r) (h' : CallR X f r') : CallR X f (fun xs H Q => r xs H Q ∨ r' xs H Q) := fun pins s σ H xs us Q I rx hh => hh.elim (h pins s σ H xs us Q I rx) (h' pins s σ H xs us Q I rx)
theorem mkset_of {Sq : SqOf} {c : Fc W.K} {G H : Hp} {σ : L2.St} {ρ : Env} {l : Addr} {xs : List V} {ds : List PyData} {ks : List (List Int)} {Q : V → Hp → Prop} (sq : Sq X.K H l xs) (S : Stt c G H σ ρ) (q : RpA G xs ds) (e : tupsOf ds = some ks) (cap : (uniq ks).length < 63)
    (n : ∀ b G' H', Stt c G' H' σ ρ → Ex G G' → rSet X.prog X.w W.K c G' H' σ ρ b ks → Q b H') : rMkSet Sq X.K X.prog X.w [.ref l] H Q := by
  obtain ⟨L, rfl, e4, h3⟩ := tupsOf_vals q e
  refine ⟨l, L, rfl, sq, fun p hp => SqT.of (S.ex _ _ (h3 p hp).1), cap_of e4 cap, fun a M ha hn hsub hall => n _ G _ (S.gr (.apart S.ex ha)) (.refl _) ⟨a, M, rfl, upd_same, fun p hp => h3 p (hsub p hp), hn, fun kk => ?_⟩⟩
  rw [← e4]
  constructor
  · intro hk
    obtain ⟨p, hp, rfl⟩ := List.mem_map.mp hk
    exact List.mem_map.mpr ⟨p, hsub p hp, rfl⟩
  · intro hk
    obtain ⟨p, hp, rfl⟩ := List.mem_map.mp hk
    exact hall p hp
theorem x_set {e : Expr} {fa : M PyData} {p : Pos} (F : Fit X mg W k) (hm : mg "set" = none) (ha : PE X e (tOf mg W fa)) (hg : Gl X "set" := by rfl) (hs : starEach [e] X.env = (false, eval e X.env) :: starEach [] X.env := by rfl) (hpl : (backTo pos (starEach [] X.env)).any (·.1) = false := by rfl) :
    PE X (.Call (.Name "set" p) [e] [] pos) (wOf mg W (rSet X.prog X.w) (fSet fa)) :=
  (pe_callTy ((c_set drL F.calm F.room.units).or (c_set drT F.calm F.room.units)) hg (by rw [F.mg]; exact hm) boot_set' (pa_cons ha pa_nil hs) (by decide) (by decide) hs hpl).imp fun σ H Q ⟨c, G, ρ, S, h⟩ => by
    show tOf mg W fa σ H _
    refine step S h fun v G1 H1 ρ1 d S1 e1 r1 h1 => ?_
    obtain ⟨ks, hz, n⟩ := lift_some h1
    unfold pSet at hz
    split at hz
    · obtain ⟨ks', e2, hz⟩ := Option.bind_eq_some_iff.mp hz
      split at hz <;> cases hz
      rename_i cap
      cases r1 with
      | lst hgl hl q => exact .inl (mkset_of (SqL.of (S1.ex _ _ hgl)) S1 q e2 cap n)
    · obtain ⟨ks', e2, hz⟩ := Option.bind_eq_some_iff.mp hz
      split at hz <;> cases hz
      rename_i cap
      cases r1 with
      | tup hgl hl q => exact .inr (mkset_of (SqT.of (S1.ex _ _ hgl)) S1 q e2 cap n)
    · cases hz
/-- sorted of it -/
def gSortSet (ks : List (List Int)) : Option PyData := if okSort ((uniq ks).map tupI) = true then some (.list ((srt (uniq ks)).map tupI)) else none
def rSortSet (P : Program) (w : World) : List V → Hp → VK → Prop := fun vs H Q => ∃ (G : Hp) (a : Addr) (L : List AL), vs = [V.ref a] ∧ Ex G H ∧ H a = some (SetTO P w a L) ∧ (∀ p ∈ L, G p.1 = some (.tup (p.2.map V.int)) ∧ p.2.length ≤ LIM) ∧ SortOk (L.map fun p => tupI p.2) ∧
  ∀ p ys, RpA G ys ((srt (L.map (·.2))).map tupI) → H p = none → Q (.ref p) (upd H p (.lst ys))
theorem ints_rpa {G : Hp} : ∀ k : List Int, RpA G (k.map V.int) (k.map .int)
  | [] => .nil
  | i :: k => .cons (.int i) (ints_rpa k)
theorem perm_back {α β : Type} (f : α → β) : ∀ {vs : List β} {L : List α}, vs.Perm (L.map f) → ∃ L1 : List α, L1.Perm L ∧ vs = L1.map f
  | [], L, h => ⟨[], by have := h.length_eq; rw [List.length_map] at this; rw [List.eq_nil_of_length_eq_zero this.symm], rfl⟩
  | v :: vs, L, h => by
    obtain ⟨a, ha, rfl⟩ := List.mem_map.mp (h.subset List.mem_cons_self)
    obtain ⟨l, r, rfl⟩ := List.append_of_mem ha
    have p1 : (l ++ a :: r).Perm (a :: (l ++ r)) := List.perm_middle
    obtain ⟨L1, h1, h2⟩ := perm_back f (h.trans (p1.map f)).cons_inv
    exact ⟨a :: L1, (h1.cons a).trans p1.symm, by rw [h2] <;> rfl⟩
theorem tups_rpa {G : Hp} : ∀ {L : List AL}, (∀ q ∈ L, G q.1 = some (.tup (q.2.map V.int)) ∧ q.2.length ≤ LIM) → RpA G (L.map fun q => V.ref q.1) (L.map fun q => tupI q.2)
  | [], _ => .nil
  | q :: L, h => .cons (.tup (h q List.mem_cons_self).1 (by rw [List.length_map]; exact (h q List.mem_cons_self).2) (ints_rpa _)) (tups_rpa fun r hr => h r (List.mem_cons_of_mem _ hr))
theorem SortOk.perm {ds es : List PyData} (so : SortOk ds) (p : es.Perm ds) : SortOk es :=
  ⟨fun d hd d' hd' => so.al d (p.subset hd) d' (p.subset hd'), so.so.imp (fun z d hd => z d (p.subset hd)) (fun z d hd => z d (p.subset hd)), fun d hd => so.sh d (p.subset hd), by rw [p.length_eq]; exact so.len⟩
theorem c_sortSet (hc : X.calm = true) (hu : X.A.units + 64 < cLine) : CallR X (.builtin "sorted") (rSortSet X.prog X.w) := by
  rintro pins s σ H _ us Q I r ⟨G, a, L, rfl, ex, ha, hG, so, q⟩
  rw [Vals.ref1 r]
  have full : SetT0 X.prog X.w s.heap a L := (I.hok a _ ha).1
  obtain ⟨es, ep, t, R⟩ := full.full fun p hp => I.isT (SqT.of (ex _ _ (hG p hp).1))
  rcases R.ob with ⟨o, ho, hex, hd⟩
  have small : es.size < scanBound := by rw [R.size]; have := R.few; unfold scanBound; omega
  refine Calls.call_function_entry kind_sorted plain_sorted entry_sorted (args_sorted1 _) (wpAny_bind (m := checkCount "sorted" 1 1 _) (wpAny_pure ?_))
  refine wpAny_bind (collect_set (A := X.A.in1) (I.ok.hd hc) ⟨o, ho, hex.1, hd⟩ R.fits small R.tab.ris R.led fun s1 vs up _ g1 o1 pm => ?_)
  have pm' : vs.Perm (L.map fun q => Value.ref q.1) := by
    have e : es.toList.map (·.2) = L.map fun q => Value.ref q.1 := by rw [R.rows, rowsOf, List.map_map]; rfl
    exact e ▸ pm
  obtain ⟨L1, pL, rfl⟩ := perm_back (fun q : AL => Value.ref q.1) pm'
  have J : Inv X pins σ H s1 := by
    have J0 : Inv X pins σ H { s with heap := s1.heap, gens := s1.gens, drawn := s1.drawn, toks := s1.toks } := I.call (ch := []) (Un.kept up) (I.hok.kept up) (by rw [g1]; exact I.bare) (fun _ z => nomatch z)
    rcases s1 with ⟨h', g', d', tk', os'⟩
    obtain rfl : os' = s.os := o1
    exact J0
  refine sort_tail (show X.A.units + 1 + 40 < cLine by omega) J ex (vals_of_refs L1) (tups_rpa fun p hp => hG p (pL.subset hp)) (so.perm (pL.map _)) fun p ys ry hp => q p ys ?_ hp
  have e2 : (L1.map fun p => tupI p.2) = (L1.map (·.2)).map tupI := by rw [List.map_map] <;> rfl
  rwa [e2, sortD_tups, srt_perm (pL.map (·.2))] at ry
theorem x_sortSet {e : Expr} {f : M (List (List Int))} {p : Pos} (F : Fit X mg W k) (hm : mg "sorted" = none) (ha : PE X e (wOf mg W (rSet X.prog X.w) f)) (hg : Gl X "sorted" := by rfl) (hs : starEach [e] X.env = (false, eval e X.env) :: starEach [] X.env := by rfl) (hpl : (backTo pos (starEach [] X.env)).any (·.1) = false := by rfl) :
    PE X (.Call (.Name "sorted" p) [e] [] pos) (tOf mg W (f1 gSortSet f)) :=
  (pe_callB (c_sortSet F.calm F.room.units) hg (by rw [F.mg]; exact hm) boot_sorted (pa_cons ha pa_nil hs) (by decide) (by decide) hs hpl).imp fun σ H Q ⟨c, G, ρ, S, h⟩ => by
    show wOf mg W (rSet X.prog X.w) f σ H _
    refine step S h fun v G1 H1 ρ1 ks S1 e1 r1 h1 => ?_
    obtain ⟨z, hz, n⟩ := lift_gr (α := PyData) S1 h1
    unfold gSortSet at hz
    split at hz <;> cases hz
    rename_i ok
    obtain ⟨a, L, rfl, ha, hG, hn, hk⟩ := r1
    have so := sortOk ok
    have pm : (L.map (·.2)).Perm (uniq ks) := (List.perm_ext_iff_of_nodup hn (nodup_uniq ks)).mpr fun k => (hk k).trans mem_uniq.symm
    have pm2 : (L.map fun p => tupI p.2).Perm ((uniq ks).map tupI) := by
      have := pm.map tupI
      rwa [List.map_map] at this
    refine ⟨G1, a, L, rfl, S1.ex, ha, hG, ⟨fun d hd d' hd' => so.al d (pm2.mem_iff.mp hd) d' (pm2.mem_iff.mp hd'), ?_, fun d hd => so.sh d (pm2.mem_iff.mp hd), by rw [pm2.length_eq]; exact so.len⟩, fun p ys ry hp => ?_⟩
    · rcases so.so with z | z
      · exact .inl fun d hd => z d (pm2.mem_iff.mp hd)
      · exact .inr fun d hd => z d (pm2.mem_iff.mp hd)
    · rw [srt_perm pm] at ry
      have hl : ((srt (uniq ks)).map tupI).length ≤ LIM := by
        have := so.len
        rw [List.length_map] at this ⊢
        rw [srt_eq, List.length_mergeSort]
        exact this
      exact n _ _ _ (.laid S1.ex hp) (.lst upd_same hl (ry.mono (.new (S1.ex.free hp))))
end
end Pu
end TP19

section TP20
set_option Elab.async false
set_option linter.all false
set_option maxRecDepth 100000
set_option maxHeartbeats 4200000
namespace Pu
open PyProof.Rows L2 PySem PySem.Spec

/-- a def of the module without defaults -/
abbrev FnP (κ : PySem.W.Frag) (nm : Str) (st : Stmt) (at_ : Addr) (fd : FuncData) : Prop := FunD κ nm nm (defArgs st) (defBody st) (defScope st) [] [] at_ fd
section
variable {w : World} {P : Program} {K : PySem.W.Frag} {base : Heap} {mg : Str → Option Value}
abbrev Bod (P : Program) (w : World) (K : PySem.W.Frag) (mg : Str → Option Value) (base : Heap) (x : Str) (st : Stmt) (f : Addr) (N : List Str) (k : Nat) (g : SM) : Prop :=
  ∀ X : Cx, (∃ cdv A outer s H E, X = cxOf (L2.CX P w) P w K mg base N x (defScope st) f cdv A outer s H E) → ∀ W : WK, Fit X mg W k → PSs X (defBody st) (sOf mg W g)
abbrev Bnd (x : Str) (st : Stmt) (ps : List Str) : Prop :=
  ∀ (kV doc pm : Value) (an : Option Addr) (cdv ct : Value) (us : List Value), us.length = ps.length → bindArgs (PySem.W.fnOf x x (defArgs st) (defBody st) (defScope st) .none kV doc pm an cdv ct) ⟨us, []⟩ = pure (ps.zip us)
/-- where a def stands -/
structure At (K : PySem.W.Frag) (mg : Str → Option Value) (x : Str) (st : Stmt) (f : Addr) : Prop where
  fn : ∃ fd, FnP K x st f fd
  mg : mg x = some (.ref f)
theorem dOk {x : Str} {st : Stmt} {f : Addr} {N ps : List Str} {k n : Nat} {g : SM} (at_ : At K mg x st f) (S : FnScope N ps (defScope st)) (hn : ps.length = n) (hN : n ≤ N.length) (bind : Bnd x st ps) (body : Bod P w K mg base x st f N k g) : DefD P w K mg base (k + 1) x n (runF N.length g) := by
  obtain ⟨fd, Fn⟩ := at_.fn
  refine ⟨f, fd, ps, at_.mg, Fn.kp, Fn.bindsN bind, Fn.ok S (fun vs H Q E h => ?_) fun cdv A outer s H vs Q E hr h => ⟨_, body _ ⟨cdv, A, outer, s, H, E, rfl⟩ ⟨fun cls d _ H => E cls d H, K⟩ (fit_def S.nd hr), ?_⟩⟩
  · obtain ⟨G, ds, hl, _⟩ := h
    rw [hl, hn]
  · obtain ⟨G, ds, hl, ex, r, h⟩ := h
    refine ⟨_, G, _, start_ok ex r (by rw [← r.length, hl]; exact hN), ?_⟩
    unfold runF at h
    cases e : g (rho N.length ds) with
    | nx ρ => rw [e] at h; exact fun σ' G' H' S' _ => h _ G' H' S'.grown .non
    | rt d ρ => rw [e] at h; exact fun v σ' G' H' S' _ rp => h v G' H' S'.grown rp
    | bk ρ => rw [e] at h; exact h.elim
    | ct ρ => rw [e] at h; exact h.elim
    | exc x ρ => rw [e] at h; exact fun cls dd σ' G' H' S' _ rx => h cls dd G' H' S'.grown rx
    | no => rw [e] at h; exact h
theorem dNo {x : Str} {st : Stmt} {f : Addr} {N ps : List Str} {n : Nat} (at_ : At K mg x st f) (S : FnScope N ps (defScope st)) (hn : ps.length = n) (bind : Bnd x st ps) : DefD P w K mg base 1 x n (fun _ => .no) := by
  obtain ⟨fd, Fn⟩ := at_.fn
  refine ⟨f, fd, ps, at_.mg, Fn.kp, Fn.bindsN bind, Fn.ok (k := 0) S (fun vs H Q E h => ?_) fun cdv A outer s H vs Q E hr h => ?_⟩
  · obtain ⟨G, ds, hl, _⟩ := h
    rw [hl, hn]
  · obtain ⟨G, ds, hl, ex, r, h⟩ := h
    exact h.elim
theorem wOk {x : Str} {st : Stmt} {f : Addr} {N ps : List Str} {k n : Nat} {g : SM} (at_ : At K mg x st f) (S : FnScope N ps (defScope st)) (hn : ps.length = n + 1) (hN : n + 1 ≤ N.length) (bind : Bnd x st ps) (body : Bod P w K mg base x st f N k g) : DefW P w K mg base (k + 1) x n (runW N.length g) := by
  obtain ⟨fd, Fn⟩ := at_.fn
  refine ⟨f, fd, ps, at_.mg, Fn.kp, Fn.bindsN bind, Fn.ok S (fun vs H Q E h => ?_) fun cdv A outer s H vs Q E hr h => ⟨_, body _ ⟨cdv, A, outer, s, H, E, rfl⟩ ⟨fun cls d _ H => E cls d H, K⟩ (fit_def S.nd hr), ?_⟩⟩
  · obtain ⟨G, p, w, rest, ds, e, hl, _⟩ := h
    rw [e, List.length_cons, hl, hn]
  · obtain ⟨G, p, w, rest, ds, e, hl, ex, gp, row, r, h⟩ := h
    subst e
    refine ⟨_, G, _, startW_ok ex gp row r (by rw [← r.length, hl]; exact hN), ?_⟩
    unfold runW at h
    generalize g (rhoW N.length w ds) = o at h
    unfold outW at h
    split at h
    · rename_i heq
      split at heq
      · cases heq
        exact fun v σ' G' H' S' _ rp => h v G' H' S'.grownP.1 S'.grownP.2 rp
      · cases heq
        exact fun σ' G' H' S' _ => h _ G' H' S'.grownP.1 S'.grownP.2 .non
      · cases heq
    · exact h.elim
    · exact h.elim
end
/-! ### the length of arguments -/
abbrev Len (fs : M (List PyData)) (n : Nat) : Prop := ∀ ρ ds ρ', fs ρ = .ok ds ρ' → ds.length = n
theorem len0 : Len fNil 0 := fun ρ ds ρ' h => by unfold fNil M.pure at h; cases h; rfl
theorem len1 {fa : M PyData} {fr : M (List PyData)} {n : Nat} (h : Len fr n) : Len (fCons fa fr) (n + 1) := fun ρ ds ρ' e => by
  unfold fCons M.bind at e
  cases e1 : fa ρ with
  | no => rw [e1] at e; cases e
  | exc x ρ1 => rw [e1] at e; cases e
  | ok a ρ1 =>
    rw [e1] at e
    dsimp only at e
    cases e2 : fr ρ1 with
    | no => rw [e2] at e; cases e
    | exc x ρ2 => rw [e2] at e; cases e
    | ok r ρ2 =>
      rw [e2] at e
      dsimp only [M.pure] at e
      cases e
      rw [List.length_cons, h _ _ _ e2]
/-! ### names -/
section
variable {X : Cx} {mg : Str → Option Value} {W : WK} {k : Nat} {pos : Pos}
theorem x_gint {x : Str} {i : Int} (F : Fit X mg W k) (hm : ∃ t, mg x = some (.int i t)) (hg : Gl X x := by rfl) (hd : (x == ("__debug__" : Str)) = false := by decide) : PE X (.Name x pos) (tOf mg W (fC (.int i))) := by
  obtain ⟨t, hm⟩ := hm
  exact x_glob F hm (v := .int i) ⟨t, rfl⟩ (fun _ => .int i) hg hd
theorem bb_len : bootBuiltins (Str.ofString "len") = some (.builtin "len") := by decide +kernel
theorem bb_sorted : bootBuiltins (Str.ofString "sorted") = some (.builtin "sorted") := by decide +kernel
theorem bb_sum : bootBuiltins (Str.ofString "sum") = some (.builtin "sum") := by decide +kernel
theorem bb_min : bootBuiltins (Str.ofString "min") = some (.builtin "min") := by decide +kernel
theorem bb_max : bootBuiltins (Str.ofString "max") = some (.builtin "max") := by decide +kernel
theorem bb_all : bootBuiltins (Str.ofString "all") = some (.builtin "all") := by decide +kernel
theorem bb_tuple : bootBuiltins (Str.ofString "tuple") = some (.type "tuple") := by decide +kernel
theorem bb_list : bootBuiltins (Str.ofString "list") = some (.type "list") := by decide +kernel
theorem bb_int : bootBuiltins (Str.ofString "int") = some (.type "int") := by decide +kernel
theorem bb_bool : bootBuiltins (Str.ofString "bool") = some (.type "bool") := by decide +kernel
theorem bb_str : bootBuiltins (Str.ofString "str") = some (.type "str") := by decide +kernel
/-! -e; k not in d, d handed back by an expression -/
def pNeg : PyData → Option PyData
  | .int i => some (.int (-i))
  | _ => none
theorem x_neg {a : Expr} {fa : M PyData} (ha : PE X a (tOf mg W fa)) : PE X (.UnaryOp .USub a pos) (tOf mg W (f1 pNeg fa)) := (pe_un un_neg ha).imp fun σ H Q ⟨c, G, ρ, S, h⟩ => step S h fun v G1 H1 ρ1 d S1 e1 r1 h1 => by
  obtain ⟨z, hz, n⟩ := lift_gr (α := PyData) S1 h1
  cases r1 <;> cases hz
  exact ⟨_, rfl, n _ G1 H1 (gr0 S1.ex) (.int _)⟩
def gNin (kd d : PyData) : Option PyData := match d, keyT kd with
  | .dict kvs, some ks => some (.bool !(dGet ks kvs).isSome)
  | _, _ => none
def fXNin (fk fd : M PyData) : M PyData := fk.bind fun kd => (f1 isDi fd).bind fun d => M.lift (gNin kd d)
theorem x_xnin {b o : Expr} {fk fd : M PyData} (F : Fit X mg W k) (hb : PE X b (tOf mg W fk)) (ho : PE X o (tOf mg W fd)) (h1 : behindInMarks .NotIn o = false := by rfl) : PE X (.Compare b [.NotIn] [o] pos) (tOf mg W (fXNin fk fd)) :=
  (pe_cmp (pc_dnotin (hu1 F) hb ho) h1).imp fun σ H Q ⟨c, G, ρ, S, h⟩ => step S h fun u G1 H1 ρ1 kd S1 e1 r1 h1 => f1_step S1 h1 fun v G2 H2 ρ2 d z S2 e2 r2 hz h2 => by
    cases r2 with
    | dic hd l q =>
      cases hz
      obtain ⟨z, hz, n⟩ := lift_gr (α := PyData) S2 h2
      unfold gNin at hz
      split at hz
      · rename_i kvs ks ek eq
        cases ek; cases hz
        rcases dget_of S2.ex (S2.ex.rd hd) q (r1.mono e2) eq with ⟨n1, n2⟩ | ⟨d, v, n1, n2, rv⟩
        · rw [n1] at n; exact ⟨_, none, rfl, n2, n _ G2 H2 (gr0 S2.ex) (.bl _)⟩
        · rw [n1] at n; exact ⟨_, some v, rfl, n2, n _ G2 H2 (gr0 S2.ex) (.bl _)⟩
      · cases hz
    | _ => cases hz
end
end Pu
end TP20

section TP21
set_option Elab.async false
set_option linter.all false
set_option maxRecDepth 100000
set_option maxHeartbeats 4200000
namespace Pu
open PyProof.Rows L2 PySem PySem.Spec

/-! ### comprehensions, the block's parts told that the block fits -/
section
variable {X : Cx} {mg : Str → Option Value} {W : WK} {k : Nat} {pos : Pos}
abbrev FPE (X : Cx) (mg : Str → Option Value) (W : WK) (k : Nat) (scope : Scope) (e : Expr) (t : TE) : Prop := ∀ (s : Shared) (H : Hp) (C : Addr) (cl : List (Str × Addr)) (fp : List Addr), Fit (X.blk s H scope (compEnvC scope cl C X.env) fp) mg W.z k → PE (X.blk s H scope (compEnvC scope cl C X.env) fp) e t
abbrev FPTs (X : Cx) (mg : Str → Option Value) (W : WK) (k : Nat) (scope : Scope) (e : List Expr) (t : TT) : Prop := ∀ (s : Shared) (H : Hp) (C : Addr) (cl : List (Str × Addr)) (fp : List Addr), Fit (X.blk s H scope (compEnvC scope cl C X.env) fp) mg W.z k → PTs (X.blk s H scope (compEnvC scope cl C X.env) fp) e t
abbrev FPG (X : Cx) (mg : Str → Option Value) (W : WK) (k : Nat) (scope : Scope) (e : Expr) (t : TG) : Prop := ∀ (s : Shared) (H : Hp) (C : Addr) (cl : List (Str × Addr)) (fp : List Addr), Fit (X.blk s H scope (compEnvC scope cl C X.env) fp) mg W.z k → PG (X.blk s H scope (compEnvC scope cl C X.env) fp) e t
theorem y_lc {elt tg iter : Expr} {ifs : List Expr} {scope : Scope} {own : List (Str × Nat)} {f : M (List PyData)} {t : TG} {g : TM} {js : List Nat} {ft : M Bool} {fe : M PyData} (F : Fit X mg W k) (hi : PI X tg iter (iOf mg W f)) (ok : BlkOk X.N X.env.scope scope own)
    (hg : FPG X mg W k scope tg t) (hg' : TgOk t g js) (hjs : ∀ j ∈ js, j ∈ own.map (·.2)) (ht : FPTs X mg W k scope ifs (ttOf mg W.z ft)) (he : FPE X mg W k scope elt (tOf mg W.z fe)) (hs : ∀ x, foldedSetIterable iter X.env x = pure x := by intro _; rfl) :
    PE X (.ListComp elt [⟨tg, iter, ifs, 0⟩] scope pos) (tOf mg W (fLc f g ft fe (own.map (·.2)))) :=
  x_lc F hi ok (fun s H C cl fp => hg s H C cl fp (F.blk ..)) hg' hjs (fun s H C cl fp => ht s H C cl fp (F.blk ..)) (fun s H C cl fp => he s H C cl fp (F.blk ..)) hs
theorem z_lc {i : Nat} {y : Str} {py spos : Pos} {elt tg iter : Expr} {ifs : List Expr} {scope : Scope} {own : List (Str × Nat)} {f : M (List PyData)} {t : TG} {g : TM} {js : List Nat} {ft : M Bool} {fe : M PyData} (F : Fit X mg W k) (hy : X.N[i]? = some y) (hyl : X.env.scope.names.lookup y = some .local)
    (hsw : swapsWith (.ListComp elt [⟨tg, iter, ifs, 0⟩] scope pos) (some (.Name y py)) spos.line X.env = pure true) (hi : PI X tg iter (iOf mg W f)) (ok : BlkOk X.N X.env.scope scope own)
    (hg : FPG X mg W k scope tg t) (hg' : TgOk t g js) (hjs : ∀ j ∈ js, j ∈ own.map (·.2)) (ht : FPTs X mg W k scope ifs (ttOf mg W.z ft)) (he : FPE X mg W k scope elt (tOf mg W.z fe)) (hs : ∀ x, foldedSetIterable iter X.env x = pure x := by intro _; rfl) :
    PS X (.Assign [.Name y py] (.ListComp elt [⟨tg, iter, ifs, 0⟩] scope pos) spos) (sOf mg W (sAsg (fLc f g ft fe (own.map (·.2))) (gN i))) :=
  s_lc F hy hyl hsw hi ok (fun s H C cl fp => hg s H C cl fp (F.blk ..)) hg' hjs (fun s H C cl fp => ht s H C cl fp (F.blk ..)) (fun s H C cl fp => he s H C cl fp (F.blk ..)) hs
theorem z_lcO {i : Nat} {y : Str} {py spos : Pos} {elt tg iter : Expr} {ifs : List Expr} {scope : Scope} {own : List (Str × Nat)} {f : M (List PyData)} {t : TG} {g : TM} {js : List Nat} {ft : M Bool} {fe : M PyData} (F : Fit X mg W k) (hy : X.N[i]? = some y) (hyl : X.env.scope.names.lookup y = some .local)
    (hsw : swapsWith (.ListComp elt [⟨tg, iter, ifs, 0⟩] scope pos) (some (.Name y py)) spos.line X.env = pure true) (hi : PI X tg iter (iOf mg W f)) (ok : BlkOk X.N X.env.scope scope own)
    (hg : FPG X mg W k scope tg t) (hg' : TgOk t g js) (hjs : ∀ j ∈ js, j ∈ own.map (·.2)) (ht : FPTs X mg W k scope ifs (ttOf mg W.z ft)) (he : FPE X mg W k scope elt (tOf mg W.z fe)) (hs : ∀ x, foldedSetIterable iter X.env x = pure x := by intro _; rfl) :
    PS X (.Assign [.Name y py] (.ListComp elt [⟨tg, iter, ifs, 0⟩] scope pos) spos) (sOf mg W (sOwn (fLc f g ft fe (own.map (·.2))) i)) :=
  s_lcO F hy hyl hsw hi ok (fun s H C cl fp => hg s H C cl fp (F.blk ..)) hg' hjs (fun s H C cl fp => ht s H C cl fp (F.blk ..)) (fun s H C cl fp => he s H C cl fp (F.blk ..)) hs
theorem z_dcO {j : Nat} {y : Str} {py spos : Pos} {kx vx tg : Expr} {i : Nat} {x : Str} {p : Pos} {ifs : List Expr} {scope : Scope} {own : List (Str × Nat)} {t : TG} {g : TM} {js : List Nat} {ft : M Bool} {fk fv : M PyData} (F : Fit X mg W k) (hy : X.N[j]? = some y) (hyl : X.env.scope.names.lookup y = some .local)
    (hsw : swapsWith (.DictComp kx vx [⟨tg, .Name x p, ifs, 0⟩] scope pos) (some (.Name y py)) spos.line X.env = pure true) (hN : X.N[i]? = some x) (hv : Vis X.env.scope x) (ok : BlkOk X.N X.env.scope scope own)
    (hg : FPG X mg W k scope tg t) (hg' : TgOk t g js) (hjs : ∀ j ∈ js, j ∈ own.map (·.2)) (ht : FPTs X mg W k scope ifs (ttOf mg W.z ft)) (hk : FPE X mg W k scope kx (tOf mg W.z fk)) (he : FPE X mg W k scope vx (tOf mg W.z fv)) (hs : ∀ v, foldedSetIterable (.Name x p) X.env v = pure v := by intro _; rfl)
    (hd : (x == ("__debug__" : Str)) = false := by decide) (hcd : (x == ("__classdict__" : Str)) = false := by decide) : PS X (.Assign [.Name y py] (.DictComp kx vx [⟨tg, .Name x p, ifs, 0⟩] scope pos) spos) (sOf mg W (sOwn (fDc i g ft fk fv (own.map (·.2))) j)) :=
  s_dcO F hy hyl hsw hN hv ok (fun s H C cl fp => hg s H C cl fp (F.blk ..)) hg' hjs (fun s H C cl fp => ht s H C cl fp (F.blk ..)) (fun s H C cl fp => hk s H C cl fp (F.blk ..)) (fun s H C cl fp => he s H C cl fp (F.blk ..)) hs hd hcd
end
end Pu
end TP21

section TP22
set_option Elab.async false
set_option linter.all false
set_option maxRecDepth 100000
set_option maxHeartbeats 4200000
namespace Pu
open PyProof.Rows L2 PySem PySem.Spec

/-! ### the law -/
def spLaw (K : PySem.W.Frag) (most : Nat) : Sp := fun vs H Q _ => ∃ (a : Addr) (ns : List Int), vs = [.ref a] ∧ ns.length ≤ most ∧ SqL K H a (ns.map V.int) ∧ ∀ H', Q (.bl true) H'
/-- the law's own slots at first -/
def rhoL (n : Nat) (ns : List Int) : Env := .scr ns :: List.replicate (n - 1) .un
section
variable {w : World} {P : Program} {K : PySem.W.Frag} {base : Heap} {mg : Str → Option Value}
theorem lawOk {x : Str} {st : Stmt} {f : Addr} {fd : FuncData} {N : List Str} {k most : Nat} {g : SM} {sx : Str} (Fn : FnP K x st f fd) (S : FnScope N [sx] (defScope st)) (body : Bod P w K mg base x st f N k g)
    (win : ∀ ns : List Int, ns.length ≤ most → ∃ ρ, g (rhoL N.length ns) = .rt (.bool true) ρ) : FnOk P w K mg base (L2.CX P w) (k + 1) f fd [sx] (spLaw K most) := by
  refine Fn.ok S (fun vs H Q E h => ?_) fun cdv A outer s H vs Q E hr h => ⟨_, body _ ⟨cdv, A, outer, s, H, E, rfl⟩ ⟨fun cls d _ H => E cls d H, K⟩ (fit_def S.nd hr), ?_⟩
  · obtain ⟨a, ns, rfl, _⟩ := h
    rfl
  · obtain ⟨a, ns, rfl, hl, sq, q⟩ := h
    obtain ⟨ρ, e⟩ := win ns hl
    refine ⟨⟨H, H, fun _ => False⟩, H, rhoL N.length ns, ⟨.refl H, .refl H, fun a o h _ => h, fun a o h => .inl h, fun a h => h.elim, by unfold L2.start rhoL; simp, fun i s e => ?_, fun i j s t p e1 _ m1 _ _ _ => ?_⟩, ?_⟩
    · unfold rhoL at e
      unfold L2.start
      cases i with
      | zero => simp at e; subst e; exact ⟨_, rfl, a, rfl, sq⟩
      | succ i =>
        have e' : (List.replicate (N.length - 1) Sl.un)[i]? = some s := by simpa using e
        rw [List.getElem?_replicate] at e'
        split at e'
        · cases e'
          refine ⟨none, ?_, trivial⟩
          rename_i hi
          have : (List.replicate (N.length - 1) (none : Option V))[i]? = some none := by rw [List.getElem?_replicate, if_pos hi]
          simpa using this
        · cases e'
    · unfold rhoL at e1
      cases i with
      | zero => simp at e1; subst e1; cases m1
      | succ i =>
        have e' : (List.replicate (N.length - 1) Sl.un)[i]? = some s := by simpa using e1
        rw [List.getElem?_replicate] at e'
        split at e'
        · cases e'; cases m1
        · cases e'
    · rw [e]
      exact fun v σ' G' H' S' _ rp => by cases rp; exact q H'
end
/-- the end of a law -/
theorem walkX {l : PySem.W.OpenLaw} {n k : Nat} {q : Program} {loose : List Str} {XP : (Str → Option Value) → Heap → Prop} {YP : World → Heap → Prop} {d : DefRec} {x : Str} (hn : l.most = some n) (hn2 : n ≤ sizeLine) (hdf : d.params.defaults = []) (hr : Room k callerA)
    (F : ∀ (w : World) (mg : Str → Option Value) (fa : Addr) (h : Heap), YP w h → h.Ns mainGlobals mg → mg d.name = some (.ref fa) → ∃ (K : PySem.W.Frag) (fd : FuncData), K.In h ∧ (∀ (s : Shared) (u : Value), BindsTo s fd ⟨[u], []⟩ [(x, u)]) ∧
      ∀ base : Heap, K.In base → base.Ns mainGlobals mg → FnOk l.prog w K mg base (L2.CX l.prog w) k fa fd [x] (spLaw K n)) : PySem.W.WalkO q loose XP YP l.row.toRowW d [] (fun f vs => PySem.call f vs) := by
  refine Att.attach_call hn hdf fun w _ _ mg _ fa _ _ _ _ a _ ns G Y _ _ _ there obj hnt few left => ?_
  obtain ⟨K, fd, KX, hb, hF⟩ := F w mg fa _ Y G.T.g there
  refine law_call KX G.T.g G.T.b G.T.builtins G.T.nolimit left obj hnt (Nat.le_trans few hn2) hr hF hb (fun H _ hS => ⟨a, ns, rfl, few, hS, fun _ => rfl⟩) fun _ _ _ ⟨_, _, _, _, _, _, _, _, _, _, _, _, z⟩ => z
/-! ### facts of names that are built-ins of a module -/
def bltB (K : PySem.W.Frag) (bs : List (Str × String)) : Bool := bs.all fun p => He.eqO (PySem.W.nsIn K mainGlobals p.1) (some (some (.builtin p.2)))
/-- a part of what is looked at: facts by names, and defs -/
abbrev Ch := List He.Fa × List He.DefD
abbrev AlB : Type := List He.AlD × Bool
structure SaysB (cs : List Ch) (bs : List (Str × String)) (K : PySem.W.Frag) : Prop where
  part : ∀ c ∈ cs, He.SaysD c.1 c.2 K
  blt : bltB K bs = true
def obsC (n : Nat) (g : Addr → Option Obj) (c : Ch) : He.AlD := He.obsDG n c.1 c.2 g
def obsB (n : Nat) (cs : List Ch) (bs : List (Str × String)) (g : Addr → Option Obj) : AlB := (cs.map (obsC n g), bltB (He.frG g (He.asD g n)) bs)
def hookB (n : Nat) (cs : List Ch) (bs : List (Str × String)) : PySem.W.Hook where
  α := AlB
  obs := fun s => obsB n cs bs s.heap.get?
  val := fun _ => (cs.map fun c => He.valD c.2, true)
  says := fun _ h => ∃ K : PySem.W.Frag, K.In h ∧ SaysB cs bs K
  of := fun _ _ e => ⟨_, He.frG_in, ⟨fun c hc => (List.map_inj_left.mp (Prod.ext_iff.mp e).1 c hc : _ = He.valD c.2), (Prod.ext_iff.mp e).2⟩⟩
  keeps := fun _ _ _ z k => let ⟨K, a, c⟩ := z; ⟨K, a.keeps k, c⟩
theorem obsB_eq {n : Nat} {cs : List Ch} {bs : List (Str × String)} {g : Addr → Option Obj} {s : Shared} (h : ∀ a, g a = s.heap.get? a) : obsB n cs bs g = (hookB n cs bs).obs s := by
  obtain rfl : g = s.heap.get? := funext h
  rfl
/-! the run, looked at part by part -/
theorem part_two {σ α β γ : Type} {o : Option σ} {A : σ → α} {B : σ → β} {C : σ → γ} {a : α} {b : β} {c : γ} (h1 : o.map (fun x => (A x, B x)) = some (a, b)) (h2 : o.map C = some c) : o.map (fun x => (A x, B x, C x)) = some (a, b, c) := by
  obtain ⟨x, rfl, e⟩ := Option.map_eq_some_iff.mp h1
  have e4 := Prod.mk.inj e
  exact congrArg some (Prod.ext e4.1 (Prod.ext e4.2 (Option.some.inj h2)))
theorem blt_ok {K : PySem.W.Frag} {h : Heap} {mg : Str → Option Value} {bs : List (Str × String)} (X : K.In h) (G : h.Ns mainGlobals mg) (c : bltB K bs = true) (i : Nat) {p : Str × String} (e : bs[i]? = some p := by rfl) : mg p.1 = some (.builtin p.2) :=
  PySem.W.mg_of X G (He.eqO_ok (List.all_eq_true.mp c p (List.mem_of_getElem? e)))
end Pu
end TP22

section TP23
set_option Elab.async false
set_option linter.all false
set_option maxRecDepth 100000
set_option maxHeartbeats 4200000
namespace Pu
open PyProof.Rows L2 PySem PySem.Spec

/-! ### [e for .. in .. for .. in ..] -/
def fLc2L (g : TM) (t : M Bool) (f1 : M (List PyData)) (g1 : TM) (t1 : M Bool) (e : M PyData) (vs vs1 : List Nat) : List PyData → List PyData → M (List PyData)
  | [], acc => fun ρ => .ok acc ρ
  | d :: ds, acc => fun ρ => match g d ρ with
    | none => .no
    | some ρ1 => match t ρ1 with
      | .ok true ρ2 => match f1 ρ2 with
        | .ok es ρ3 => if acc.length + es.length ≤ LIM then (match fLcL g1 t1 e vs1 es acc (wipeE ρ3 vs1) with
          | .ok acc' ρ4 => fLc2L g t f1 g1 t1 e vs vs1 ds acc' (wipeE ρ4 vs)
          | _ => .no) else .no
        | _ => .no
      | .ok false ρ2 => fLc2L g t f1 g1 t1 e vs vs1 ds acc (wipeE ρ2 vs)
      | _ => .no
def fLc2 (f : M (List PyData)) (g : TM) (t : M Bool) (f1 : M (List PyData)) (g1 : TM) (t1 : M Bool) (e : M PyData) (vs vs1 : List Nat) : M PyData := f.bind fun ds ρ => match fLc2L g t f1 g1 t1 e vs vs1 ds [] (wipeE ρ vs) with
  | .ok l ρ' => .ok (.list l) (wipeE ρ' vs)
  | _ => .no
def lcEnd (r : R (List PyData)) (vs : List Nat) : R PyData := match r with
  | .ok l ρ' => .ok (.list l) (wipeE ρ' vs)
  | _ => .no
section
variable {X : Cx} {mg : Str → Option Value} {W : WK} {k : Nat} {pos : Pos}
theorem r_lc2 {J : It} {ds : List PyData} {c : Fc W.K} {G1 H1 : Hp} {σ : L2.St} {ρ : Env} {Q : V → Hp → Prop} {t t1 : TG} {g g1 : TM} {js js1 : List Nat} {ft ft1 : M Bool} {f1 : M (List PyData)} {fe : M PyData} {vs vs1 : List Nat} (ij : ItOk J ds G1) (S : Stt c G1 H1 σ ρ) (ok : TgOk t g js) (hjs : ∀ j ∈ js, j ∈ vs) (ok1 : TgOk t1 g1 js1) (hjs1 : ∀ j ∈ js1, j ∈ vs1) (hv : ∀ j ∈ vs1, j ∈ vs)
    (h : Res mg W rO c G1 σ (fun v H' => Q v H') (lcEnd (fLc2L g ft f1 g1 ft1 fe vs vs1 ds [] (wipeE ρ vs)) vs)) :
    ∀ D, H1 D = none → ∃ W' : Nat → Nat → Hp → Prop, (∃ m, W' 0 m (upd H1 D (.lst []))) ∧ ∀ i m H, W' i m H →
      (J.stop i H ∧ Q (.ref D) H) ∨ (J.go i H ∧ ∃ Nx : Hp → Prop, (∀ H', Nx H' → ∃ m', m' < m ∧ W' (i + 1) m' H') ∧ ∀ x H', J.yld i H x H' → t x (L2.wipe σ vs) H' fun σ2 H2 => L2.wipe σ2 vs = L2.wipe σ vs ∧ ttOf mg W.z ft σ2 H2 fun b H3 =>
        if b = true then iOf mg W.z f1 σ2 H3 fun J1 H4 => ∃ W1 : Nat → Nat → Hp → Prop, (∃ m, W1 0 m H4) ∧ ∀ j k H, W1 j k H →
          (J1.stop j H ∧ Nx H) ∨ (J1.go j H ∧ ∃ Nx1 : Hp → Prop, (∀ H', Nx1 H' → ∃ k', k' < k ∧ W1 (j + 1) k' H') ∧ ∀ x H', J1.yld j H x H' → t1 x (L2.wipe σ2 vs1) H' fun σ3 H5 => L2.wipe σ3 vs1 = L2.wipe σ2 vs1 ∧ ttOf mg W.z ft1 σ3 H5 fun b H6 =>
            if b = true then tOf mg W.z fe σ3 H6 fun y H7 => ∃ acc, H7 D = some (.lst acc) ∧ acc.length < sizeLine ∧ Nx1 (upd H7 D (.lst (acc ++ [y]))) else Nx1 H6)
        else Nx H3) := by
  intro D hD
  obtain ⟨_, h0D, g0D, npD, _⟩ := S.fresh hD
  let Pv : Nat → Hp → Prop := fun i H => ∃ G' ρ' vs' acc, Stt (gd c D (.lst vs')) G' H (L2.wipe σ vs) ρ' ∧ Ex G1 G' ∧ RpA G' vs' acc ∧ acc.length ≤ LIM ∧ Res mg W rO c G1 σ Q (lcEnd (fLc2L g ft f1 g1 ft1 fe vs vs1 (ds.drop i) acc ρ') vs)
  have S0 : Stt c G1 H1 (L2.wipe σ vs) (wipeE ρ vs) := S.wipe (wipe_length σ vs) fun i hi => wipe_out' hi
  have S0' : Stt (gd c D (.lst [])) G1 (upd H1 D (.lst [])) (L2.wipe σ vs) (wipeE ρ vs) := (S0.gr (.apart S.ex hD)).guard (S.ex.free hD) h0D upd_same (S0.fresh hD).2.2.2.2
  refine ⟨fun i m H => m = ds.length - i ∧ i ≤ ds.length ∧ Pv i H, ⟨_, rfl, Nat.zero_le _, G1, wipeE ρ vs, [], [], S0', .refl _, .nil, Nat.zero_le _, h⟩, ?_⟩
  rintro i m H ⟨rfl, hi, G', ρ', vs', acc, S', e', ra, la, h'⟩
  obtain ⟨go, stop⟩ := ij i G' H e' S'.ex
  by_cases hlt : i < ds.length
  · have hd : ds[i]? = some ds[i] := List.getElem?_eq_getElem hlt
    obtain ⟨g1', y1⟩ := go _ hd
    rw [List.drop_eq_getElem_cons hlt] at h'
    simp only [fLc2L] at h'
    refine .inr ⟨g1', fun H2 => Pv (i + 1) H2, fun H2 p => ⟨ds.length - (i + 1), by omega, rfl, hlt, p⟩, fun x H2 y => ?_⟩
    obtain ⟨G2, gr, rx⟩ := y1 x H2 y
    have S2 := S'.gr gr
    cases eg : g ds[i] ρ' with
    | none => rw [eg] at h'; exact h'.elim
    | some ρ1 =>
      rw [eg] at h'
      dsimp only at h'
      refine ok _ _ G2 H2 _ ρ' x ds[i] ρ1 _ S2 rx eg fun σ3 S3 kp => ?_
      have hlen : σ3.length = σ.length := by rw [kp.1, wipe_length]
      have hag : ∀ j, j ∉ vs → σ3[j]? = (L2.wipe σ vs)[j]? := fun j hj => kp.2 j fun z => hj (hjs j z)
      have hw : L2.wipe σ3 vs = L2.wipe σ vs := wipe_ext (σ := σ) hlen fun j hj => (hag j hj).trans (wipe_out' hj)
      have back : ∀ {κ' : PySem.W.Frag} {c' : Fc κ'} {G4 H4 : Hp} {ρ4 : Env}, Stt c' G4 H4 σ3 ρ4 → Stt c' G4 H4 (L2.wipe σ vs) (wipeE ρ4 vs) := fun {κ' c' G4 H4 ρ4} S4 => S4.wipe (by rw [wipe_length, hlen]) fun j hj => (hag j hj).symm
      refine ⟨hw, _, G2, ρ1, S3, ?_⟩
      cases et : ft ρ1 with
      | no => rw [et] at h'; exact h'.elim
      | exc e ρ2 => rw [et] at h'; exact h'.elim
      | ok b ρ2 =>
        rw [et] at h'
        intro b' G3 H3 S4 e4 rb
        cases rb
        cases b with
        | false =>
          dsimp only at h'
          rw [if_neg (fun z => nomatch z)]
          exact ⟨G3, wipeE ρ2 vs, vs', acc, back S4, e'.trans (gr.g.trans e4), ra.mono (gr.g.trans e4), la, h'⟩
        | true =>
          dsimp only at h'
          rw [if_pos rfl]
          refine ⟨_, G3, ρ2, S4, ?_⟩
          cases e1 : f1 ρ2 with
          | no => rw [e1] at h'; exact h'.elim
          | exc e ρ3 => rw [e1] at h'; exact h'.elim
          | ok es ρ3 =>
            rw [e1] at h'
            dsimp only at h'
            intro J1 G4 H4 S5 e5 ij1
            by_cases hl : acc.length + es.length ≤ LIM
            · rw [if_pos hl] at h'
              have up4 : Ex G1 G4 := e'.trans (gr.g.trans (e4.trans e5))
              have upA : Ex G' G4 := gr.g.trans (e4.trans e5)
              -- the inner walk
              let Pw : Nat → Hp → Prop := fun j H => ∃ G5 ρ5 us as, Stt (gd c D (.lst us)) G5 H (L2.wipe σ3 vs1) ρ5 ∧ Ex G4 G5 ∧ RpA G5 us as ∧ as.length ≤ acc.length + j ∧
                Res mg W rO c G1 σ Q (match fLcL g1 ft1 fe vs1 (es.drop j) as ρ5 with
                  | .ok acc' ρ4 => lcEnd (fLc2L g ft f1 g1 ft1 fe vs vs1 (ds.drop (i + 1)) acc' (wipeE ρ4 vs)) vs
                  | _ => .no)
              have S6 : Stt (gd c D (.lst vs')) G4 H4 (L2.wipe σ3 vs1) (wipeE ρ3 vs1) := S5.wipe (wipe_length σ3 vs1) fun j hj => wipe_out' hj
              refine ⟨fun j k H => k = es.length - j ∧ j ≤ es.length ∧ Pw j H, ⟨_, rfl, Nat.zero_le _, G4, wipeE ρ3 vs1, vs', acc, S6, .refl _, ra.mono upA, Nat.le_refl _, ?_⟩, ?_⟩
              · rw [List.drop_zero]
                cases ew : fLcL g1 ft1 fe vs1 es acc (wipeE ρ3 vs1) with
                | ok a' ρ4 => rw [ew] at h'; exact h'
                | exc e ρ4 => rw [ew] at h'; exact h'
                | no => rw [ew] at h'; exact h'
              rintro j kk H8 ⟨rfl, hj, G5, ρ5, us, as, S7, e7, rs, ls, h7⟩
              obtain ⟨go1, stop1⟩ := ij1 j G5 H8 e7 S7.ex
              by_cases hlt1 : j < es.length
              · have hd1 : es[j]? = some es[j] := List.getElem?_eq_getElem hlt1
                obtain ⟨g2, y2⟩ := go1 _ hd1
                rw [List.drop_eq_getElem_cons hlt1] at h7
                simp only [fLcL] at h7
                refine .inr ⟨g2, fun H9 => Pw (j + 1) H9, fun H9 p => ⟨es.length - (j + 1), by omega, rfl, hlt1, p⟩, fun x1 H9 yy => ?_⟩
                obtain ⟨G6, gr1, rx1⟩ := y2 x1 H9 yy
                have S8 := S7.gr gr1
                cases eg1 : g1 es[j] ρ5 with
                | none => rw [eg1] at h7; exact h7.elim
                | some ρ6 =>
                  rw [eg1] at h7
                  dsimp only at h7
                  refine ok1 _ _ G6 H9 _ ρ5 x1 es[j] ρ6 _ S8 rx1 eg1 fun σ4 S9 kp1 => ?_
                  have hlen1 : σ4.length = σ3.length := by rw [kp1.1, wipe_length]
                  have hag1 : ∀ j, j ∉ vs1 → σ4[j]? = (L2.wipe σ3 vs1)[j]? := fun j hj => kp1.2 j fun z => hj (hjs1 j z)
                  have hw1 : L2.wipe σ4 vs1 = L2.wipe σ3 vs1 := wipe_ext (σ := σ3) hlen1 fun j hj => (hag1 j hj).trans (wipe_out' hj)
                  have back1 : ∀ {κ' : PySem.W.Frag} {c' : Fc κ'} {G4 H4 : Hp} {ρ4 : Env}, Stt c' G4 H4 σ4 ρ4 → Stt c' G4 H4 (L2.wipe σ3 vs1) (wipeE ρ4 vs1) := fun {κ' c' G4 H4 ρ4} S4 => S4.wipe (by rw [wipe_length, hlen1]) fun j hj => (hag1 j hj).symm
                  refine ⟨hw1, _, G6, ρ6, S9, ?_⟩
                  cases et1 : ft1 ρ6 with
                  | no => rw [et1] at h7; exact h7.elim
                  | exc e ρ7 => rw [et1] at h7; exact h7.elim
                  | ok b1 ρ7 =>
                    rw [et1] at h7
                    intro b1' G7 H10 S10 e10 rb1
                    cases rb1
                    cases b1 with
                    | false =>
                      dsimp only at h7
                      rw [if_neg (fun z => nomatch z)]
                      exact ⟨G7, wipeE ρ7 vs1, us, as, back1 S10, e7.trans (gr1.g.trans e10), rs.mono (gr1.g.trans e10), Nat.le_trans ls (by omega), h7⟩
                    | true =>
                      dsimp only at h7
                      rw [if_pos rfl]
                      refine ⟨_, G7, ρ7, S10, ?_⟩
                      cases ee : fe ρ7 with
                      | no => rw [ee] at h7; exact h7.elim
                      | exc e ρ8 => rw [ee] at h7; exact h7.elim
                      | ok z ρ8 =>
                        rw [ee] at h7
                        dsimp only at h7
                        intro yv G8 H11 S11 e11 ry
                        have eall := gr1.g.trans (e10.trans e11)
                        obtain ⟨S12, hD5, gD5, fr5⟩ := (back1 S11).unguard h0D g0D npD
                        have lv : us.length ≤ acc.length + j := by rw [rs.length]; exact ls
                        refine ⟨us, hD5, lim_lt (by omega), ?_⟩
                        exact ⟨G8, wipeE ρ8 vs1, us ++ [yv], as ++ [z], (S12.write gD5 h0D npD fr5).guard gD5 h0D upd_same fr5, e7.trans eall, (rs.mono eall).append (.cons ry .nil), by rw [List.length_append]; show as.length + 1 ≤ _; omega, h7⟩
              · have ej : j = es.length := by omega
                subst ej
                rw [List.drop_length] at h7
                simp only [fLcL] at h7
                refine .inl ⟨stop1 rfl, G5, wipeE ρ5 vs, us, as, S7.wipe (by rw [wipe_length, wipe_length, hlen]) (fun j hj => ?_), up4.trans e7, rs, by omega, h7⟩
                rw [wipe_out' (σ := σ3) fun z => hj (hv j z)]
                exact (hag j hj).symm
            · rw [if_neg hl] at h'; exact h'.elim
  · have e : i = ds.length := by omega
    subst e
    rw [List.drop_length] at h'
    refine .inl ⟨stop rfl, ?_⟩
    obtain ⟨S7, hD5, gD5, fr5⟩ := S'.unguard h0D g0D npD
    have S8 : Stt c G' H σ (wipeE ρ' vs) := S7.wipe (wipe_length σ vs).symm fun j hj => (wipe_out' hj).symm
    simp only [fLc2L, lcEnd] at h'
    have fr8 : Free σ (wipeE ρ' vs) D := fun j s e m hx => by
      rcases wipeE_get e with rfl | ⟨e1, ni⟩
      · cases m
      · exact fr5 j s e1 m (by rw [wipe_out' ni]; exact hx)
    exact h' _ G' H S8 e' ⟨D, rfl, gD5, h0D, ⟨la, vs', hD5, ra⟩, fr8⟩
theorem fLc2_ok {f f1 : M (List PyData)} {g g1 : TM} {ft ft1 : M Bool} {fe : M PyData} {vs vs1 : List Nat} {t t1 : TG} {js js1 : List Nat} (ok : TgOk t g js) (hjs : ∀ j ∈ js, j ∈ vs) (ok1 : TgOk t1 g1 js1) (hjs1 : ∀ j ∈ js1, j ∈ vs1) (hv : ∀ j ∈ vs1, j ∈ vs) {σ : L2.St} {H : Hp} {Q : VK} (w : toOf mg W (fLc2 f g ft f1 g1 ft1 fe vs vs1) σ H Q) :
    tLc2 (iOf mg W f) t (ttOf mg W.z ft) (iOf mg W.z f1) t1 (ttOf mg W.z ft1) (tOf mg W.z fe) vs vs1 σ H Q := by
  obtain ⟨c, G, ρ, S, h⟩ := w
  refine ⟨c, G, ρ, S, ?_⟩
  unfold fLc2 M.bind at h
  cases e : f ρ with
  | no => rw [e] at h; exact h
  | exc x ρ1 => rw [e] at h; exact h
  | ok ds ρ1 =>
    rw [e] at h
    dsimp only at h ⊢
    intro J G1 H1 S1 e1 ij
    refine r_lc2 (W := W) ij S1 ok hjs ok1 hjs1 hv (Res.mono e1 ?_)
    cases e2 : fLc2L g ft f1 g1 ft1 fe vs vs1 ds [] (wipeE ρ1 vs) with
    | ok l ρ2 => rw [e2] at h; exact h
    | exc x ρ2 => rw [e2] at h; exact h
    | no => rw [e2] at h; exact h
abbrev FPI (X : Cx) (mg : Str → Option Value) (W : WK) (k : Nat) (scope : Scope) (tg e : Expr) (t : TI) : Prop := ∀ (s : Shared) (H : Hp) (C : Addr) (cl : List (Str × Addr)) (fp : List Addr), Fit (X.blk s H scope (compEnvC scope cl C X.env) fp) mg W.z k → PI (X.blk s H scope (compEnvC scope cl C X.env) fp) tg e t
theorem y_lc2O {elt tg iter tg1 iter1 : Expr} {ifs ifs1 : List Expr} {scope : Scope} {own : List (Str × Nat)} {vs1 : List Nat} {f f1 : M (List PyData)} {t t1 : TG} {g g1 : TM} {js js1 : List Nat} {ft ft1 : M Bool} {fe : M PyData} (F : Fit X mg W k) (hi : PI X tg iter (iOf mg W f)) (ok : BlkOk X.N X.env.scope scope own) (hv : ∀ j ∈ vs1, j ∈ own.map (·.2))
    (hg : FPG X mg W k scope tg t) (hg' : TgOk t g js) (hjs : ∀ j ∈ js, j ∈ own.map (·.2)) (ht : FPTs X mg W k scope ifs (ttOf mg W.z ft)) (hi1 : FPI X mg W k scope tg1 iter1 (iOf mg W.z f1)) (hg1 : FPG X mg W k scope tg1 t1) (hg1' : TgOk t1 g1 js1) (hjs1 : ∀ j ∈ js1, j ∈ vs1) (ht1 : FPTs X mg W k scope ifs1 (ttOf mg W.z ft1)) (he : FPE X mg W k scope elt (tOf mg W.z fe))
    (hs : ∀ x, foldedSetIterable iter X.env x = pure x := by intro _; rfl) (hs1 : ∀ env x, foldedSetIterable iter1 env x = pure x := by intro _ _; rfl) : PE X (.ListComp elt [⟨tg, iter, ifs, 0⟩, ⟨tg1, iter1, ifs1, 0⟩] scope pos) (toOf mg W (fLc2 f g ft f1 g1 ft1 fe (own.map (·.2)) vs1)) :=
  (pe_lc2 F.calm F.nd hi ok hv (fun s H C cl fp => hg s H C cl fp (F.blk ..)) (fun s H C cl fp => ht s H C cl fp (F.blk ..)) (fun s H C cl fp => hi1 s H C cl fp (F.blk ..)) (fun s H C cl fp => hg1 s H C cl fp (F.blk ..)) (fun s H C cl fp => ht1 s H C cl fp (F.blk ..)) (fun s H C cl fp => he s H C cl fp (F.blk ..)) hs hs1).imp
    fun _ _ _ w => fLc2_ok hg' hjs hg1' hjs1 hv w
theorem z_lc2 {i : Nat} {y : Str} {py spos : Pos} {elt tg iter tg1 iter1 : Expr} {ifs ifs1 : List Expr} {scope : Scope} {own : List (Str × Nat)} {vs1 : List Nat} {f f1 : M (List PyData)} {t t1 : TG} {g g1 : TM} {js js1 : List Nat} {ft ft1 : M Bool} {fe : M PyData} (F : Fit X mg W k) (hy : X.N[i]? = some y) (hyl : X.env.scope.names.lookup y = some .local)
    (hsw : swapsWith (.ListComp elt [⟨tg, iter, ifs, 0⟩, ⟨tg1, iter1, ifs1, 0⟩] scope pos) (some (.Name y py)) spos.line X.env = pure true) (hi : PI X tg iter (iOf mg W f)) (ok : BlkOk X.N X.env.scope scope own) (hv : ∀ j ∈ vs1, j ∈ own.map (·.2))
    (hg : FPG X mg W k scope tg t) (hg' : TgOk t g js) (hjs : ∀ j ∈ js, j ∈ own.map (·.2)) (ht : FPTs X mg W k scope ifs (ttOf mg W.z ft)) (hi1 : FPI X mg W k scope tg1 iter1 (iOf mg W.z f1)) (hg1 : FPG X mg W k scope tg1 t1) (hg1' : TgOk t1 g1 js1) (hjs1 : ∀ j ∈ js1, j ∈ vs1) (ht1 : FPTs X mg W k scope ifs1 (ttOf mg W.z ft1)) (he : FPE X mg W k scope elt (tOf mg W.z fe))
    (hs : ∀ x, foldedSetIterable iter X.env x = pure x := by intro _; rfl) (hs1 : ∀ env x, foldedSetIterable iter1 env x = pure x := by intro _ _; rfl) :
    PS X (.Assign [.Name y py] (.ListComp elt [⟨tg, iter, ifs, 0⟩, ⟨tg1, iter1, ifs1, 0⟩] scope pos) spos) (sOf mg W (sAsg (fLc2 f g ft f1 g1 ft1 fe (own.map (·.2)) vs1) (gN i))) :=
  (ps_setLc2 F.calm F.nd hy hyl hsw hi ok hv (fun s H C cl fp => hg s H C cl fp (F.blk ..)) (fun s H C cl fp => ht s H C cl fp (F.blk ..)) (fun s H C cl fp => hi1 s H C cl fp (F.blk ..)) (fun s H C cl fp => hg1 s H C cl fp (F.blk ..)) (fun s H C cl fp => ht1 s H C cl fp (F.blk ..)) (fun s H C cl fp => he s H C cl fp (F.blk ..)) hs hs1).imp fun D σ H ⟨c, G, ρ, S, h⟩ => by
    refine fLc2_ok hg' hjs hg1' hjs1 hv (stepS S h fun v G1 H1 ρ1 d S1 e1 r1 h1 => ?_)
    obtain ⟨p, rfl, g0, h0, ow, fr⟩ := r1
    obtain ⟨G2, S2, e2, rp⟩ := S1.claim g0 h0 ow fr
    exact h1 _ G2 H1 (S2.setDat rp) e2
/-! ### a built-in by a module's name; xs + ys as one's own -/
theorem x_bfun {x : Str} {id : String} {e : Expr} {es : List Expr} {p : Pos} {r : List V → Hp → VK → Prop} {g : List PyData → Option PyData} {fs : M (List PyData)} (F : Fit X mg W k) (hm : mg x = some (.builtin id)) (hc : CallR X (.builtin id) r) (ro : ROA r g) (ha : PA X (e :: es) (taOf mg W fs)) (hg : Gl X x := by rfl) (hdb : (x == ("__debug__" : Str)) = false := by decide)
    (he : starEach (e :: es) X.env = (false, eval e X.env) :: starEach es X.env := by rfl) (hpl : (backTo pos (starEach es X.env)).any (·.1) = false := by rfl) : PE X (.Call (.Name x p) (e :: es) [] pos) (tOf mg W (f1 g fs)) :=
  (pe_callBfun hc hg (by rw [F.mg]; exact hm) ha hdb he hpl).imp fun _ _ _ w => r_call ro w
def gCat (d e : PyData) : Option PyData := match d, e with
  | .list xs, .list ys => if xs.length + ys.length ≤ LIM then some (.list (xs ++ ys)) else none
  | _, _ => none
theorem x_catO {a b : Expr} {fa fb : M PyData} (ha : PE X a (tOf mg W fa)) (hb : PE X b (tOf mg W fb)) : PE X (.BinOp a .Add b pos) (toOf mg W (f2 gCat fa fb)) :=
  (pe_op op_cat ha hb).imp fun σ H Q ⟨c, G, ρ, S, h⟩ => step S h fun u G1 H1 ρ1 d S1 e1 r1 h1 => step S1 h1 fun v G2 H2 ρ2 e S2 e2 r2 h2 => by
    obtain ⟨z, hz, n⟩ := lift_some h2
    unfold gCat at hz
    split at hz
    · split at hz <;> cases hz
      rename_i hl
      have r1 := r1.mono e2
      cases r1 with
      | lst h1 l1 q1 =>
      cases r2 with
      | lst h2 l2 q2 =>
      refine ⟨_, _, _, _, rfl, rfl, S2.ex _ _ h1, S2.ex _ _ h2, by rw [q1.length, q2.length]; exact lim_le hl, fun p hp => ?_⟩
      obtain ⟨f1, f2, f3, f4, f5⟩ := S2.fresh hp
      exact n _ G2 _ (S2.gr (.apart S2.ex hp)) (.refl _) ⟨p, rfl, f1, f2, ⟨by rw [List.length_append]; exact hl, _, upd_same, q1.append q2⟩, f5⟩
    · cases hz
end
end Pu
end TP23

section TP24
set_option Elab.async false
set_option linter.all false
set_option maxRecDepth 100000
set_option maxHeartbeats 4200000
namespace Pu
open PyProof.Rows L2 PySem PySem.Spec

/-! ### what a draw hands back -/
def g_taken : SM := sSeq (sIf (fTB (f2 pGt (fRow 0 3) (fC (.int 0)))) (sSeq (sAsg (f2 pMod (f1 pInt (fCons (fRow 0 3) (fNil))) (fV 1)) (gN 2)) (sSeq (sRow 0 3 (f2 pDiv (fRow 0 3) (fV 1))) (sRet (fV 2)))) (sNil)) (sSeq (sRow 0 1 (f2 pAdd (fRow 0 1) (fC (.int 1))))
  (sSeq (sIf (fTB (f2 pGt (fRow 0 1) (fScrLen 0))) (sSeq (sRow 0 2 (f2 pMod (f1 pInt (fCons (f2 pAdd (f2 pMul (fRow 0 2) (fC (.int 48271))) (fC (.int 11))) (fNil))) (fC (.int 2147483647)))) (sRet (f2 pMod (f1 pInt (fCons (f2 pDiv (fRow 0 2) (fC (.int 7))) (fNil))) (fV 1)))) (sNil))
  (sSeq (sAsg (fScrAt 0 (f2 pSub (fRow 0 1) (fC (.int 1)))) (gN 3)) (sSeq (sRow 0 2 (f2 pMod (f1 pInt (fCons (f2 pAdd (f2 pAdd (f2 pMul (fRow 0 2) (fC (.int 48271))) (fV 3)) (fC (.int 11))) (fNil))) (fC (.int 2147483647))))
  (sSeq (sIf (fTB (f2 pGe (fV 3) (f2 pPow (fC (.int 10)) (fC (.int 18))))) (sRow 0 3 (f2 pDiv (fV 3) (fV 1))) (sNil)) (sRet (f2 pMod (f1 pInt (fCons (fV 3) (fNil))) (fV 1))))))))
theorem mul_lim (i : Int) : pMul (.int i) (.int 48271) = some (.int (i * 48271)) := if_pos (.inr (by decide))
theorem mod_ok {x n : Int} (h : 0 < n) : pMod (.int x) (.int n) = some (.int (x % n)) := if_pos h
theorem div_ok {x n : Int} (h : 0 < n) (h2 : n < 1073741824) : pDiv (.int x) (.int n) = some (.int (x / n)) := if_pos ⟨h, h2⟩
theorem taken_ok (w : Drw) (n : Int) (h1 : 1 ≤ n) (h2 : n < 1073741824) (ha : 0 ≤ w.a) : ∃ r w', runW 4 g_taken w [.int n] = .ok (.int r) w' ∧ 0 ≤ r ∧ r < n ∧ 0 ≤ w'.a := by
  obtain ⟨s, a, b, c⟩ := w
  have ha : 0 ≤ a := ha
  have hn : (0 : Int) < n := by omega
  have hm : ∀ x : Int, 0 ≤ x % n ∧ x % n < n := fun x => ⟨Int.emod_nonneg _ (by omega), Int.emod_lt_of_pos _ hn⟩
  have pm : ∀ x : Int, pMod (.int x) (.int n) = some (.int (x % n)) := fun x => mod_ok hn
  have pd : ∀ x : Int, pDiv (.int x) (.int n) = some (.int (x / n)) := fun x => div_ok hn h2
  have pm2 : ∀ x : Int, pMod (.int x) (.int 2147483647) = some (.int (x % 2147483647)) := fun x => mod_ok (by decide)
  have pd7 : ∀ x : Int, pDiv (.int x) (.int 7) = some (.int (x / 7)) := fun x => div_ok (by decide) (by decide)
  have pp : pPow (.int 10) (.int 18) = some (.int 1000000000000000000) := by kernel_rfl
  by_cases hc : 0 < c
  · refine ⟨c % n, ⟨s, a, b, c / n⟩, ?_, (hm c).1, (hm c).2, ha⟩
    simp [g_taken, runW, outW, rhoW, sSeq, sIf, sE, fTB, f1, f2, M.bind, M.lift, M.pure, fRow, fC, fV, sAsg, gN, sRow, sRet, fCons, fNil, pInt, pGt, pBool, Drw.at, Drw.put, asInt, hc, pm, pd]
  · by_cases hl : (s.length : Int) < a + 1
    · refine ⟨((b * 48271 + 11) % 2147483647 / 7) % n, ⟨s, a + 1, (b * 48271 + 11) % 2147483647, c⟩, ?_, (hm _).1, (hm _).2, show 0 ≤ a + 1 by omega⟩
      simp [g_taken, runW, outW, rhoW, sSeq, sIf, sE, fTB, f1, f2, M.bind, M.lift, M.pure, fRow, fC, fV, sAsg, gN, sRow, sRet, sNil, fCons, fNil, pInt, pGt, pAdd, pBool, Drw.at, Drw.put, asInt, hc, pm, pd, pm2, pd7, mul_lim, fScrLen, fScr, hl]
    · have hlt : a.toNat < s.length := by omega
      have hat : atI s a = some s[a.toNat] := by
        unfold atI ixN
        rw [if_pos ha, if_pos (by omega)]
        simp [hlt]
      by_cases hg : (1000000000000000000 : Int) ≤ s[a.toNat]
      · refine ⟨s[a.toNat] % n, ⟨s, a + 1, (b * 48271 + s[a.toNat] + 11) % 2147483647, s[a.toNat] / n⟩, ?_, (hm _).1, (hm _).2, show 0 ≤ a + 1 by omega⟩
        simp [g_taken, runW, outW, rhoW, sSeq, sIf, sE, fTB, f1, f2, M.bind, M.lift, M.pure, fRow, fC, fV, sAsg, gN, sRow, sRet, sNil, fCons, fNil, pInt, pGt, pGe, pAdd, pSub, pBool, Drw.at, Drw.put, asInt, hc, pm, pd, pm2, pd7, mul_lim, fScrLen, fScr, fScrAt, hl, pp, hat, hg]
      · refine ⟨s[a.toNat] % n, ⟨s, a + 1, (b * 48271 + s[a.toNat] + 11) % 2147483647, c⟩, ?_, (hm _).1, (hm _).2, show 0 ≤ a + 1 by omega⟩
        simp [g_taken, runW, outW, rhoW, sSeq, sIf, sE, fTB, f1, f2, M.bind, M.lift, M.pure, fRow, fC, fV, sAsg, gN, sRow, sRet, sNil, fCons, fNil, pInt, pGt, pGe, pAdd, pSub, pBool, Drw.at, Drw.put, asInt, hc, pm, pd, pm2, pd7, mul_lim, fScrLen, fScr, fScrAt, hl, pp, hat, hg]
end Pu
end TP24

section TP25
set_option Elab.async false
set_option linter.all false
set_option maxRecDepth 100000
set_option maxHeartbeats 4200000
namespace Pu
open PyProof.Rows L2 PySem PySem.Spec
/-! ### list.index over tuples of ints, the thing there -/
section
variable {X : Cx}
abbrev TI := PySem.W.Tup Int
theorem toD_tup (k : List Int) : PySem.W.Datum.toD (PySem.W.Tup.mk k : TI) = tupI k := rfl
def rIndexT : V → List V → Hp → VK → Prop := fun x xs H Q => ∃ (G : Hp) (l : Addr) (ys : List V) (y : V) (ks : List (List Int)) (k : List Int), x = V.ref l ∧ xs = [y] ∧ Ex G H ∧ G l = some (.lst ys) ∧ RpA G ys (ks.map tupI) ∧ Rp G y (tupI k) ∧ ks.length ≤ LIM ∧ k ∈ ks ∧ Q (.int (ks.idxOf k : Nat)) H
theorem tups_flat : ∀ ks : List (List Int), PyData.plainAll (ks.map tupI) = true := fun ks => by
  have := PySem.W.plainAll_map (ks.map fun k => (PySem.W.Tup.mk k : TI))
  rwa [List.map_map] at this
theorem idx_mk (k : List Int) : ∀ ks : List (List Int), (ks.map fun k => (PySem.W.Tup.mk k : TI)).idxOf (PySem.W.Tup.mk k) = ks.idxOf k
  | [] => rfl
  | a :: ks => by
    rw [List.map_cons, List.idxOf_cons, List.idxOf_cons, idx_mk k ks]
    have e : ((PySem.W.Tup.mk a : TI) == PySem.W.Tup.mk k) = (a == k) := by
      apply Bool.eq_iff_iff.mpr
      rw [beq_iff_eq, beq_iff_eq, PySem.W.Tup.mk.injEq]
    rw [e]
theorem mt_indexT (hu : X.A.units + 64 < cLine) : MtR X "list.index" rIndexT := by
  rintro pins s σ H _ _ v us Q I rx rxs ⟨G, l, ys, y, ks, k, rfl, rfl, ex, hl, q, ry, hn, hk, fin⟩
  cases rx
  obtain ⟨u, eu, ru⟩ := rxs.one
  subst eu
  obtain ⟨its, rv, plain, hz⟩ := I.list (SqL.of (ex _ _ hl))
  obtain ⟨as, h1⟩ := RpA.reads I ex q rv (tups_flat ks)
  obtain ⟨bs, h2⟩ := Rp.reads I ex ry ru (PySem.W.Datum.plain (PySem.W.Tup.mk k : TI))
  have len : ks.length ≤ sizeLine := lim_le hn
  have il : s.heap.IsList l its.toArray := by
    obtain ⟨o, n, ho, hc, hdn, hd⟩ := plain
    exact ⟨o, ho, hc, n, hd⟩
  have ha : PySem.W.HoldAll s.heap its (ks.map fun k => (PySem.W.Tup.mk k : TI)) := ⟨as, by rw [List.map_map]; exact h1⟩
  refine PySem.W.index_list_datum (α := TI) (vs := its) il ha (x := PySem.W.Tup.mk k) ⟨bs, h2⟩ (by show X.A.units + 1 + (0 + 1) < cLine; omega) (by rwa [List.length_map]) (List.mem_map.mpr ⟨k, hk, rfl⟩) ?_
  rw [idx_mk]
  exact ⟨.int _, H, I.tok _, ⟨_, rfl⟩, fin⟩
end
def pIndex : PyData → PyData → Option PyData
  | .list xs, .tuple ys => match tupsOf xs, asInts ys with
    | some ks, some k => if k ∈ ks then some (.int (ks.idxOf k : Nat)) else none
    | _, _ => none
  | _, _ => none
theorem tupsOf_eq : ∀ {ds : List PyData} {ks : List (List Int)}, tupsOf ds = some ks → ds = ks.map tupI
  | [], _, h => by cases h; rfl
  | d :: ds, ks, h => by
    cases d with
    | tuple xs =>
      unfold tupsOf at h
      split at h
      · rename_i k ks' e1 e2
        cases h
        rw [List.map_cons, ← tupsOf_eq e2]
        unfold tupI
        rw [← asInts_eq e1]
      · cases h
    | _ => unfold tupsOf at h; cases h
def isLs : PyData → Option PyData
  | .list xs => some (.list xs)
  | _ => none
def fIndex (fb fe : M PyData) : M PyData := (f1 isLs fb).bind fun d => fe.bind fun e => M.lift (pIndex d e)
section
variable {X : Cx} {mg : Str → Option Value} {W : WK} {k : Nat} {pos : Pos}
theorem x_index {b e : Expr} {apos : Pos} {fb fe : M PyData} (F : Fit X mg W k) (hb : PE X b (tOf mg W fb)) (he : PE X e (tOf mg W fe)) (m : M1 X b "index" apos e pos)
    (hs : starEach [e] X.env = (false, eval e X.env) :: starEach [] X.env := by rfl) (hp : (backTo pos (starEach [] X.env)).any (·.1) = false := by rfl) :
    PE X (.Call (.Attribute b "index" apos) [e] [] pos) (tOf mg W (fIndex fb fe)) := (pe_bm PySem.F.plainAttrs_list PySem.F.slot_list_index PySem.F.type_list_index (mt_indexT (hu64 F)) hb (pa_cons he pa_nil hs) m.base m.few m.line hs hp).imp fun σ H Q ⟨c, G, ρ, S, h⟩ => by
  refine f1_step S h fun v G1 H1 ρ1 d z S1 e1 r1 hz h1 => ?_
  cases r1 with
  | lst hl hn r =>
    cases hz
    refine ⟨.inl ⟨rfl, _, SqL.of (S1.ex _ _ hl)⟩, step S1 h1 fun u G2 H2 ρ2 ed S2 e2 r2 h2 => ?_⟩
    obtain ⟨z, hz, n⟩ := lift_gr (α := PyData) S2 h2
    unfold pIndex at hz
    split at hz
    · rename_i xs ys ek
      cases ek
      split at hz
      · rename_i ks k' t1 t2
        split at hz <;> cases hz
        rename_i hk
        have ex := tupsOf_eq t1
        have ey := asInts_eq t2
        subst ex ey
        exact ⟨G2, _, _, u, ks, k', rfl, rfl, S2.ex, e2 _ _ hl, r.mono e2, r2, by rwa [List.length_map] at hn, hk, n _ G2 H2 (gr0 S2.ex) (.int _)⟩
      · cases hz
    · cases hz
  | _ => cases hz
end
end Pu
end TP25

section TP26
set_option Elab.async false
set_option linter.all false
set_option maxRecDepth 100000
set_option maxHeartbeats 4200000
namespace Pu
open PyProof.Rows L2 PySem PySem.Spec
/-! ### len(set(xs)), xs tuples of ints -/
def gLenSet (ks : List (List Int)) : Option PyData := some (.int ((uniq ks).length : Nat))
section
variable {X : Cx} {mg : Str → Option Value} {W : WK} {k : Nat} {pos : Pos}
def rLenSet (P : Program) (w : World) : List V → Hp → VK → Prop := fun vs H Q => ∃ (G : Hp) (a : Addr) (L : List AL), vs = [V.ref a] ∧ Ex G H ∧ H a = some (SetTO P w a L) ∧ (∀ p ∈ L, G p.1 = some (.tup (p.2.map V.int)) ∧ p.2.length ≤ LIM) ∧ Q (.int (L.length : Nat)) H
theorem c_lenSet : CallR X (.builtin "len") (rLenSet X.prog X.w) := by
  rintro pins s σ H _ us Q I r ⟨G, a, L, rfl, ex, ha, hG, fin⟩
  rw [Vals.ref1 r]
  have st : SetT0 X.prog X.w s.heap a L := (I.hok a _ ha).1
  obtain ⟨es, ep, t, R⟩ := st.full fun p hp => I.isT (SqT.of (ex _ _ (hG p hp).1))
  rcases R.ob with ⟨o, ho, hex, hd⟩
  have sz : es.size = L.length := R.size
  have fw := R.few
  exact call_len_set ho hex hd R.fits (by omega) ⟨.int _, H, I.tok _, ⟨_, by rw [sz]⟩, fin⟩
theorem x_lenSet {e : Expr} {f : M (List (List Int))} {p : Pos} (F : Fit X mg W k) (hm : mg "len" = none) (ha : PE X e (wOf mg W (rSet X.prog X.w) f)) (hg : Gl X "len" := by rfl) (hs : starEach [e] X.env = (false, eval e X.env) :: starEach [] X.env := by rfl) (hpl : (backTo pos (starEach [] X.env)).any (·.1) = false := by rfl) :
    PE X (.Call (.Name "len" p) [e] [] pos) (tOf mg W (f1 gLenSet f)) :=
  (pe_callB c_lenSet hg (by rw [F.mg]; exact hm) boot_len (pa_cons ha pa_nil hs) (by decide) (by decide) hs hpl).imp fun σ H Q ⟨c, G, ρ, S, h⟩ => by
    show wOf mg W (rSet X.prog X.w) f σ H _
    refine step S h fun v G1 H1 ρ1 ks S1 e1 r1 h1 => ?_
    obtain ⟨z, hz, n⟩ := lift_gr (α := PyData) S1 h1
    cases hz
    obtain ⟨a, L, rfl, hset, hG, hn, hk⟩ := r1
    have pm : (L.map (·.2)).Perm (uniq ks) := (List.perm_ext_iff_of_nodup hn (nodup_uniq ks)).mpr fun k => (hk k).trans mem_uniq.symm
    have len : L.length = (uniq ks).length := by rw [← pm.length_eq, List.length_map]
    refine ⟨G1, a, L, rfl, S1.ex, hset, hG, ?_⟩
    rw [len]
    exact n _ _ _ (gr0 S1.ex) (.int _)
end
end Pu
end TP26

section TCM
set_option Elab.async false
set_option linter.all false
set_option maxRecDepth 100000
set_option maxHeartbeats 4200000
namespace Cm
open PySem L2 Pu
/-- what a raise is read as: nothing is promised, or the exception itself -/
abbrev Rz := Str → List Str → M (List PyData) → SM
def rzNo : Rz := fun _ _ _ => sNo
def rzX : Rz := fun n fs f => sE f fun ds ρ => .exc ⟨n, fs.zip ds⟩ ρ
def g_is_integer : SM := sSeq (sIf (fOr (fNot (fT (f1 (fun d => some (.bool (isIn .int d))) (fV 0)))) (fT (f1 (fun d => some (.bool (isIn .bool d))) (fV 0)))) (sRet (fC (.bool false))) (sNil)) (sRet (fChain pLe pLe (fV 1) (fV 0) (fV 2)))
def m_is_integer := runF 3 g_is_integer
def g_places_together : SM := sSeq (sAsg (fC (.int 1)) (gN 1)) (sSeq (sFor (fSeq (fV 0)) (gN 2) (sAsg (f2 pMul (fV 1) (fV 2)) (gN 1))) (sRet (fV 1)))
def m_places_together := runF 3 g_places_together
def g_check_wheels (rz : Rz) : SM := sSeq (sIf (fOr (fNot (fT (f1 (fun d => some (.bool (isIn .tuple d))) (fV 0)))) (fNot (fTB (fChain pLe pLe (fC (.int 1)) (f1 pLen (fCons (fV 0) (fNil))) (fC (.int 3)))))) (rz "BadWheels" ["index"] (fCons (fC .none) (fNil))) (sNil)) (sSeq (sFor (fEnum (fCons (fV 0) (fNil))) (gT [gN 1, gN 2]) (sIf (fNot (fT (fCall m_is_integer (fCons (fV 2) (fCons (fC (.int 2)) (fCons (fC (.int 400)) (fNil))))))) (rz "BadWheels" ["index"] (fCons (fV 1) (fNil))) (sNil))) (sIf (fTB (f2 pGt (fCall m_places_together (fCons (fV 0) (fNil))) (fC (.int 400)))) (rz "BadWheels" ["index"] (fCons (fC .none) (fNil))) (sNil)))
def m_check_wheels (rz : Rz) := runF 3 (g_check_wheels rz)
def g_is_step : SM := sSeq (sIf (fOr (fNot (fT (f1 (fun d => some (.bool (isIn .tuple d))) (fV 1)))) (fTB (f2 pNe (f1 pLen (fCons (fV 1) (fNil))) (f1 pLen (fCons (fV 0) (fNil)))))) (sRet (fC (.bool false))) (sNil)) (sSeq (sFor (fZip2 (fCons (fV 1) (fCons (fV 0) (fNil)))) (gT [gN 2, gN 3]) (sIf (fNot (fT (fCall m_is_integer (fCons (fV 2) (fCons (fC (.int 0)) (fCons (f2 pSub (fV 3) (fC (.int 1))) (fNil))))))) (sRet (fC (.bool false))) (sNil))) (sRet (fC (.bool true))))
def m_is_step := runF 4 g_is_step
def g_check_step (rz : Rz) : SM := sIf (fNot (fT (fCall m_is_step (fCons (fV 0) (fCons (fV 1) (fNil)))))) (rz "BadStep" [] (fNil)) (sNil)
def m_check_step (rz : Rz) := runF 2 (g_check_step rz)
def g_check_row (rz : Rz) : SM := sSeq (sIf (fOr (fNot (fT (f1 (fun d => some (.bool (isIn .tuple d))) (fV 1)))) (fTB (f2 pGt (f1 pLen (fCons (fV 1) (fNil))) (fC (.int 40))))) (rz "BadRow" ["index"] (fCons (fC .none) (fNil))) (sNil)) (sFor (fEnum (fCons (fV 1) (fNil))) (gT [gN 2, gN 3]) (sIf (fNot (fT (fCall m_is_step (fCons (fV 0) (fCons (fV 3) (fNil)))))) (rz "BadRow" ["index"] (fCons (fV 2) (fNil))) (sNil)))
def m_check_row (rz : Rz) := runF 4 (g_check_row rz)
def g_home_step : SM := sRet (f2 pMul (f1 kTup (fCons (fC (.int 0)) (fNil))) (f1 pLen (fCons (fV 0) (fNil))))
def m_home_step := runF 1 g_home_step
def g_add_steps : SM := sRet (f1 pTuple (fCons (fLc (fZip3 (fCons (fV 1) (fCons (fV 2) (fCons (fV 0) (fNil))))) (gT [gN 3, gN 4, gN 5]) (fYes) (f2 pMod (f2 pAdd (fV 3) (fV 4)) (fV 5)) [3, 4, 5]) (fNil)))
def m_add_steps := runF 6 g_add_steps
def g_lots_with : SM := sSeq (sOwn (fDc 1 (gN 5) (fYes) (fV 5) (fDIx 1 (fV 5)) [5]) 4) (sSeq (sDPut 4 (fV 3) (f1 kTup (fCons (fV 2) (fNil)))) (sSeq (sForD 1 (gN 5) (sSeq (sAsg (fCall m_add_steps (fCons (fV 0) (fCons (fV 5) (fCons (fV 3) (fNil))))) (gN 6)) (sSeq (sAsg (f1 kTup (fCons (fV 2) (fStar (fDIx 1 (fV 5)) (fNil)))) (gN 7)) (sIf (fOr (fDNotIn 4 (fV 6)) (fTB (f2 pLe (f1 pLen (fCons (fV 7) (fNil))) (f1 pLen (fCons (fDIx 4 (fV 6)) (fNil)))))) (sDPut 4 (fV 6) (fV 7)) (sNil))))) (sRet (fV 4))))
def m_lots_with := runF 8 g_lots_with
def g_smallest_lots : SM := sSeq (sAsg (fC (.dict [])) (gN 2)) (sSeq (sFor (fRev1 (fCons (f1 pLen (fCons (fV 1) (fNil))) fNil)) (gN 3) (sAsg (fCall m_lots_with (fCons (fV 0) (fCons (fV 2) (fCons (fV 3) (fCons (f2 pIx (fV 1) (fV 3)) (fNil)))))) (gN 2))) (sRet (fV 2)))
def m_smallest_lots := runF 4 g_smallest_lots
def g_sums (rz : Rz) : SM := sSeq (sDrop (fCall (m_check_wheels rz) (fCons (fV 0) (fNil)))) (sSeq (sDrop (fCall (m_check_row rz) (fCons (fV 0) (fCons (fV 1) (fNil))))) (sRet (f1 pTuple (fCons (f1 pSorted (fCons (fCall m_smallest_lots (fCons (fV 0) (fCons (fV 1) (fNil)))) (fNil))) (fNil)))))
def m_sums (rz : Rz) := runF 2 (g_sums rz)
def g_never_home (rz : Rz) : SM := sSeq (sDrop (fCall (m_check_wheels rz) (fCons (fV 0) (fNil)))) (sSeq (sDrop (fCall (m_check_row rz) (fCons (fV 0) (fCons (fV 1) (fNil))))) (sRet (fXNin (fCall m_home_step (fCons (fV 0) (fNil))) (fCall m_smallest_lots (fCons (fV 0) (fCons (fV 1) (fNil)))))))
def m_never_home (rz : Rz) := runF 2 (g_never_home rz)
def g_home_lot (rz : Rz) : SM := sSeq (sDrop (fCall (m_check_wheels rz) (fCons (fV 0) (fNil)))) (sSeq (sDrop (fCall (m_check_row rz) (fCons (fV 0) (fCons (fV 1) (fNil))))) (sRet (fXGet1 (fCall m_smallest_lots (fCons (fV 0) (fCons (fV 1) (fNil)))) (fCall m_home_step (fCons (fV 0) (fNil))))))
def m_home_lot (rz : Rz) := runF 2 (g_home_lot rz)
def g_smallest_lot (rz : Rz) : SM := sSeq (sDrop (fCall (m_check_wheels rz) (fCons (fV 0) (fNil)))) (sSeq (sDrop (fCall (m_check_row rz) (fCons (fV 0) (fCons (fV 1) (fNil))))) (sSeq (sDrop (fCall (m_check_step rz) (fCons (fV 0) (fCons (fV 2) (fNil))))) (sRet (fXGet1 (fCall m_smallest_lots (fCons (fV 0) (fCons (fV 1) (fNil)))) (fV 2)))))
def m_smallest_lot (rz : Rz) := runF 3 (g_smallest_lot rz)
def g_counts_with : SM := sSeq (sOwn (fDc 1 (gN 4) (fYes) (fV 4) (fDIx 1 (fV 4)) [4]) 3) (sSeq (sForD 1 (gN 4) (sSeq (sAsg (fCall m_add_steps (fCons (fV 0) (fCons (fV 4) (fCons (fV 2) (fNil))))) (gN 5)) (sDPut 3 (fV 5) (f2 pAdd (fDGet2 3 (fV 5) (fC (.int 0))) (fDIx 1 (fV 4)))))) (sRet (fV 3)))
def m_counts_with := runF 6 g_counts_with
def g_count_lots (rz : Rz) : SM := sSeq (sDrop (fCall (m_check_wheels rz) (fCons (fV 0) (fNil)))) (sSeq (sDrop (fCall (m_check_row rz) (fCons (fV 0) (fCons (fV 1) (fNil))))) (sSeq (sDrop (fCall (m_check_step rz) (fCons (fV 0) (fCons (fV 2) (fNil))))) (sSeq (sAsg (f2 gPair (fCall m_home_step (fCons (fV 0) (fNil))) (fC (.int 1))) (gN 3)) (sSeq (sFor (fSeq (fV 1)) (gN 4) (sAsg (fCall m_counts_with (fCons (fV 0) (fCons (fV 3) (fCons (fV 4) (fNil))))) (gN 3))) (sRet (fDGet2 3 (fV 2) (fC (.int 0))))))))
def m_count_lots (rz : Rz) := runF 5 (g_count_lots rz)
def g__law_taken : SM := sSeq (sIf (fTB (f2 pGt (fRow 0 3) (fC (.int 0)))) (sSeq (sAsg (f2 pMod (f1 pInt (fCons (fRow 0 3) (fNil))) (fV 1)) (gN 2)) (sSeq (sRow 0 3 (f2 pDiv (fRow 0 3) (fV 1))) (sRet (fV 2)))) (sNil)) (sSeq (sRow 0 1 (f2 pAdd (fRow 0 1) (fC (.int 1)))) (sSeq (sIf (fTB (f2 pGt (fRow 0 1) (fScrLen 0))) (sSeq (sRow 0 2 (f2 pMod (f1 pInt (fCons (f2 pAdd (f2 pMul (fRow 0 2) (fC (.int 48271))) (fC (.int 11))) (fNil))) (fC (.int 2147483647)))) (sRet (f2 pMod (f1 pInt (fCons (f2 pDiv (fRow 0 2) (fC (.int 7))) (fNil))) (fV 1)))) (sNil)) (sSeq (sAsg (fScrAt 0 (f2 pSub (fRow 0 1) (fC (.int 1)))) (gN 3)) (sSeq (sRow 0 2 (f2 pMod (f1 pInt (fCons (f2 pAdd (f2 pAdd (f2 pMul (fRow 0 2) (fC (.int 48271))) (fV 3)) (fC (.int 11))) (fNil))) (fC (.int 2147483647)))) (sSeq (sIf (fTB (f2 pGe (fV 3) (f2 pPow (fC (.int 10)) (fC (.int 18))))) (sRow 0 3 (f2 pDiv (fV 3) (fV 1))) (sNil)) (sRet (f2 pMod (f1 pInt (fCons (fV 3) (fNil))) (fV 1))))))))
def m__law_taken := runW 4 g__law_taken
def g__law_pick : SM := sRet (f2 pIx (fV 1) (fCallW 0 m__law_taken (fCons (f1 pLen (fCons (fV 1) (fNil))) (fNil))))
def m__law_pick := runW 2 g__law_pick
def g__law_alike (m : List PyData → Rf) : SM := sSeq (sIf (fT (f1 (fun d => some (.bool (isIn .tuple d || isIn .list d))) (fV 1))) (sSeq (sIf (fOr (fNot (fT (f1 (fun d => some (.bool (isIn .tuple d || isIn .list d))) (fV 0)))) (fTB (f2 pNe (f1 (fun d => some (.bool (isIn .list d))) (fV 0)) (f1 (fun d => some (.bool (isIn .list d))) (fV 1))))) (sRet (fC (.bool false))) (sNil)) (sSeq (sIf (fTB (f2 pNe (f1 pLen (fCons (fV 0) (fNil))) (f1 pLen (fCons (fV 1) (fNil))))) (sRet (fC (.bool false))) (sNil)) (sRet (f2 pEq (fLc (fRng1 (fCons (f1 pLen (fCons (fV 1) (fNil))) (fNil))) (gN 2) (fNot (fT (fCall m (fCons (f2 pIx (fV 0) (fV 2)) (fCons (f2 pIx (fV 1) (fV 2)) (fNil)))))) (fV 2) [2]) (f1 kLst (fNil)))))) (sNil)) (sSeq (sIf (fOr (fTB (f2 pIs (fV 1) (fC .none))) (fT (f1 (fun d => some (.bool (isIn .str d))) (fV 1)))) (sRet (fAndV (f2 pEq (fV 0) (fV 1)) (f2 pEq (f1 (fun d => some (.bool (isIn .str d))) (fV 0)) (f1 (fun d => some (.bool (isIn .str d))) (fV 1))))) (sNil)) (sRet (fAndV (f1 (fun d => some (.bool (isIn .int d))) (fV 0)) (fAndV (f2 pEq (f1 (fun d => some (.bool (isIn .bool d))) (fV 0)) (f1 (fun d => some (.bool (isIn .bool d))) (fV 1))) (f2 pEq (fV 0) (fV 1))))))
def m__law_alike : Nat → List PyData → Rf
  | 0 => fun _ => .no
  | j + 1 => runF 3 (g__law_alike (m__law_alike j))
def g__law_added : SM := sRet (f1 pTuple (fCons (fLc (fRng1 (fCons (f1 pLen (fCons (fV 0) (fNil))) (fNil))) (gN 3) (fYes) (f2 pMod (f2 pAdd (f2 pIx (fV 1) (fV 3)) (f2 pIx (fV 2) (fV 3))) (f2 pIx (fV 0) (fV 3))) [3]) (fNil)))
def m__law_added := runF 4 g__law_added
def g__law_home : SM := sRet (f2 pMul (f1 kTup (fCons (fC (.int 0)) (fNil))) (f1 pLen (fCons (fV 0) (fNil))))
def m__law_home := runF 1 g__law_home
def g__law_sums : SM := sSeq (sAsg (f1 kLst (fNil)) (gN 2)) (sSeq (sFor (fSeq (fV 1)) (gN 3) (sAsg (f1 gSortSet (fSet (f2 pAdd (f2 pAdd (fV 2) (f1 kLst (fCons (fV 3) (fNil)))) (fLc (fSeq (fV 2)) (gN 4) (fYes) (fCall m__law_added (fCons (fV 0) (fCons (fV 4) (fCons (fV 3) (fNil))))) [4])))) (gN 2))) (sRet (fV 2)))
def m__law_sums := runF 5 g__law_sums
def g__law_steps : SM := sSeq (sAsg (f1 kLst (fCons (f1 kTup (fNil)) (fNil))) (gN 1)) (sSeq (sFor (fSeq (fV 0)) (gN 2) (sSeq (sAsg (f1 kLst (fNil)) (gN 3)) (sSeq (sFor (fSeq (fV 1)) (gN 4) (sAsg (f2 pAdd (fV 3) (fLc (fRng1 (fCons (fV 2) (fNil))) (gN 5) (fYes) (f2 pAdd (fV 4) (f1 kTup (fCons (fV 5) (fNil)))) [5])) (gN 3))) (sAsg (fV 3) (gN 1))))) (sRet (fV 1)))
def m__law_steps := runF 6 g__law_steps
def g__law_times : SM := sRet (f1 pTuple (fCons (fLc (fRng1 (fCons (f1 pLen (fCons (fV 0) (fNil))) (fNil))) (gN 3) (fYes) (f2 pMod (f2 pMul (f2 pIx (fV 1) (fV 3)) (fV 2)) (f2 pIx (fV 0) (fV 3))) [3]) (fNil)))
def m__law_times := runF 4 g__law_times
def g__law_total : SM := sSeq (sAsg (fCall m__law_home (fCons (fV 0) (fNil))) (gN 2)) (sSeq (sFor (fSeq (fV 1)) (gN 3) (sAsg (fCall m__law_added (fCons (fV 0) (fCons (fV 2) (fCons (fV 3) (fNil))))) (gN 2))) (sRet (fV 2)))
def m__law_total := runF 4 g__law_total
def g__law_wheels : SM := sSeq (sAsg (f1 kLst (fCons (f1 kTup (fCons (fC (.int 2)) (fNil))) (fCons (f1 kTup (fCons (fC (.int 3)) (fNil))) (fCons (f1 kTup (fCons (fC (.int 4)) (fNil))) (fCons (f1 kTup (fCons (fC (.int 5)) (fNil))) (fCons (f1 kTup (fCons (fC (.int 6)) (fNil))) (fCons (f1 kTup (fCons (fC (.int 7)) (fNil))) (fCons (f1 kTup (fCons (fC (.int 8)) (fNil))) (fCons (f1 kTup (fCons (fC (.int 9)) (fNil))) (fCons (f1 kTup (fCons (fC (.int 10)) (fNil))) (fCons (f1 kTup (fCons (fC (.int 11)) (fNil))) (fNil)))))))))))) (gN 1)) (sSeq (sAsg (f2 pAdd (fV 1) (f1 kLst (fCons (f1 kTup (fCons (fC (.int 12)) (fNil))) (fCons (f1 kTup (fCons (fC (.int 13)) (fNil))) (fCons (f1 kTup (fCons (fC (.int 2)) (fCons (fC (.int 2)) (fNil)))) (fCons (f1 kTup (fCons (fC (.int 2)) (fCons (fC (.int 4)) (fNil)))) (fCons (f1 kTup (fCons (fC (.int 3)) (fCons (fC (.int 3)) (fNil)))) (fCons (f1 kTup (fCons (fC (.int 2)) (fCons (fC (.int 6)) (fNil)))) (fCons (f1 kTup (fCons (fC (.int 4)) (fCons (fC (.int 4)) (fNil)))) (fNil)))))))))) (gN 1)) (sRet (fCallW 0 m__law_pick (fCons (f2 pAdd (fV 1) (f1 kLst (fCons (f1 kTup (fCons (fC (.int 2)) (fCons (fC (.int 2)) (fCons (fC (.int 2)) (fNil))))) (fCons (f1 kTup (fCons (fC (.int 3)) (fCons (fC (.int 6)) (fNil)))) (fCons (f1 kTup (fCons (fC (.int 2)) (fCons (fC (.int 3)) (fNil)))) (fCons (f1 kTup (fCons (fC (.int 16)) (fNil))) (fCons (f1 kTup (fCons (fC (.int 15)) (fNil))) (fCons (f1 kTup (fCons (fC (.int 2)) (fCons (fC (.int 2)) (fCons (fC (.int 4)) (fNil))))) (fNil))))))))) (fNil)))))
def m__law_wheels := runW 2 g__law_wheels
def g__law_row : SM := sSeq (sAsg (fCall m__law_steps (fCons (fV 1) (fNil))) (gN 3)) (sSeq (sAsg (f1 kTup (fCons (fCallW 0 m__law_taken (fCons (f2 pAdd (fV 2) (fC (.int 1))) (fNil))) (fCons (fCallW 0 m__law_pick (fCons (fV 3) (fNil))) (fNil)))) (gT [gN 4, gN 5])) (sSeq (sAsg (fCallW 0 m__law_taken (fCons (fC (.int 3)) (fNil))) (gN 6)) (sSeq (sIf (fTB (f2 pEq (fV 6) (fC (.int 0)))) (sRet (f1 pTuple (fCons (fLc (fRng1 (fCons (fV 4) (fNil))) (gN 9) (fYes) (fCallW 0 m__law_pick (fCons (fV 3) (fNil))) [9]) (fNil)))) (sNil)) (sSeq (sAsg (f1 pTuple (fCons (fLc (fRng1 (fCons (fV 4) (fNil))) (gN 9) (fYes) (fCall m__law_times (fCons (fV 1) (fCons (fV 5) (fCons (f2 pAdd (fC (.int 1)) (fCallW 0 m__law_taken (fCons (f2 pAdd (fC (.int 1)) (fCallW 0 m__law_taken (fCons (fC (.int 3)) (fNil)))) (fNil)))) (fNil))))) [9]) (fNil))) (gN 7)) (sSeq (sIf (fOr (fTB (f2 pEq (fV 6) (fC (.int 1)))) (fTB (f2 pEq (fV 4) (fC (.int 0))))) (sRet (fV 7)) (sNil)) (sSeq (sAsg (fCallW 0 m__law_taken (fCons (fV 4) (fNil))) (gN 8)) (sRet (f2 pAdd (f2 pAdd (fCut (fV 7) (fO0) (fO (fV 8))) (f1 kTup (fCons (fCallW 0 m__law_pick (fCons (fV 3) (fNil))) (fNil)))) (fCut (fV 7) (fO (f2 pAdd (fV 8) (fC (.int 1)))) (fO0))))))))))
def m__law_row := runW 10 g__law_row
def g__law_lots : SM := sSeq (sAsg (f1 kLst (fCons (f1 kTup (fNil)) (fNil))) (gN 1)) (sSeq (sFor (fRng1 (fCons (fV 0) (fNil))) (gN 2) (sAsg (f2 pAdd (fV 1) (fLc (fSeq (fV 1)) (gN 3) (fYes) (f2 pAdd (fV 3) (f1 kTup (fCons (fV 2) (fNil)))) [3])) (gN 1))) (sRet (fV 1)))
def m__law_lots := runF 4 g__law_lots
def g_order (rz : Rz) : SM := sSeq (sDrop (fCall (m_check_wheels rz) (fCons (fV 0) (fNil)))) (sSeq (sDrop (fCall (m_check_step rz) (fCons (fV 0) (fCons (fV 1) (fNil))))) (sSeq (sAsg (fC (.int 1)) (gN 2)) (sSeq (sFor (fZip2 (fCons (fV 1) (fCons (fV 0) (fNil)))) (gT [gN 3, gN 4]) (sAsg (f1 pLcm (fCons (fV 2) (fCons (f2 pDiv (fV 4) (f1 pGcd (fCons (fV 3) (fCons (fV 4) (fNil))))) (fNil)))) (gN 2))) (sRet (fV 2)))))
def m_order (rz : Rz) := runF 5 (g_order rz)
def g_all_steps : SM := sSeq (sAsg (f1 kLst (fCons (f1 kTup (fNil)) (fNil))) (gN 1)) (sSeq (sFor (fSeq (fV 0)) (gN 2) (sAsg (fLc2 (fSeq (fV 1)) (gN 3) (fYes) (fRng1 (fCons (fV 2) (fNil))) (gN 4) (fYes) (f1 kTup (fStar (fV 3) (fCons (fV 4) (fNil)))) [3, 4] [4]) (gN 1))) (sRet (fV 1)))
def m_all_steps := runF 5 g_all_steps
def g_numbers_of_multiples : SM := sSeq (sAsg (fCall m_home_step (fCons (fV 0) (fNil))) (gN 2)) (sSeq (sOwn (fC (.dict [])) 3) (sSeq (sAsg (fV 1) (gN 4)) (sSeq (sWhl (fTB (f2 pNe (fV 4) (fV 2))) (sSeq (sDPut 3 (fV 4) (f2 pAdd (fDLen 3) (fC (.int 1)))) (sAsg (fCall m_add_steps (fCons (fV 0) (fCons (fV 4) (fCons (fV 1) (fNil))))) (gN 4))) 1000) (sRet (fV 3)))))
def m_numbers_of_multiples := runF 5 g_numbers_of_multiples
def g_integers_below : SM := sSeq (sAsg (fCall m_numbers_of_multiples (fCons (fV 0) (fCons (fV 1) (fNil)))) (gN 3)) (sSeq (sIf (fNot (fT (f1 pAll (fCons (fLc (fSeq (fV 2)) (gN 4) (fYes) ((fDIn 3 (fV 4)).bind fun b => M.pure (.bool b)) [4]) (fNil))))) (sRet (fC .none)) (sNil)) (sRet (f1 pTuple (fCons (fLc (fSeq (fV 2)) (gN 4) (fYes) (fDIx 3 (fV 4)) [4]) (fNil)))))
def m_integers_below := runF 5 g_integers_below
def g_told_integers (rz : Rz) : SM := sSeq (sAsg (fCall m_integers_below (fCons (fV 0) (fCons (fV 1) (fCons (fV 2) (fNil))))) (gN 3)) (sSeq (sIf (fOr (fTB (f2 pIs (fV 3) (fC .none))) (fTB (f2 pGe (f1 pSum (fCons (fV 3) (fNil))) (fCall (m_order rz) (fCons (fV 0) (fCons (fV 1) (fNil))))))) (sRet (fC .none)) (sNil)) (sRet (fV 3)))
def m_told_integers (rz : Rz) := runF 4 (g_told_integers rz)
def g_find_teller (rz : Rz) : SM := sSeq (sFor (fSeq (fCall m_all_steps (fCons (fV 0) (fNil)))) (gN 3) (sSeq (sAsg (fCall (m_told_integers rz) (fCons (fV 0) (fCons (fV 3) (fCons (fV 1) (fNil))))) (gN 4)) (sIf (fAnd (fTB (f2 pIsNot (fV 4) (fC .none))) (fTB (f2 pLe (f1 pSum (fCons (fV 4) (fNil))) (fV 2)))) (sRet (f1 kTup (fCons (fV 3) (fCons (fV 4) (fNil))))) (sNil)))) (sRet (fC .none))
def m_find_teller (rz : Rz) := runF 5 (g_find_teller rz)
def g_teller (rz : Rz) : SM := sSeq (sDrop (fCall (m_check_wheels rz) (fCons (fV 0) (fNil)))) (sSeq (sDrop (fCall (m_check_row rz) (fCons (fV 0) (fCons (fV 1) (fNil))))) (sRet (fCall (m_find_teller rz) (fCons (fV 0) (fCons (fV 1) (fCons (fCall m_places_together (fCons (fV 0) (fNil))) (fNil)))))))
def m_teller (rz : Rz) := runF 2 (g_teller rz)
def g_are_integers : SM := sSeq (sIf (fOr (fNot (fT (f1 (fun d => some (.bool (isIn .tuple d))) (fV 0)))) (fTB (f2 pNe (f1 pLen (fCons (fV 0) (fNil))) (f1 pLen (fCons (fV 1) (fNil)))))) (sRet (fC (.bool false))) (sNil)) (sSeq (sFor (fZip2 (fCons (fV 0) (fCons (fV 1) (fNil)))) (gT [gN 2, gN 3]) (sIf (fNot (fT (fCall m_is_integer (fCons (fV 2) (fCons (fV 3) (fCons (fV 3) (fNil))))))) (sRet (fC (.bool false))) (sNil))) (sRet (fC (.bool true))))
def m_are_integers := runF 4 g_are_integers
def g_shows_teller (rz : Rz) : SM := sSeq (sDrop (fCall (m_check_wheels rz) (fCons (fV 0) (fNil)))) (sSeq (sDrop (fCall (m_check_row rz) (fCons (fV 0) (fCons (fV 1) (fNil))))) (sSeq (sIf (fTB (f2 pIs (fV 2) (fC .none))) (sRet (f2 pIs (fCall (m_find_teller rz) (fCons (fV 0) (fCons (fV 1) (fCons (fCall m_places_together (fCons (fV 0) (fNil))) (fNil))))) (fC .none))) (sNil)) (sSeq (sIf (fOr (fNot (fT (f1 (fun d => some (.bool (isIn .tuple d))) (fV 2)))) (fTB (f2 pNe (f1 pLen (fCons (fV 2) (fNil))) (fC (.int 2))))) (sRet (fC (.bool false))) (sNil)) (sSeq (sAsg (fV 2) (gT [gN 3, gN 4])) (sSeq (sIf (fNot (fT (fCall m_is_step (fCons (fV 0) (fCons (fV 3) (fNil)))))) (sRet (fC (.bool false))) (sNil)) (sSeq (sAsg (fCall (m_told_integers rz) (fCons (fV 0) (fCons (fV 3) (fCons (fV 1) (fNil))))) (gN 5)) (sRet (fAndV (f2 pIsNot (fV 5) (fC .none)) (fCall m_are_integers (fCons (fV 4) (fCons (fV 5) (fNil))))))))))))
def m_shows_teller (rz : Rz) := runF 6 (g_shows_teller rz)
def g_most_few : SM := sRet (f2 pSub (f2 pMul (fC (.int 2)) (f1 pLen (fCons (fV 0) (fNil)))) (fC (.int 2)))
def m_most_few := runF 1 g_most_few
def g_has_few (rz : Rz) : SM := sSeq (sAsg (fCall (m_sums rz) (fCons (fV 0) (fCons (fV 1) (fNil)))) (gN 2)) (sRet (fAndV (f2 pNotIn (fCall m_home_step (fCons (fV 0) (fNil))) (fV 2)) (f2 pLe (f1 pLen (fCons (fV 2) (fNil))) (fCall m_most_few (fCons (fV 1) (fNil))))))
def m_has_few (rz : Rz) := runF 3 (g_has_few rz)
def g_few_teller (rz : Rz) : SM := sSeq (sIf (fNot (fT (fCall (m_has_few rz) (fCons (fV 0) (fCons (fV 1) (fNil)))))) (sRet (fC .none)) (sNil)) (sRet (fCall (m_find_teller rz) (fCons (fV 0) (fCons (fV 1) (fCons (fCall m_most_few (fCons (fV 1) (fNil))) (fNil))))))
def m_few_teller (rz : Rz) := runF 2 (g_few_teller rz)
def g__law_order : SM := sSeq (sPar [2, 3] (fCons (fC (.int 1)) (fCons (fV 1) (fNil)))) (sSeq (sWhl (fTB (f2 pNe (fV 3) (fCall m__law_home (fCons (fV 0) (fNil))))) (sPar [2, 3] (fCons (f2 pAdd (fV 2) (fC (.int 1))) (fCons (fCall m__law_added (fCons (fV 0) (fCons (fV 3) (fCons (fV 1) (fNil))))) (fNil)))) 1000) (sRet (fV 2)))
def m__law_order := runF 4 g__law_order
def g__law_tellers : SM := sSeq (sOwn (f1 kLst (fNil)) 2) (sSeq (sFor (fSeq (fCall m__law_steps (fCons (fV 0) (fNil)))) (gN 3) (sSeq (sAsg (fCall m__law_order (fCons (fV 0) (fCons (fV 3) (fNil)))) (gN 4)) (sSeq (sAsg (fLc (fRng2 (fCons (fC (.int 1)) (fCons (fV 4) (fNil)))) (gN 7) (fYes) (fCall m__law_times (fCons (fV 0) (fCons (fV 3) (fCons (fV 7) (fNil))))) [7]) (gN 5)) (sIf (fTB (f2 pEq (fLc (fSeq (fV 1)) (gN 8) (fTB (f2 pNotIn (fV 8) (fV 5))) (fV 8) [8]) (f1 kLst (fNil)))) (sSeq (sAsg (f1 pTuple (fCons (fLc (fSeq (fV 1)) (gN 8) (fYes) (f2 pAdd (fC (.int 1)) (fIndex (fV 5) (fV 8))) [8]) (fNil))) (gN 6)) (sIf (fTB (f2 pLt (f1 pSum (fCons (fV 6) (fNil))) (fV 4))) (sApp 2 (f1 kTup (fCons (fV 3) (fCons (fV 6) (fNil))))) (sNil))) (sNil))))) (sRet (fV 2)))
def m__law_tellers := runF 9 g__law_tellers
def g_check_number (rz : Rz) : SM := sIf (fNot (fT (fCall m_is_integer (fCons (fV 0) (fCons (fV 1) (fCons (fV 2) (fNil))))))) (rz "BadNumber" [] (fNil)) (sNil)
def m_check_number (rz : Rz) := runF 3 (g_check_number rz)
def g_check_places (rz : Rz) : SM := sDrop (fCall (m_check_number rz) (fCons (fV 0) (fCons (fC (.int 2)) (fCons (fC (.int 400)) (fNil)))))
def m_check_places (rz : Rz) := runF 1 (g_check_places rz)
def g_check_steps (rz : Rz) : SM := sDrop (fCall (m_check_number rz) (fCons (fV 0) (fCons (fV 1) (fCons (fC (.int 400)) (fNil)))))
def m_check_steps (rz : Rz) := runF 2 (g_check_steps rz)
def g_check_long_row (rz : Rz) : SM := sSeq (sDrop (fCall (m_check_row rz) (fCons (f1 kTup (fCons (fV 0) (fNil))) (fCons (fV 1) (fNil))))) (sDrop (fCall (m_check_number rz) (fCons (f1 pLen (fCons (fV 1) (fNil))) (fCons (fV 2) (fCons (fC (.int 40)) (fNil))))))
def m_check_long_row (rz : Rz) := runF 3 (g_check_long_row rz)
def g_least_long : SM := sRet (f2 pAdd (f2 pDiv (fV 0) (fC (.int 2))) (fC (.int 1)))
def m_least_long := runF 1 g_least_long
def g_long_teller (rz : Rz) : SM := sSeq (sDrop (fCall (m_check_places rz) (fCons (fV 0) (fNil)))) (sSeq (sDrop (fCall (m_check_long_row rz) (fCons (fV 0) (fCons (fV 1) (fCons (fCall m_least_long (fCons (fV 0) (fNil))) (fNil)))))) (sRet (fCall (m_find_teller rz) (fCons (f1 kTup (fCons (fV 0) (fNil))) (fCons (fV 1) (fCons (fV 0) (fNil)))))))
def m_long_teller (rz : Rz) := runF 2 (g_long_teller rz)
def g_count_partitions : SM := sSeq (sOwn (f2 gCat (f1 kLst (fCons (fC (.int 1)) (fNil))) (f2 pMul (f1 kLst (fCons (fC (.int 0)) (fNil))) (fV 0))) 1) (sSeq (sFor (fRng2 (fCons (fC (.int 1)) (fCons (f2 pAdd (fV 0) (fC (.int 1))) (fNil)))) (gN 2) (sFor (fRng2 (fCons (fV 2) (fCons (f2 pAdd (fV 0) (fC (.int 1))) (fNil)))) (gN 3) (sLSet 1 (fV 3) (f2 pAdd (fLIx 1 (fV 3)) (fLIx 1 (f2 pSub (fV 3) (fV 2))))))) (sRet (fV 1)))
def m_count_partitions := runF 4 g_count_partitions
def g_units : SM := sRet (fLc (fRng2 (fCons (fC (.int 1)) (fCons (fV 0) (fNil)))) (gN 1) (fTB (f2 pEq (f1 pGcd (fCons (fV 1) (fCons (fV 0) (fNil)))) (fC (.int 1)))) (fV 1) [1])
def m_units := runF 2 g_units
def g_count_long (rz : Rz) : SM := sSeq (sDrop (fCall (m_check_places rz) (fCons (fV 0) (fNil)))) (sSeq (sDrop (fCall (m_check_steps rz) (fCons (fV 1) (fCons (fCall m_least_long (fCons (fV 0) (fNil))) (fNil))))) (sSeq (sIf (fTB (f2 pGe (fV 1) (fV 0))) (sRet (fC (.int 0))) (sNil)) (sRet (f2 pMul (f1 pLen (fCons (fCall m_units (fCons (fV 0) (fNil))) (fNil))) (f1 pSum (fCons (fCall m_count_partitions (fCons (f2 pSub (f2 pSub (fV 0) (fC (.int 1))) (fV 1)) (fNil))) (fNil)))))))
def m_count_long (rz : Rz) := runF 2 (g_count_long rz)
def g_check_rows (rz : Rz) : SM := sIf (fTB (f2 pGt (fV 0) (fC (.int 5000)))) (rz "TooMany" ["most"] (fCons (fC (.int 5000)) (fNil))) (sNil)
def m_check_rows (rz : Rz) := runF 1 (g_check_rows rz)
def g_list_partitions : SM := sSeq (sOwn (f2 gCat (f1 kLst (fCons (f1 kLst (fCons (f1 kTup (fNil)) (fNil))) (fNil))) (fLc (fRng1 (fCons (fV 0) (fNil))) (gN 4) (fYes) (f1 kLst (fNil)) [4])) 1) (sSeq (sFor (fRng2 (fCons (fC (.int 1)) (fCons (f2 pAdd (fV 0) (fC (.int 1))) (fNil)))) (gN 2) (sFor (fRng2 (fCons (fV 2) (fCons (f2 pAdd (fV 0) (fC (.int 1))) (fNil)))) (gN 3) (sLSet 1 (fV 3) (f2 pAdd (fLIx 1 (fV 3)) (fLc (fSeq (fLIx 1 (f2 pSub (fV 3) (fV 2)))) (gN 5) (fYes) (f1 kTup (fStar (fV 5) (fCons (fV 2) (fNil)))) [5]))))) (sRet (fV 1)))
def m_list_partitions := runF 6 g_list_partitions
def g_told_row : SM := sSeq (sAsg (f2 pAdd (f2 pMul (f1 kLst (fCons (f1 kTup (fCons (fV 2) (fNil))) (fNil))) (f2 pSub (fV 1) (f1 pLen (fCons (fV 3) (fNil))))) (fLc (fSeq (fV 3)) (gN 5) (fYes) (f1 kTup (fCons (f2 pMod (f2 pMul (fV 2) (f2 pAdd (fV 5) (fC (.int 1)))) (fV 0)) (fNil))) [5])) (gN 4)) (sRet (f1 pTuple (fCons (f1 pSorted (fCons (fV 4) (fNil))) (fNil))))
def m_told_row := runF 6 g_told_row
def g_told_rows : SM := sSeq (sAsg (fLc2 (fSeq (fCall m_units (fCons (fV 0) (fNil)))) (gN 4) (fYes) (fSeq (fV 2)) (gN 5) (fYes) (fCall m_told_row (fCons (fV 0) (fCons (fV 1) (fCons (fV 4) (fCons (fV 5) (fNil)))))) [4, 5] [5]) (gN 3)) (sRet (f1 pTuple (fCons (f1 pSorted (fCons (fV 3) (fNil))) (fNil))))
def m_told_rows := runF 6 g_told_rows
def g_long_rows (rz : Rz) : SM := sSeq (sDrop (fCall (m_check_rows rz) (fCons (fCall (m_count_long rz) (fCons (fV 0) (fCons (fV 1) (fNil)))) (fNil)))) (sSeq (sIf (fTB (f2 pGe (fV 1) (fV 0))) (sRet (f1 kTup (fNil))) (sNil)) (sSeq (sOwn (f1 kLst (fNil)) 2) (sSeq (sFor (fSeq (fCall m_list_partitions (fCons (f2 pSub (f2 pSub (fV 0) (fC (.int 1))) (fV 1)) (fNil)))) (gN 3) (sExt 2 (fV 3))) (sRet (fCall m_told_rows (fCons (fV 0) (fCons (fV 1) (fCons (fV 2) (fNil)))))))))
def m_long_rows (rz : Rz) := runF 4 (g_long_rows rz)
def g__law_lists : SM := sSeq (sAsg (f1 kLst (fCons (f1 kTup (fNil)) (fNil))) (gN 2)) (sSeq (sFor (fRng1 (fCons (fV 1) (fNil))) (gN 3) (sSeq (sAsg (f1 kLst (fNil)) (gN 4)) (sSeq (sFor (fSeq (fV 2)) (gN 5) (sAsg (f2 pAdd (fV 4) (fLc (fSeq (fV 0)) (gN 6) (fOr (fTB (f2 pEq (fV 5) (f1 kTup (fNil)))) (fTB (f2 pGe (fV 6) (f2 pIx (fV 5) (f1 pNeg (fC (.int 1))))))) (f2 pAdd (fV 5) (f1 kTup (fCons (fV 6) (fNil)))) [6])) (gN 4))) (sAsg (fV 4) (gN 2))))) (sRet (fV 2)))
def m__law_lists := runF 7 g__law_lists
def g__law_tells : SM := sSeq (sIf (fOr (fTB (f2 pNe (fLc (fSeq (fV 3)) (gN 4) (fTB (f2 pLt (fV 4) (fC (.int 1)))) (fV 4) [4]) (f1 kLst (fNil)))) (fTB (f2 pGe (f1 pSum (fCons (fV 3) (fNil))) (fCall m__law_order (fCons (fV 0) (fCons (fV 2) (fNil))))))) (sRet (fC (.bool false))) (sNil)) (sRet (f2 pEq (f1 pTuple (fCons (fLc (fSeq (fV 3)) (gN 4) (fYes) (fCall m__law_times (fCons (fV 0) (fCons (fV 2) (fCons (fV 4) (fNil))))) [4]) (fNil))) (f1 pTuple (fCons (fV 1) (fNil)))))
def m__law_tells := runF 5 g__law_tells
def g__law_divisor : SM := sRet (f1 pMax (fCons (fLc (fRng2 (fCons (fC (.int 1)) (fCons (f2 pAdd (fV 0) (fC (.int 1))) (fNil)))) (gN 2) (fAnd (fTB (f2 pEq (f2 pMod (fV 0) (fV 2)) (fC (.int 0)))) (fTB (f2 pEq (f2 pMod (fV 1) (fV 2)) (fC (.int 0))))) (fV 2) [2]) (fNil)))
def m__law_divisor := runF 3 g__law_divisor
def g_partitions (rz : Rz) : SM := sSeq (sDrop (fCall (m_check_number rz) (fCons (fV 0) (fCons (fC (.int 0)) (fCons (fC (.int 400)) (fNil)))))) (sRet (f2 pIx (fCall m_count_partitions (fCons (fV 0) (fNil))) (fV 0)))
def m_partitions (rz : Rz) := runF 1 (g_partitions rz)
def g_most_steps (rz : Rz) : SM := sSeq (sDrop (fCall (m_check_places rz) (fCons (fV 0) (fNil)))) (sRet (f2 pSub (fV 0) (fC (.int 1))))
def m_most_steps (rz : Rz) := runF 1 (g_most_steps rz)
def g_least_round : SM := sRet (f2 pAdd (f2 pDiv (fV 0) (fC (.int 2))) (fC (.int 2)))
def m_least_round := runF 1 g_least_round
def g_count_rounds (rz : Rz) : SM := sSeq (sDrop (fCall (m_check_places rz) (fCons (fV 0) (fNil)))) (sSeq (sDrop (fCall (m_check_steps rz) (fCons (fV 1) (fCons (fCall m_least_round (fCons (fV 0) (fNil))) (fNil))))) (sSeq (sIf (fTB (f2 pGt (fV 1) (fV 0))) (sRet (fC (.int 0))) (sNil)) (sRet (f2 pMul (f1 pLen (fCons (fCall m_units (fCons (fV 0) (fNil))) (fNil))) (f2 pIx (fCall m_count_partitions (fCons (f2 pSub (fV 0) (fV 1)) (fNil))) (f2 pSub (fV 0) (fV 1)))))))
def m_count_rounds (rz : Rz) := runF 2 (g_count_rounds rz)
def g_round_rows (rz : Rz) : SM := sSeq (sDrop (fCall (m_check_rows rz) (fCons (fCall (m_count_rounds rz) (fCons (fV 0) (fCons (fV 1) (fNil)))) (fNil)))) (sSeq (sIf (fTB (f2 pGt (fV 1) (fV 0))) (sRet (f1 kTup (fNil))) (sNil)) (sRet (fCall m_told_rows (fCons (fV 0) (fCons (fV 1) (fCons (f2 pIx (fCall m_list_partitions (fCons (f2 pSub (fV 0) (fV 1)) (fNil))) (f2 pSub (fV 0) (fV 1))) (fNil)))))))
def m_round_rows (rz : Rz) := runF 2 (g_round_rows rz)
def g__law_partitions (m : List PyData → Rf) : SM := sSeq (sIf (fTB (f2 pEq (fV 0) (fC (.int 0)))) (sRet (fC (.int 1))) (sNil)) (sSeq (sAsg (fC (.int 0)) (gN 2)) (sSeq (sFor (fRng2 (fCons (fC (.int 1)) (fCons (f2 pAdd (f1 pMin (fCons (fV 0) (fCons (fV 1) (fNil)))) (fC (.int 1))) (fNil)))) (gN 3) (sAsg (f2 pAdd (fV 2) (fCall m (fCons (f2 pSub (fV 0) (fV 3)) (fCons (fV 3) (fNil))))) (gN 2))) (sRet (fV 2))))
def m__law_partitions : Nat → List PyData → Rf
  | 0 => fun _ => .no
  | j + 1 => runF 4 (g__law_partitions (m__law_partitions j))
def g_total (rz : Rz) : SM := sSeq (sDrop (fCall (m_check_wheels rz) (fCons (fV 0) (fNil)))) (sSeq (sDrop (fCall (m_check_row rz) (fCons (fV 0) (fCons (fV 1) (fNil))))) (sSeq (sAsg (fCall m_home_step (fCons (fV 0) (fNil))) (gN 2)) (sSeq (sFor (fSeq (fV 1)) (gN 3) (sAsg (fCall m_add_steps (fCons (fV 0) (fCons (fV 2) (fCons (fV 3) (fNil))))) (gN 2))) (sRet (fV 2)))))
def m_total (rz : Rz) := runF 4 (g_total rz)
def g_is_round (rz : Rz) : SM := sSeq (sDrop (fCall (m_check_wheels rz) (fCons (fV 0) (fNil)))) (sSeq (sDrop (fCall (m_check_row rz) (fCons (fV 0) (fCons (fV 1) (fNil))))) (sSeq (sIf (fOr (fTB (f2 pEq (f1 pLen (fCons (fV 1) (fNil))) (fC (.int 0)))) (fTB (f2 pNe (fCall (m_total rz) (fCons (fV 0) (fCons (fV 1) (fNil)))) (fCall m_home_step (fCons (fV 0) (fNil)))))) (sRet (fC (.bool false))) (sNil)) (sRet (fCall (m_never_home rz) (fCons (fV 0) (fCons (fCut (fV 1) (fO0) (fO (f1 pNeg (fC (.int 1))))) (fNil)))))))
def m_is_round (rz : Rz) := runF 2 (g_is_round rz)
def g_round_teller (rz : Rz) : SM := sSeq (sDrop (fCall (m_check_places rz) (fCons (fV 0) (fNil)))) (sSeq (sDrop (fCall (m_check_long_row rz) (fCons (fV 0) (fCons (fV 1) (fCons (fCall m_least_round (fCons (fV 0) (fNil))) (fNil)))))) (sSeq (sFor (fSeq (fCall m_units (fCons (fV 0) (fNil)))) (gN 2) (sSeq (sAsg (fCall m_integers_below (fCons (f1 kTup (fCons (fV 0) (fNil))) (fCons (f1 kTup (fCons (fV 2) (fNil))) (fCons (fV 1) (fNil))))) (gN 3)) (sIf (fAnd (fTB (f2 pIsNot (fV 3) (fC .none))) (fTB (f2 pEq (f1 pSum (fCons (fV 3) (fNil))) (fV 0)))) (sRet (f1 kTup (fCons (f1 kTup (fCons (fV 2) (fNil))) (fCons (fV 3) (fNil))))) (sNil)))) (sRet (fC .none))))
def m_round_teller (rz : Rz) := runF 4 (g_round_teller rz)
def g__law_is_round : SM := sSeq (sIf (fOr (fTB (f2 pEq (f1 pLen (fCons (fV 1) (fNil))) (fC (.int 0)))) (fTB (f2 pNe (fCall m__law_total (fCons (fV 0) (fCons (fV 1) (fNil)))) (fCall m__law_home (fCons (fV 0) (fNil)))))) (sRet (fC (.bool false))) (sNil)) (sRet (f2 pNotIn (fCall m__law_home (fCons (fV 0) (fNil))) (fCall m__law_sums (fCons (fV 0) (fCons (fCut (fV 1) (fO0) (fO (f1 pNeg (fC (.int 1))))) (fNil))))))
def m__law_is_round := runF 2 g__law_is_round
def g_lots_with_place : SM := sSeq (sOwn (fDc 1 (gN 7) (fYes) (fV 7) (fDIx 1 (fV 7)) [7]) 4) (sSeq (sForD 1 (gT [gN 5, gN 6]) (sDPut 4 (f1 kTup (fCons (f2 pAdd (fV 5) (fC (.int 1))) (fCons (f2 pMod (f2 pAdd (fV 6) (fV 3)) (fV 0)) (fNil)))) (f1 kTup (fCons (fV 2) (fStar (fDIx 1 (f1 kTup (fCons (fV 5) (fCons (fV 6) (fNil))))) (fNil)))))) (sRet (fV 4)))
def m_lots_with_place := runF 8 g_lots_with_place
def g_least_lots : SM := sSeq (sAsg (f2 gPair (f1 kTup (fCons (fC (.int 0)) (fCons (fC (.int 0)) (fNil)))) (f1 kTup (fNil))) (gN 2)) (sSeq (sFor (fRev1 (fCons (f1 pLen (fCons (fV 1) (fNil))) fNil)) (gN 3) (sAsg (fCall m_lots_with_place (fCons (fV 0) (fCons (fV 2) (fCons (fV 3) (fCons (f2 pIx (f2 pIx (fV 1) (fV 3)) (fC (.int 0))) (fNil)))))) (gN 2))) (sRet (fV 2)))
def m_least_lots := runF 4 g_least_lots
def g_same_lot (rz : Rz) : SM := sSeq (sDrop (fCall (m_check_places rz) (fCons (fV 0) (fNil)))) (sSeq (sDrop (fCall (m_check_row rz) (fCons (f1 kTup (fCons (fV 0) (fNil))) (fCons (fV 1) (fNil))))) (sSeq (sIf (fTB (f2 pLt (f1 pLen (fCons (fV 1) (fNil))) (fV 0))) (sRet (fC .none)) (sNil)) (sRet (fXGet1 (fCall m_least_lots (fCons (fV 0) (fCons (fV 1) (fNil)))) (f1 kTup (fCons (fV 0) (fCons (fC (.int 0)) (fNil))))))))
def m_same_lot (rz : Rz) := runF 2 (g_same_lot rz)
def g_sizes_by_sum : SM := sSeq (sAsg (f2 pAdd (f1 kLst (fCons (fC (.int 1)) (fNil))) (f2 pMul (f1 kLst (fCons (fC (.int 0)) (fNil))) (f2 pSub (fV 0) (fC (.int 1))))) (gN 2)) (sSeq (sFor (fSeq (fV 1)) (gN 3) (sAsg (fLc (fRng1 (fCons (fV 0) (fNil))) (gN 4) (fYes) (f2 pOr (f2 pIx (fV 2) (fV 4)) (f2 pShl (f2 pIx (fV 2) (f2 pMod (f2 pSub (fV 4) (f2 pIx (fV 3) (fC (.int 0)))) (fV 0))) (fC (.int 1)))) [4]) (gN 2))) (sRet (fV 2)))
def m_sizes_by_sum := runF 5 g_sizes_by_sum
def g_sizes_home (rz : Rz) : SM := sSeq (sDrop (fCall (m_check_places rz) (fCons (fV 0) (fNil)))) (sSeq (sDrop (fCall (m_check_row rz) (fCons (f1 kTup (fCons (fV 0) (fNil))) (fCons (fV 1) (fNil))))) (sSeq (sAsg (f2 pIx (fCall m_sizes_by_sum (fCons (fV 0) (fCons (fV 1) (fNil)))) (fC (.int 0))) (gN 2)) (sRet (f1 pTuple (fCons (fLc (fRng2 (fCons (fC (.int 1)) (fCons (f2 pAdd (f1 pLen (fCons (fV 1) (fNil))) (fC (.int 1))) (fNil)))) (gN 3) (fT (f2 pAnd (f2 pShr (fV 2) (fV 3)) (fC (.int 1)))) (fV 3) [3]) (fNil))))))
def m_sizes_home (rz : Rz) := runF 4 (g_sizes_home rz)
def g_has_same (rz : Rz) : SM := sRet (f2 pIn (fV 0) (fCall (m_sizes_home rz) (fCons (fV 0) (fCons (fV 1) (fNil)))))
def m_has_same (rz : Rz) := runF 2 (g_has_same rz)
def g_check_first_word (rz : Rz) : SM := sSeq (sAsg (fV 0) (gT [gN 2, gN 3])) (sIf (fTB (f2 pNe (fCut (fV 3) (fO0) (fO (fC (.int 1)))) (f1 kLst (fCons (fV 1) (fNil))))) (rz "BadLine" ["line", "word"] (fCons (fV 2) (fCons (fC (.int 1)) (fNil)))) (sNil))
def m_check_first_word (rz : Rz) := runF 4 (g_check_first_word rz)
def g__law_refused : SM := sSeq (sAsg (f1 kLst (fCons (f1 kTup (fCons (fC (.str (Str.ofString ""))) (fCons (f1 kTup (fCons (fC (.int 2)) (fCons (fC (.int 1)) (fNil)))) (fNil)))) (fCons (f1 kTup (fCons (fC (.str (Str.ofString "wheels"))) (fCons (f1 kTup (fCons (fC (.int 1)) (fCons (fC (.int 2)) (fNil)))) (fNil)))) (fCons (f1 kTup (fCons (fC (.str (Str.ofString "wheel 2"))) (fCons (f1 kTup (fCons (fC (.int 1)) (fCons (fC (.int 1)) (fNil)))) (fNil)))) (fNil))))) (gN 0)) (sSeq (sAsg (f2 pAdd (fV 0) (f1 kLst (fCons (f1 kTup (fCons (fC (.str (Str.ofString "wheels 1"))) (fCons (f1 kTup (fCons (fC (.int 1)) (fCons (fC (.int 2)) (fNil)))) (fNil)))) (fCons (f1 kTup (fCons (fC (.str (Str.ofString "wheels 401"))) (fCons (f1 kTup (fCons (fC (.int 1)) (fCons (fC (.int 2)) (fNil)))) (fNil)))) (fCons (f1 kTup (fCons (fC (.str (Str.ofString "wheels 400"))) (fCons (f1 kTup (fCons (fC (.int 2)) (fCons (fC (.int 1)) (fNil)))) (fNil)))) (fNil)))))) (gN 0)) (sSeq (sAsg (f2 pAdd (fV 0) (f1 kLst (fCons (f1 kTup (fCons (fC (.str (Str.ofString "wheels 02"))) (fCons (f1 kTup (fCons (fC (.int 1)) (fCons (fC (.int 2)) (fNil)))) (fNil)))) (fCons (f1 kTup (fCons (fC (.str (Str.ofString "wheels 2 3 4 5"))) (fCons (f1 kTup (fCons (fC (.int 1)) (fCons (fC (.int 5)) (fNil)))) (fNil)))) (fNil))))) (gN 0)) (sSeq (sAsg (f2 pAdd (fV 0) (f1 kLst (fCons (f1 kTup (fCons (fC (.str (Str.ofString "wheels 20 21"))) (fCons (f1 kTup (fCons (fC (.int 1)) (fCons (fC (.int 3)) (fNil)))) (fNil)))) (fCons (f1 kTup (fCons (fC (.str (Str.ofString "wheels 2 x"))) (fCons (f1 kTup (fCons (fC (.int 1)) (fCons (fC (.int 3)) (fNil)))) (fNil)))) (fNil))))) (gN 0)) (sSeq (sAsg (f2 pAdd (fV 0) (f1 kLst (fCons (f1 kTup (fCons (fC (.str (Str.ofString "wheels 3\nstep 1"))) (fCons (f1 kTup (fCons (fC (.int 2)) (fCons (fC (.int 1)) (fNil)))) (fNil)))) (fCons (f1 kTup (fCons (fC (.str (Str.ofString "wheels 3\nsteps"))) (fCons (fC (.str (Str.ofString ""))) (fNil)))) (fNil))))) (gN 0)) (sSeq (sAsg (f2 pAdd (fV 0) (f1 kLst (fCons (f1 kTup (fCons (fC (.str (Str.ofString "wheels 3\nsteps 3"))) (fCons (f1 kTup (fCons (fC (.int 2)) (fCons (fC (.int 2)) (fNil)))) (fNil)))) (fCons (f1 kTup (fCons (fC (.str (Str.ofString "wheels 3\nsteps 0 1,1"))) (fCons (f1 kTup (fCons (fC (.int 2)) (fCons (fC (.int 3)) (fNil)))) (fNil)))) (fNil))))) (gN 0)) (sSeq (sAsg (f2 pAdd (fV 0) (f1 kLst (fCons (f1 kTup (fCons (fC (.str (Str.ofString "wheels 3 4\nsteps 0,0 1"))) (fCons (f1 kTup (fCons (fC (.int 2)) (fCons (fC (.int 3)) (fNil)))) (fNil)))) (fCons (f1 kTup (fCons (fC (.str (Str.ofString "wheels 3 4\nsteps 0,00"))) (fCons (f1 kTup (fCons (fC (.int 2)) (fCons (fC (.int 2)) (fNil)))) (fNil)))) (fNil))))) (gN 0)) (sSeq (sAsg (f2 pAdd (fV 0) (f1 kLst (fCons (f1 kTup (fCons (fC (.str (Str.ofString "wheels 3 4\nsteps 2,3 0,"))) (fCons (f1 kTup (fCons (fC (.int 2)) (fCons (fC (.int 3)) (fNil)))) (fNil)))) (fNil)))) (gN 0)) (sSeq (sAsg (f2 pAdd (fV 0) (f1 kLst (fCons (f1 kTup (fCons (fC (.str (Str.ofString "wheels 3\nsteps 1\nsteps 1"))) (fCons (f1 kTup (fCons (fC (.int 3)) (fCons (fC (.int 1)) (fNil)))) (fNil)))) (fCons (f1 kTup (fCons (fC (.str (Str.ofString "\n\nwheels 3\n\nsteps 1 2 4"))) (fCons (f1 kTup (fCons (fC (.int 5)) (fCons (fC (.int 4)) (fNil)))) (fNil)))) (fCons (f1 kTup (fCons (fC (.str (Str.ofString "\n"))) (fCons (f1 kTup (fCons (fC (.int 3)) (fCons (fC (.int 1)) (fNil)))) (fNil)))) (fNil)))))) (gN 0)) (sSeq (sAsg (f2 pAdd (fV 0) (f1 kLst (fCons (f1 kTup (fCons (f2 pAdd (fC (.str (Str.ofString "wheels 2\nsteps"))) (f2 pMul (fC (.str (Str.ofString " 1"))) (fC (.int 40)))) (fCons (fC (.str (Str.ofString ""))) (fNil)))) (fCons (f1 kTup (fCons (f2 pAdd (fC (.str (Str.ofString "wheels 2\nsteps"))) (f2 pMul (fC (.str (Str.ofString " 1"))) (fC (.int 41)))) (fCons (f1 kTup (fCons (fC (.int 2)) (fCons (fC (.int 42)) (fNil)))) (fNil)))) (fNil))))) (gN 0)) (sRet (f2 pAdd (fV 0) (f1 kLst (fCons (f1 kTup (fCons (fC (.str (Str.ofString "wheels 3 4\nsteps 1,-1"))) (fCons (f1 kTup (fCons (fC (.int 2)) (fCons (fC (.int 2)) (fNil)))) (fNil)))) (fNil))))))))))))))
def m__law_refused := runF 1 g__law_refused
def g_size (rz : Rz) : SM := sSeq (sDrop (fCall (m_check_wheels rz) (fCons (fV 0) (fNil)))) (sRet (fCall m_places_together (fCons (fV 0) (fNil))))
def m_size (rz : Rz) := runF 1 (g_size rz)
def g_multiple (rz : Rz) : SM := sSeq (sDrop (fCall (m_check_wheels rz) (fCons (fV 0) (fNil)))) (sSeq (sDrop (fCall (m_check_step rz) (fCons (fV 0) (fCons (fV 1) (fNil))))) (sSeq (sDrop (fCall (m_check_number rz) (fCons (fV 2) (fCons (fC (.int 0)) (fCons (fC (.int 1000000000)) (fNil)))))) (sRet (f1 pTuple (fCons (fLc (fZip2 (fCons (fV 1) (fCons (fV 0) (fNil)))) (gT [gN 3, gN 4]) (fYes) (f2 pMod (f2 pMul (fV 3) (fV 2)) (fV 4)) [3, 4]) (fNil))))))
def m_multiple (rz : Rz) := runF 5 (g_multiple rz)
def g_check_home (rz : Rz) : SM := sIf (fTB (f2 pNe (fCall (m_total rz) (fCons (fV 0) (fCons (fV 1) (fNil)))) (fCall m_home_step (fCons (fV 0) (fNil))))) (rz "NotHome" [] (fNil)) (sNil)
def m_check_home (rz : Rz) := runF 2 (g_check_home rz)
def g_parted (rz : Rz) : SM := sSeq (sDrop (fCall (m_check_wheels rz) (fCons (fV 0) (fNil)))) (sSeq (sDrop (fCall (m_check_row rz) (fCons (fV 0) (fCons (fV 1) (fNil))))) (sSeq (sDrop (fCall (m_check_home rz) (fCons (fV 0) (fCons (fV 1) (fNil))))) (sSeq (sOwn (f1 kLst (fNil)) 2) (sSeq (sAsg (f1 (gRg .list) (f1 pLen (fCons (fV 1) (fNil)))) (gN 3)) (sSeq (sWhl (fT (fV 3)) (sSeq (sAsg (fCall (m_home_lot rz) (fCons (fV 0) (fCons (f1 pTuple (fCons (fLc (fSeq (fV 3)) (gN 5) (fYes) (f2 pIx (fV 1) (fV 5)) [5]) (fNil))) (fNil)))) (gN 4)) (sSeq (sApp 2 (f1 pTuple (fCons (fLc (fSeq (fV 4)) (gN 6) (fYes) (f2 pIx (fV 3) (fV 6)) [6]) (fNil)))) (sAsg (fLc (fEnum (fCons (fV 3) (fNil))) (gT [gN 6, gN 5]) (fTB (f2 pNotIn (fV 6) (fV 4))) (fV 5) [6, 5]) (gN 3)))) 1000) (sRet (f1 pTuple (fCons (f1 pSorted (fCons (fV 2) (fNil))) (fNil)))))))))
def m_parted (rz : Rz) := runF 7 (g_parted rz)
def g_is_lot : SM := sSeq (sIf (fNot (fT (f1 (fun d => some (.bool (isIn .tuple d))) (fV 0)))) (sRet (fC (.bool false))) (sNil)) (sSeq (sAsg (fC (.int 0)) (gN 2)) (sSeq (sFor (fSeq (fV 0)) (gN 3) (sSeq (sIf (fNot (fT (fCall m_is_integer (fCons (fV 3) (fCons (fV 2) (fCons (f2 pSub (fV 1) (fC (.int 1))) (fNil))))))) (sRet (fC (.bool false))) (sNil)) (sAsg (f2 pAdd (fV 3) (fC (.int 1))) (gN 2)))) (sRet (fC (.bool true)))))
def m_is_lot := runF 4 g_is_lot
end Cm
end TCM

section TK03
set_option Elab.async false
set_option linter.all false
set_option maxRecDepth 100000
set_option maxHeartbeats 4200000
namespace K03
open PyProof.Rows L2 PySem PySem.Spec Pu Cm
abbrev rz : Rz := rzNo
abbrev pg : Program := PySem.Challenge.pw_nolothome_k03_whole_all_rows
def top (i : Nat) : Stmt := pg.main.body.getD i (.Pass ⟨0, 0, 0, 0⟩)
abbrev s_is_integer : Stmt := top 14
abbrev s_places_together : Stmt := top 15
abbrev s_check_wheels : Stmt := top 16
abbrev s_is_step : Stmt := top 17
abbrev s_check_step : Stmt := top 18
abbrev s_check_row : Stmt := top 19
abbrev s_check_number : Stmt := top 20
abbrev s_check_places : Stmt := top 21
abbrev s_check_steps : Stmt := top 22
abbrev s_check_long_row : Stmt := top 23
abbrev s_order : Stmt := top 25
abbrev s_home_step : Stmt := top 26
abbrev s_add_steps : Stmt := top 27
abbrev s_all_steps : Stmt := top 28
abbrev s_lots_with : Stmt := top 32
abbrev s_smallest_lots : Stmt := top 31
abbrev s_sums : Stmt := top 30
abbrev s_most_few : Stmt := top 35
abbrev s_has_few : Stmt := top 34
abbrev s_numbers_of_multiples : Stmt := top 39
abbrev s_integers_below : Stmt := top 38
abbrev s_told_integers : Stmt := top 37
abbrev s_find_teller : Stmt := top 36
abbrev s_least_long : Stmt := top 45
abbrev s_long_teller : Stmt := top 42
abbrev s_count_partitions : Stmt := top 48
abbrev s_units : Stmt := top 47
abbrev s_count_long : Stmt := top 43
abbrev s_check_rows : Stmt := top 46
abbrev s_list_partitions : Stmt := top 49
abbrev s_told_row : Stmt := top 51
abbrev s_told_rows : Stmt := top 50
abbrev s_long_rows : Stmt := top 44
abbrev s__law_taken : Stmt := top 53
abbrev s__law_pick : Stmt := top 54
abbrev s__law_alike : Stmt := top 55
abbrev s__law_added : Stmt := top 56
abbrev s__law_home : Stmt := top 57
abbrev s__law_sums : Stmt := top 58
abbrev s__law_steps : Stmt := top 59
abbrev s__law_lists : Stmt := top 60
abbrev s_law : Stmt := top 61
/-- the names of the module -/
structure Gs (mg : Str → Option Value) : Prop where
  n_all : mg "all" = none
  n_bool : mg "bool" = none
  n_enumerate : mg "enumerate" = none
  n_int : mg "int" = none
  n_isinstance : mg "isinstance" = none
  n_len : mg "len" = none
  n_list : mg "list" = none
  n_range : mg "range" = none
  n_reversed : mg "reversed" = none
  n_set : mg "set" = none
  n_sorted : mg "sorted" = none
  n_str : mg "str" = none
  n_sum : mg "sum" = none
  n_tuple : mg "tuple" = none
  n_zip : mg "zip" = none
  i_LEAST_PLACES : ∃ t, mg "LEAST_PLACES" = some (.int 2 t)
  i_MOST_PLACES : ∃ t, mg "MOST_PLACES" = some (.int 400 t)
  i_MOST_ROWS : ∃ t, mg "MOST_ROWS" = some (.int 5000 t)
  i_MOST_STEPS : ∃ t, mg "MOST_STEPS" = some (.int 40 t)
  i_MOST_STEPS_TOLD : ∃ t, mg "MOST_STEPS_TOLD" = some (.int 400 t)
  i_MOST_WHEELS : ∃ t, mg "MOST_WHEELS" = some (.int 3 t)
  b_gcd : mg "gcd" = some (.builtin "math.gcd")
  b_lcm : mg "lcm" = some (.builtin "math.lcm")
/-- where the defs stand -/
structure Ats (K : PySem.W.Frag) (mg : Str → Option Value) : Prop where
  ais_integer : ∃ f, At K mg "is_integer" s_is_integer f
  aplaces_together : ∃ f, At K mg "places_together" s_places_together f
  acheck_wheels : ∃ f, At K mg "check_wheels" s_check_wheels f
  ais_step : ∃ f, At K mg "is_step" s_is_step f
  acheck_step : ∃ f, At K mg "check_step" s_check_step f
  acheck_row : ∃ f, At K mg "check_row" s_check_row f
  acheck_number : ∃ f, At K mg "check_number" s_check_number f
  acheck_places : ∃ f, At K mg "check_places" s_check_places f
  acheck_steps : ∃ f, At K mg "check_steps" s_check_steps f
  acheck_long_row : ∃ f, At K mg "check_long_row" s_check_long_row f
  aorder : ∃ f, At K mg "order" s_order f
  ahome_step : ∃ f, At K mg "home_step" s_home_step f
  aadd_steps : ∃ f, At K mg "add_steps" s_add_steps f
  aall_steps : ∃ f, At K mg "all_steps" s_all_steps f
  alots_with : ∃ f, At K mg "lots_with" s_lots_with f
  asmallest_lots : ∃ f, At K mg "smallest_lots" s_smallest_lots f
  asums : ∃ f, At K mg "sums" s_sums f
  amost_few : ∃ f, At K mg "most_few" s_most_few f
  ahas_few : ∃ f, At K mg "has_few" s_has_few f
  anumbers_of_multiples : ∃ f, At K mg "numbers_of_multiples" s_numbers_of_multiples f
  aintegers_below : ∃ f, At K mg "integers_below" s_integers_below f
  atold_integers : ∃ f, At K mg "told_integers" s_told_integers f
  afind_teller : ∃ f, At K mg "find_teller" s_find_teller f
  aleast_long : ∃ f, At K mg "least_long" s_least_long f
  along_teller : ∃ f, At K mg "long_teller" s_long_teller f
  acount_partitions : ∃ f, At K mg "count_partitions" s_count_partitions f
  aunits : ∃ f, At K mg "units" s_units f
  acount_long : ∃ f, At K mg "count_long" s_count_long f
  acheck_rows : ∃ f, At K mg "check_rows" s_check_rows f
  alist_partitions : ∃ f, At K mg "list_partitions" s_list_partitions f
  atold_row : ∃ f, At K mg "told_row" s_told_row f
  atold_rows : ∃ f, At K mg "told_rows" s_told_rows f
  along_rows : ∃ f, At K mg "long_rows" s_long_rows f
  a_law_taken : ∃ f, At K mg "_law_taken" s__law_taken f
  a_law_pick : ∃ f, At K mg "_law_pick" s__law_pick f
  a_law_alike : ∃ f, At K mg "_law_alike" s__law_alike f
  a_law_added : ∃ f, At K mg "_law_added" s__law_added f
  a_law_home : ∃ f, At K mg "_law_home" s__law_home f
  a_law_sums : ∃ f, At K mg "_law_sums" s__law_sums f
  a_law_steps : ∃ f, At K mg "_law_steps" s__law_steps f
  a_law_lists : ∃ f, At K mg "_law_lists" s__law_lists f
  alaw : ∃ f, At K mg "law" s_law f

abbrev N_is_integer : List Str := ["value", "least", "most"]
theorem sc_is_integer : FnScope N_is_integer ["value", "least", "most"] (defScope s_is_integer) := ⟨rfl, rfl, rfl, by decide +kernel, rfl, by decide +kernel, by decide +kernel⟩

abbrev N_places_together : List Str := ["wheels", "together", "places"]
theorem sc_places_together : FnScope N_places_together ["wheels"] (defScope s_places_together) := ⟨rfl, rfl, rfl, by decide +kernel, rfl, by decide +kernel, by decide +kernel⟩

abbrev N_check_wheels : List Str := ["value", "index", "places"]
theorem sc_check_wheels : FnScope N_check_wheels ["value"] (defScope s_check_wheels) := ⟨rfl, rfl, rfl, by decide +kernel, rfl, by decide +kernel, by decide +kernel⟩

abbrev N_is_step : List Str := ["wheels", "value", "turn", "places"]
theorem sc_is_step : FnScope N_is_step ["wheels", "value"] (defScope s_is_step) := ⟨rfl, rfl, rfl, by decide +kernel, rfl, by decide +kernel, by decide +kernel⟩

abbrev N_check_step : List Str := ["wheels", "value"]
theorem sc_check_step : FnScope N_check_step ["wheels", "value"] (defScope s_check_step) := ⟨rfl, rfl, rfl, by decide +kernel, rfl, by decide +kernel, by decide +kernel⟩

abbrev N_check_row : List Str := ["wheels", "value", "index", "step"]
theorem sc_check_row : FnScope N_check_row ["wheels", "value"] (defScope s_check_row) := ⟨rfl, rfl, rfl, by decide +kernel, rfl, by decide +kernel, by decide +kernel⟩

abbrev N_check_number : List Str := ["value", "least", "most"]
theorem sc_check_number : FnScope N_check_number ["value", "least", "most"] (defScope s_check_number) := ⟨rfl, rfl, rfl, by decide +kernel, rfl, by decide +kernel, by decide +kernel⟩

abbrev N_check_places : List Str := ["value"]
theorem sc_check_places : FnScope N_check_places ["value"] (defScope s_check_places) := ⟨rfl, rfl, rfl, by decide +kernel, rfl, by decide +kernel, by decide +kernel⟩

abbrev N_check_steps : List Str := ["value", "least"]
theorem sc_check_steps : FnScope N_check_steps ["value", "least"] (defScope s_check_steps) := ⟨rfl, rfl, rfl, by decide +kernel, rfl, by decide +kernel, by decide +kernel⟩

abbrev N_check_long_row : List Str := ["places", "value", "least"]
theorem sc_check_long_row : FnScope N_check_long_row ["places", "value", "least"] (defScope s_check_long_row) := ⟨rfl, rfl, rfl, by decide +kernel, rfl, by decide +kernel, by decide +kernel⟩

abbrev N_order : List Str := ["wheels", "step", "times", "turn", "places"]
theorem sc_order : FnScope N_order ["wheels", "step"] (defScope s_order) := ⟨rfl, rfl, rfl, by decide +kernel, rfl, by decide +kernel, by decide +kernel⟩

abbrev N_home_step : List Str := ["wheels"]
theorem sc_home_step : FnScope N_home_step ["wheels"] (defScope s_home_step) := ⟨rfl, rfl, rfl, by decide +kernel, rfl, by decide +kernel, by decide +kernel⟩

abbrev N_add_steps : List Str := ["wheels", "first", "second", "one", "other", "places"]
theorem sc_add_steps : FnScope N_add_steps ["wheels", "first", "second"] (defScope s_add_steps) := ⟨rfl, rfl, rfl, by decide +kernel, rfl, by decide +kernel, by decide +kernel⟩

abbrev N_all_steps : List Str := ["wheels", "steps", "places", "step", "turn"]
theorem sc_all_steps : FnScope N_all_steps ["wheels"] (defScope s_all_steps) := ⟨rfl, rfl, rfl, by decide +kernel, rfl, by decide +kernel, by decide +kernel⟩

abbrev N_lots_with : List Str := ["wheels", "lots", "place", "step", "more", "reached", "goal", "lot"]
theorem sc_lots_with : FnScope N_lots_with ["wheels", "lots", "place", "step"] (defScope s_lots_with) := ⟨rfl, rfl, rfl, by decide +kernel, rfl, by decide +kernel, by decide +kernel⟩

abbrev N_smallest_lots : List Str := ["wheels", "row", "lots", "place"]
theorem sc_smallest_lots : FnScope N_smallest_lots ["wheels", "row"] (defScope s_smallest_lots) := ⟨rfl, rfl, rfl, by decide +kernel, rfl, by decide +kernel, by decide +kernel⟩

abbrev N_sums : List Str := ["wheels", "row"]
theorem sc_sums : FnScope N_sums ["wheels", "row"] (defScope s_sums) := ⟨rfl, rfl, rfl, by decide +kernel, rfl, by decide +kernel, by decide +kernel⟩

abbrev N_most_few : List Str := ["row"]
theorem sc_most_few : FnScope N_most_few ["row"] (defScope s_most_few) := ⟨rfl, rfl, rfl, by decide +kernel, rfl, by decide +kernel, by decide +kernel⟩

abbrev N_has_few : List Str := ["wheels", "row", "reached"]
theorem sc_has_few : FnScope N_has_few ["wheels", "row"] (defScope s_has_few) := ⟨rfl, rfl, rfl, by decide +kernel, rfl, by decide +kernel, by decide +kernel⟩

abbrev N_numbers_of_multiples : List Str := ["wheels", "step", "home", "numbers", "reached"]
theorem sc_numbers_of_multiples : FnScope N_numbers_of_multiples ["wheels", "step"] (defScope s_numbers_of_multiples) := ⟨rfl, rfl, rfl, by decide +kernel, rfl, by decide +kernel, by decide +kernel⟩

abbrev N_integers_below : List Str := ["wheels", "step", "row", "numbers", "multiple"]
theorem sc_integers_below : FnScope N_integers_below ["wheels", "step", "row"] (defScope s_integers_below) := ⟨rfl, rfl, rfl, by decide +kernel, rfl, by decide +kernel, by decide +kernel⟩

abbrev N_told_integers : List Str := ["wheels", "step", "row", "integers"]
theorem sc_told_integers : FnScope N_told_integers ["wheels", "step", "row"] (defScope s_told_integers) := ⟨rfl, rfl, rfl, by decide +kernel, rfl, by decide +kernel, by decide +kernel⟩

abbrev N_find_teller : List Str := ["wheels", "row", "most", "step", "integers"]
theorem sc_find_teller : FnScope N_find_teller ["wheels", "row", "most"] (defScope s_find_teller) := ⟨rfl, rfl, rfl, by decide +kernel, rfl, by decide +kernel, by decide +kernel⟩

abbrev N_least_long : List Str := ["places"]
theorem sc_least_long : FnScope N_least_long ["places"] (defScope s_least_long) := ⟨rfl, rfl, rfl, by decide +kernel, rfl, by decide +kernel, by decide +kernel⟩

abbrev N_long_teller : List Str := ["places", "row"]
theorem sc_long_teller : FnScope N_long_teller ["places", "row"] (defScope s_long_teller) := ⟨rfl, rfl, rfl, by decide +kernel, rfl, by decide +kernel, by decide +kernel⟩

abbrev N_count_partitions : List Str := ["most", "counts", "part", "number"]
theorem sc_count_partitions : FnScope N_count_partitions ["most"] (defScope s_count_partitions) := ⟨rfl, rfl, rfl, by decide +kernel, rfl, by decide +kernel, by decide +kernel⟩

abbrev N_units : List Str := ["places", "number"]
theorem sc_units : FnScope N_units ["places"] (defScope s_units) := ⟨rfl, rfl, rfl, by decide +kernel, rfl, by decide +kernel, by decide +kernel⟩

abbrev N_count_long : List Str := ["places", "steps"]
theorem sc_count_long : FnScope N_count_long ["places", "steps"] (defScope s_count_long) := ⟨rfl, rfl, rfl, by decide +kernel, rfl, by decide +kernel, by decide +kernel⟩

abbrev N_check_rows : List Str := ["many"]
theorem sc_check_rows : FnScope N_check_rows ["many"] (defScope s_check_rows) := ⟨rfl, rfl, rfl, by decide +kernel, rfl, by decide +kernel, by decide +kernel⟩

abbrev N_list_partitions : List Str := ["most", "lists", "part", "number", "_", "parts"]
theorem sc_list_partitions : FnScope N_list_partitions ["most"] (defScope s_list_partitions) := ⟨rfl, rfl, rfl, by decide +kernel, rfl, by decide +kernel, by decide +kernel⟩

abbrev N_told_row : List Str := ["places", "steps", "unit", "parts", "row", "part"]
theorem sc_told_row : FnScope N_told_row ["places", "steps", "unit", "parts"] (defScope s_told_row) := ⟨rfl, rfl, rfl, by decide +kernel, rfl, by decide +kernel, by decide +kernel⟩

abbrev N_told_rows : List Str := ["places", "steps", "ways", "rows", "unit", "parts"]
theorem sc_told_rows : FnScope N_told_rows ["places", "steps", "ways"] (defScope s_told_rows) := ⟨rfl, rfl, rfl, by decide +kernel, rfl, by decide +kernel, by decide +kernel⟩

abbrev N_long_rows : List Str := ["places", "steps", "ways", "some"]
theorem sc_long_rows : FnScope N_long_rows ["places", "steps"] (defScope s_long_rows) := ⟨rfl, rfl, rfl, by decide +kernel, rfl, by decide +kernel, by decide +kernel⟩

abbrev N__law_taken : List Str := ["row", "many", "found", "cell"]
theorem sc__law_taken : FnScope N__law_taken ["row", "many"] (defScope s__law_taken) := ⟨rfl, rfl, rfl, by decide +kernel, rfl, by decide +kernel, by decide +kernel⟩

abbrev N__law_pick : List Str := ["row", "things"]
theorem sc__law_pick : FnScope N__law_pick ["row", "things"] (defScope s__law_pick) := ⟨rfl, rfl, rfl, by decide +kernel, rfl, by decide +kernel, by decide +kernel⟩

abbrev N__law_alike : List Str := ["found", "due", "k"]
theorem sc__law_alike : FnScope N__law_alike ["found", "due"] (defScope s__law_alike) := ⟨rfl, rfl, rfl, by decide +kernel, rfl, by decide +kernel, by decide +kernel⟩

abbrev N__law_added : List Str := ["wheels", "one", "other", "at"]
theorem sc__law_added : FnScope N__law_added ["wheels", "one", "other"] (defScope s__law_added) := ⟨rfl, rfl, rfl, by decide +kernel, rfl, by decide +kernel, by decide +kernel⟩

abbrev N__law_home : List Str := ["wheels"]
theorem sc__law_home : FnScope N__law_home ["wheels"] (defScope s__law_home) := ⟨rfl, rfl, rfl, by decide +kernel, rfl, by decide +kernel, by decide +kernel⟩

abbrev N__law_sums : List Str := ["wheels", "row", "found", "step", "one"]
theorem sc__law_sums : FnScope N__law_sums ["wheels", "row"] (defScope s__law_sums) := ⟨rfl, rfl, rfl, by decide +kernel, rfl, by decide +kernel, by decide +kernel⟩

abbrev N__law_steps : List Str := ["wheels", "found", "wheel", "longer", "step", "one"]
theorem sc__law_steps : FnScope N__law_steps ["wheels"] (defScope s__law_steps) := ⟨rfl, rfl, rfl, by decide +kernel, rfl, by decide +kernel, by decide +kernel⟩

abbrev N__law_lists : List Str := ["steps", "count", "found", "turn", "longer", "line", "step"]
theorem sc__law_lists : FnScope N__law_lists ["steps", "count"] (defScope s__law_lists) := ⟨rfl, rfl, rfl, by decide +kernel, rfl, by decide +kernel, by decide +kernel⟩

abbrev N_law : List Str := ["script", "row", "places", "size", "steps", "wheels", "due", "line", "out", "every", "one"]
theorem sc_law : FnScope N_law ["script"] (defScope s_law) := ⟨rfl, rfl, rfl, by decide +kernel, rfl, by decide +kernel, by decide +kernel⟩
def g_law_0 : SM := sMkRow 1 0 5603
def g_law_1 : SM := sIf (fTB (f2 pGt (fCallW 1 m__law_taken (fCons (fC (.int 3)) (fNil))) (fC (.int 0)))) (sSeq (sAsg (f2 pAdd (fC (.int 2)) (fCallW 1 m__law_taken (fCons (fIte (fTB (f2 pGt (fCallW 1 m__law_taken (fCons (fC (.int 4)) (fNil))) (fC (.int 0)))) (fC (.int 7)) (fC (.int 8))) (fNil)))) (gN 2)) (sSeq (sAsg (f2 pAdd (f2 pAdd (f2 pDiv (fV 2) (fC (.int 2))) (fC (.int 1))) (fCallW 1 m__law_taken (fCons (f2 pSub (fV 2) (f2 pDiv (fV 2) (fC (.int 2)))) (fNil)))) (gN 3)) (sSeq (sPar [4, 5, 6] (fCons (fLc (fRng2 (fCons (fC (.int 1)) (fCons (fV 2) (fNil)))) (gN 10) (fYes) (f1 kTup (fCons (fV 10) (fNil))) [10]) (fCons (f1 kTup (fCons (fV 2) (fNil))) (fCons (f1 kLst (fNil)) (fNil))))) (sSeq (sFor (fSeq (fCall m__law_lists (fCons (fV 4) (fCons (fV 3) (fNil))))) (gN 7) (sSeq (sAsg (f2 pNotIn (f1 kTup (fCons (fC (.int 0)) (fNil))) (fCall m__law_sums (fCons (fV 5) (fCons (fV 7) (fNil))))) (gN 8)) (sSeq (sAsg (f2 pAdd (fV 6) (fIte (fT (fV 8)) (f1 kLst (fCons (fV 7) (fNil))) (f1 kLst (fNil)))) (gN 6)) (sIf (fAnd (fTB (f2 pEq (fCallW 1 m__law_taken (fCons (fC (.int 9)) (fNil))) (fC (.int 0)))) (fTB (f2 pNe (f2 pIsNot (fCall (m_long_teller rz) (fCons (fV 2) (fCons (fV 7) (fNil)))) (fC .none)) (fV 8)))) (sRet (fC (.bool false))) (sNil))))) (sRet (fCall (m__law_alike 5) (fCons (f1 kLst (fCons (fCall (m_long_rows rz) (fCons (fV 2) (fCons (fV 3) (fNil)))) (fCons (fCall (m_count_long rz) (fCons (fV 2) (fCons (fV 3) (fNil)))) (fNil)))) (fCons (f1 kLst (fCons (f1 pTuple (fCons (fV 6) (fNil))) (fCons (f1 pLen (fCons (fV 6) (fNil))) (fNil)))) (fNil))))))))) (sNil)
def g_law_2 : SM := sAsg (fCallW 1 m__law_pick (fCons (f1 kLst (fCons (f1 kTup (fCons (fC (.int 2)) (fCons (fC (.int 2)) (fNil)))) (fCons (f1 kTup (fCons (fC (.int 2)) (fCons (fC (.int 4)) (fNil)))) (fCons (f1 kTup (fCons (fC (.int 3)) (fCons (fC (.int 3)) (fNil)))) (fCons (f1 kTup (fCons (fC (.int 2)) (fCons (fC (.int 2)) (fCons (fC (.int 2)) (fNil))))) (fCons (f1 kTup (fCons (fC (.int 6)) (fNil))) (fCons (f1 kTup (fCons (fC (.int 2)) (fCons (fC (.int 3)) (fNil)))) (fCons (f1 kTup (fCons (fC (.int 7)) (fNil))) (fNil))))))))) (fNil))) (gN 5)
def g_law_3 : SM := sAsg (f2 pAdd (fC (.int 2)) (fCallW 1 m__law_taken (fCons (fC (.int 3)) (fNil)))) (gN 3)
def g_law_4 : SM := sFor (fSeq (fCall m__law_lists (fCons (fCut (fCall m__law_steps (fCons (fV 5) (fNil))) (fO (fC (.int 1))) (fO0)) (fCons (fV 3) (fNil))))) (gN 7) (sSeq (sAsg (fCall m__law_sums (fCons (fV 5) (fCons (fV 7) (fNil)))) (gN 9)) (sIf (fTB (f2 pNe (fCall (m_has_few rz) (fCons (fV 5) (fCons (fV 7) (fNil)))) (fAndV (f2 pNotIn (fCall m__law_home (fCons (fV 5) (fNil))) (fV 9)) (f2 pLe (f1 pLen (fCons (fV 9) (fNil))) (f2 pSub (f2 pMul (fC (.int 2)) (fV 3)) (fC (.int 2))))))) (sRet (fC (.bool false))) (sNil)))
def g_law_5 : SM := sRet (fC (.bool true))
def g_law : SM := sSeq g_law_0 (sSeq g_law_1 (sSeq g_law_2 (sSeq g_law_3 (sSeq g_law_4 (g_law_5)))))
section
variable {w : World} {K : PySem.W.Frag} {mg : Str → Option Value} {base : Heap}
variable (Gg : Gs mg) (Aa : Ats K mg)
include Gg Aa

theorem D_is_integer : DefD pg w K mg base 1 "is_integer" 3 m_is_integer := by
  obtain ⟨f, h⟩ := Aa.ais_integer
  exact dOk h sc_is_integer rfl (by decide) (fun _ _ _ _ _ _ us hl => match us, hl with | [_, _, _], _ => rfl) (by
    rintro X ⟨cdv, A, outer, s, H, E, rfl⟩ W F
    exact s_cons (s_if (x_tw (w_or (x_tnot (x_t (x_isi F Gg.n_isinstance Gg.n_int bb_int (T := .int) (x_v 0)))) (w_or1 (x_t (x_isi F Gg.n_isinstance Gg.n_bool bb_bool (T := .bool) (x_v 0)))))) (s_one (s_ret (x_bl))) (s_nil)) (s_one (s_ret (x_chain (o_le (hu64 F)) ro2 (o_le (hu64 F)) ro2 (x_v 1) (x_v 0) (x_v 2)))))

theorem D_places_together : DefD pg w K mg base 1 "places_together" 1 m_places_together := by
  obtain ⟨f, h⟩ := Aa.aplaces_together
  exact dOk h sc_places_together rfl (by decide) (fun _ _ _ _ _ _ us hl => match us, hl with | [_], _ => rfl) (by
    rintro X ⟨cdv, A, outer, s, H, E, rfl⟩ W F
    exact s_cons (s_set F (i := 1) rfl (by first | exact .inl rfl | exact .inr rfl) (x_int)) (s_cons (s_for F (i_seq (x_v 0)) (pg_name F.nd (i := 2) rfl (by first | exact .inl rfl | exact .inr rfl)) g_name (s_one (s_set F (i := 1) rfl (by first | exact .inl rfl | exact .inr rfl) (x_bin o_mul ro2 (x_v 1) (x_v 2))))) (s_one (s_ret (x_v 1)))))

theorem D_check_wheels : DefD pg w K mg base 2 "check_wheels" 1 (m_check_wheels rz) := by
  obtain ⟨f, h⟩ := Aa.acheck_wheels
  exact dOk h sc_check_wheels rfl (by decide) (fun _ _ _ _ _ _ us hl => match us, hl with | [_], _ => rfl) (by
    rintro X ⟨cdv, A, outer, s, H, E, rfl⟩ W F
    exact s_cons (s_if (x_tw (w_or (x_tnot (x_t (x_isi F Gg.n_isinstance Gg.n_tuple bb_tuple (T := .tuple) (x_v 0)))) (w_or1 (x_tnot (x_tchain (o_le (hu64 F)) ro2 (o_le (hu64 F)) ro2 (x_int) (x_callB F Gg.n_len c_len roA bb_len (x_cons (x_v 0) (x_nil))) (x_gint F Gg.i_MOST_WHEELS)))))) (s_one (s_no)) (s_nil)) (s_cons (s_for F (i_enum F Gg.n_enumerate (x_cons (x_v 0) (x_nil))) (pg_tup F.calm (n := 2) (pgs_cons (pg_name F.nd (i := 1) rfl (by first | exact .inl rfl | exact .inr rfl)) (pgs_cons (pg_name F.nd (i := 2) rfl (by first | exact .inl rfl | exact .inr rfl)) (pgs_nil)))) (g_tup (gs_cons g_name (gs_cons g_name (gs_nil)))) (s_one (s_if (x_tnot (x_t (x_call F (D_is_integer Gg Aa) (by decide) rfl (len1 (len1 (len1 len0))) (x_cons (x_v 2) (x_cons (x_gint F Gg.i_LEAST_PLACES) (x_cons (x_gint F Gg.i_MOST_PLACES) (x_nil))))))) (s_one (s_no)) (s_nil)))) (s_one (s_if (x_tc (o_gt (hu64 F)) ro2 (x_call F (D_places_together Gg Aa) (by decide) rfl (len1 len0) (x_cons (x_v 0) (x_nil))) (x_gint F Gg.i_MOST_PLACES)) (s_one (s_no)) (s_nil)))))

theorem D_is_step : DefD pg w K mg base 2 "is_step" 2 m_is_step := by
  obtain ⟨f, h⟩ := Aa.ais_step
  exact dOk h sc_is_step rfl (by decide) (fun _ _ _ _ _ _ us hl => match us, hl with | [_, _], _ => rfl) (by
    rintro X ⟨cdv, A, outer, s, H, E, rfl⟩ W F
    exact s_cons (s_if (x_tw (w_or (x_tnot (x_t (x_isi F Gg.n_isinstance Gg.n_tuple bb_tuple (T := .tuple) (x_v 1)))) (w_or1 (x_tc (o_ne (hu64 F)) ro2 (x_callB F Gg.n_len c_len roA bb_len (x_cons (x_v 1) (x_nil))) (x_callB F Gg.n_len c_len roA bb_len (x_cons (x_v 0) (x_nil))))))) (s_one (s_ret (x_bl))) (s_nil)) (s_cons (s_for F (i_zip2 F Gg.n_zip (x_cons (x_v 1) (x_cons (x_v 0) (x_nil)))) (pg_tup F.calm (n := 2) (pgs_cons (pg_name F.nd (i := 2) rfl (by first | exact .inl rfl | exact .inr rfl)) (pgs_cons (pg_name F.nd (i := 3) rfl (by first | exact .inl rfl | exact .inr rfl)) (pgs_nil)))) (g_tup (gs_cons g_name (gs_cons g_name (gs_nil)))) (s_one (s_if (x_tnot (x_t (x_call F (D_is_integer Gg Aa) (by decide) rfl (len1 (len1 (len1 len0))) (x_cons (x_v 2) (x_cons (x_int) (x_cons (x_bin o_sub ro2 (x_v 3) (x_int)) (x_nil))))))) (s_one (s_ret (x_bl))) (s_nil)))) (s_one (s_ret (x_bl)))))

theorem D_check_step : DefD pg w K mg base 3 "check_step" 2 (m_check_step rz) := by
  obtain ⟨f, h⟩ := Aa.acheck_step
  exact dOk h sc_check_step rfl (by decide) (fun _ _ _ _ _ _ us hl => match us, hl with | [_, _], _ => rfl) (by
    rintro X ⟨cdv, A, outer, s, H, E, rfl⟩ W F
    exact s_one (s_if (x_tnot (x_t (x_call F (D_is_step Gg Aa) (by decide) rfl (len1 (len1 len0)) (x_cons (x_v 0) (x_cons (x_v 1) (x_nil)))))) (s_one (s_no)) (s_nil)))

theorem D_check_row : DefD pg w K mg base 3 "check_row" 2 (m_check_row rz) := by
  obtain ⟨f, h⟩ := Aa.acheck_row
  exact dOk h sc_check_row rfl (by decide) (fun _ _ _ _ _ _ us hl => match us, hl with | [_, _], _ => rfl) (by
    rintro X ⟨cdv, A, outer, s, H, E, rfl⟩ W F
    exact s_cons (s_if (x_tw (w_or (x_tnot (x_t (x_isi F Gg.n_isinstance Gg.n_tuple bb_tuple (T := .tuple) (x_v 1)))) (w_or1 (x_tc (o_gt (hu64 F)) ro2 (x_callB F Gg.n_len c_len roA bb_len (x_cons (x_v 1) (x_nil))) (x_gint F Gg.i_MOST_STEPS))))) (s_one (s_no)) (s_nil)) (s_one (s_for F (i_enum F Gg.n_enumerate (x_cons (x_v 1) (x_nil))) (pg_tup F.calm (n := 2) (pgs_cons (pg_name F.nd (i := 2) rfl (by first | exact .inl rfl | exact .inr rfl)) (pgs_cons (pg_name F.nd (i := 3) rfl (by first | exact .inl rfl | exact .inr rfl)) (pgs_nil)))) (g_tup (gs_cons g_name (gs_cons g_name (gs_nil)))) (s_one (s_if (x_tnot (x_t (x_call F (D_is_step Gg Aa) (by decide) rfl (len1 (len1 len0)) (x_cons (x_v 0) (x_cons (x_v 3) (x_nil)))))) (s_one (s_no)) (s_nil))))))

theorem D_check_number : DefD pg w K mg base 2 "check_number" 3 (m_check_number rz) := by
  obtain ⟨f, h⟩ := Aa.acheck_number
  exact dOk h sc_check_number rfl (by decide) (fun _ _ _ _ _ _ us hl => match us, hl with | [_, _, _], _ => rfl) (by
    rintro X ⟨cdv, A, outer, s, H, E, rfl⟩ W F
    exact s_one (s_if (x_tnot (x_t (x_call F (D_is_integer Gg Aa) (by decide) rfl (len1 (len1 (len1 len0))) (x_cons (x_v 0) (x_cons (x_v 1) (x_cons (x_v 2) (x_nil))))))) (s_one (s_no)) (s_nil)))

theorem D_check_places : DefD pg w K mg base 3 "check_places" 1 (m_check_places rz) := by
  obtain ⟨f, h⟩ := Aa.acheck_places
  exact dOk h sc_check_places rfl (by decide) (fun _ _ _ _ _ _ us hl => match us, hl with | [_], _ => rfl) (by
    rintro X ⟨cdv, A, outer, s, H, E, rfl⟩ W F
    exact s_one (s_expr (x_call F (D_check_number Gg Aa) (by decide) rfl (len1 (len1 (len1 len0))) (x_cons (x_v 0) (x_cons (x_gint F Gg.i_LEAST_PLACES) (x_cons (x_gint F Gg.i_MOST_PLACES) (x_nil)))))))

theorem D_check_steps : DefD pg w K mg base 3 "check_steps" 2 (m_check_steps rz) := by
  obtain ⟨f, h⟩ := Aa.acheck_steps
  exact dOk h sc_check_steps rfl (by decide) (fun _ _ _ _ _ _ us hl => match us, hl with | [_, _], _ => rfl) (by
    rintro X ⟨cdv, A, outer, s, H, E, rfl⟩ W F
    exact s_one (s_expr (x_call F (D_check_number Gg Aa) (by decide) rfl (len1 (len1 (len1 len0))) (x_cons (x_v 0) (x_cons (x_v 1) (x_cons (x_gint F Gg.i_MOST_STEPS_TOLD) (x_nil)))))))

theorem D_check_long_row : DefD pg w K mg base 4 "check_long_row" 3 (m_check_long_row rz) := by
  obtain ⟨f, h⟩ := Aa.acheck_long_row
  exact dOk h sc_check_long_row rfl (by decide) (fun _ _ _ _ _ _ us hl => match us, hl with | [_, _, _], _ => rfl) (by
    rintro X ⟨cdv, A, outer, s, H, E, rfl⟩ W F
    exact s_cons (s_expr (x_call F (D_check_row Gg Aa) (by decide) rfl (len1 (len1 len0)) (x_cons (x_tup (x_cons (x_v 0) (x_nil))) (x_cons (x_v 1) (x_nil))))) (s_one (s_expr (x_call F (D_check_number Gg Aa) (by decide) rfl (len1 (len1 (len1 len0))) (x_cons (x_callB F Gg.n_len c_len roA bb_len (x_cons (x_v 1) (x_nil))) (x_cons (x_v 2) (x_cons (x_gint F Gg.i_MOST_STEPS) (x_nil))))))))

theorem D_order : DefD pg w K mg base 4 "order" 2 (m_order rz) := by
  obtain ⟨f, h⟩ := Aa.aorder
  exact dOk h sc_order rfl (by decide) (fun _ _ _ _ _ _ us hl => match us, hl with | [_, _], _ => rfl) (by
    rintro X ⟨cdv, A, outer, s, H, E, rfl⟩ W F
    exact s_cons (s_expr (x_call F (D_check_wheels Gg Aa) (by decide) rfl (len1 len0) (x_cons (x_v 0) (x_nil)))) (s_cons (s_expr (x_call F (D_check_step Gg Aa) (by decide) rfl (len1 (len1 len0)) (x_cons (x_v 0) (x_cons (x_v 1) (x_nil))))) (s_cons (s_set F (i := 2) rfl (by first | exact .inl rfl | exact .inr rfl) (x_int)) (s_cons (s_for F (i_zip2 F Gg.n_zip (x_cons (x_v 1) (x_cons (x_v 0) (x_nil)))) (pg_tup F.calm (n := 2) (pgs_cons (pg_name F.nd (i := 3) rfl (by first | exact .inl rfl | exact .inr rfl)) (pgs_cons (pg_name F.nd (i := 4) rfl (by first | exact .inl rfl | exact .inr rfl)) (pgs_nil)))) (g_tup (gs_cons g_name (gs_cons g_name (gs_nil)))) (s_one (s_set F (i := 2) rfl (by first | exact .inl rfl | exact .inr rfl) (x_bfun F Gg.b_lcm c_lcm roA (x_cons (x_v 2) (x_cons (x_bin o_div ro2 (x_v 4) (x_bfun F Gg.b_gcd c_gcd roA (x_cons (x_v 3) (x_cons (x_v 4) (x_nil))))) (x_nil))))))) (s_one (s_ret (x_v 2)))))))

theorem D_home_step : DefD pg w K mg base 1 "home_step" 1 m_home_step := by
  obtain ⟨f, h⟩ := Aa.ahome_step
  exact dOk h sc_home_step rfl (by decide) (fun _ _ _ _ _ _ us hl => match us, hl with | [_], _ => rfl) (by
    rintro X ⟨cdv, A, outer, s, H, E, rfl⟩ W F
    exact s_one (s_ret (x_bin o_mul ro2 (x_tup (x_cons (x_int) (x_nil))) (x_callB F Gg.n_len c_len roA bb_len (x_cons (x_v 0) (x_nil))))))

theorem D_add_steps : DefD pg w K mg base 1 "add_steps" 3 m_add_steps := by
  obtain ⟨f, h⟩ := Aa.aadd_steps
  exact dOk h sc_add_steps rfl (by decide) (fun _ _ _ _ _ _ us hl => match us, hl with | [_, _, _], _ => rfl) (by
    rintro X ⟨cdv, A, outer, s, H, E, rfl⟩ W F
    exact s_one (s_ret (x_callT F Gg.n_tuple c_tuple roA bb_tuple (x_cons (y_lc F (i_zip3 F Gg.n_zip (x_cons (x_v 1) (x_cons (x_v 2) (x_cons (x_v 0) (x_nil))))) (blkOk_by (own := [(Str.ofString "one", 3), (Str.ofString "other", 4), (Str.ofString "places", 5)]) (by kernel_rfl)) (fun s H C cl fp F => pg_tup F.calm (n := 3) (pgs_cons (pg_name F.nd (i := 3) rfl (by first | exact .inl rfl | exact .inr rfl)) (pgs_cons (pg_name F.nd (i := 4) rfl (by first | exact .inl rfl | exact .inr rfl)) (pgs_cons (pg_name F.nd (i := 5) rfl (by first | exact .inl rfl | exact .inr rfl)) (pgs_nil))))) (g_tup (gs_cons g_name (gs_cons g_name (gs_cons g_name (gs_nil))))) (by decide) (fun s H C cl fp F => ts_nil) (fun s H C cl fp F => x_bin o_mod ro2 (x_bin o_add ro2 (x_v 3) (x_v 4)) (x_v 5))) (x_nil)))))

theorem D_all_steps : DefD pg w K mg base 1 "all_steps" 1 m_all_steps := by
  obtain ⟨f, h⟩ := Aa.aall_steps
  exact dOk h sc_all_steps rfl (by decide) (fun _ _ _ _ _ _ us hl => match us, hl with | [_], _ => rfl) (by
    rintro X ⟨cdv, A, outer, s, H, E, rfl⟩ W F
    exact s_cons (s_set F (i := 1) rfl (by first | exact .inl rfl | exact .inr rfl) (x_lst (x_cons (x_tup (x_nil)) (x_nil)))) (s_cons (s_for F (i_seq (x_v 0)) (pg_name F.nd (i := 2) rfl (by first | exact .inl rfl | exact .inr rfl)) g_name (s_one (z_lc2 F (i := 1) rfl rfl (sw_true rfl rfl rfl (by decide +kernel)) (vs1 := [4]) (i_seq (x_v 1)) (blkOk_by (own := [(Str.ofString "step", 3), (Str.ofString "turn", 4)]) (by kernel_rfl)) (by decide) (fun s H C cl fp F => pg_name F.nd (i := 3) rfl (by first | exact .inl rfl | exact .inr rfl)) g_name (by decide) (fun s H C cl fp F => ts_nil) (fun s H C cl fp F => i_rng1 F Gg.n_range (x_cons (x_v 2) (x_nil))) (fun s H C cl fp F => pg_name F.nd (i := 4) rfl (by first | exact .inl rfl | exact .inr rfl)) g_name (by decide) (fun s H C cl fp F => ts_nil) (fun s H C cl fp F => x_tup (x_star (x_v 3) (x_cons (x_v 4) (x_nil))))))) (s_one (s_ret (x_v 1)))))

theorem D_lots_with : DefD pg w K mg base 2 "lots_with" 4 m_lots_with := by
  obtain ⟨f, h⟩ := Aa.alots_with
  exact dOk h sc_lots_with rfl (by decide) (fun _ _ _ _ _ _ us hl => match us, hl with | [_, _, _, _], _ => rfl) (by
    rintro X ⟨cdv, A, outer, s, H, E, rfl⟩ W F
    exact s_cons (z_dcO F (j := 4) (i := 1) rfl rfl (sw_trueD rfl rfl rfl (by decide +kernel)) rfl (by first | exact .inl rfl | exact .inr (.inl rfl) | exact .inr (.inr rfl)) (blkOk_by (own := [(Str.ofString "reached", 5)]) (by kernel_rfl)) (fun s H C cl fp F => pg_name F.nd (i := 5) rfl (by first | exact .inl rfl | exact .inr rfl)) g_name (by decide) (fun s H C cl fp F => ts_nil) (fun s H C cl fp F => x_v 5) (fun s H C cl fp F => x_dix F (i := 1) rfl (by first | exact .inl rfl | exact .inr (.inl rfl) | exact .inr (.inr rfl)) (x_v 5))) (s_cons (s_dput F (i := 4) rfl (by first | exact .inl rfl | exact .inr (.inl rfl) | exact .inr (.inr rfl)) (x_v 3) (x_tup (x_cons (x_v 2) (x_nil)))) (s_cons (s_forD F (i := 1) rfl (by first | exact .inl rfl | exact .inr (.inl rfl) | exact .inr (.inr rfl)) (pg_name F.nd (i := 5) rfl (by first | exact .inl rfl | exact .inr rfl)) g_name (s_cons (s_set F (i := 6) rfl (by first | exact .inl rfl | exact .inr rfl) (x_call F (D_add_steps Gg Aa) (by decide) rfl (len1 (len1 (len1 len0))) (x_cons (x_v 0) (x_cons (x_v 5) (x_cons (x_v 3) (x_nil)))))) (s_cons (s_set F (i := 7) rfl (by first | exact .inl rfl | exact .inr rfl) (x_tup (x_cons (x_v 2) (x_star (x_dix F (i := 1) rfl (by first | exact .inl rfl | exact .inr (.inl rfl) | exact .inr (.inr rfl)) (x_v 5)) (x_nil))))) (s_one (s_if (x_tw (w_or (x_dnin F (i := 4) rfl (by first | exact .inl rfl | exact .inr (.inl rfl) | exact .inr (.inr rfl)) (x_v 6)) (w_or1 (x_tc (o_le (hu64 F)) ro2 (x_callB F Gg.n_len c_len roA bb_len (x_cons (x_v 7) (x_nil))) (x_callB F Gg.n_len c_len roA bb_len (x_cons (x_dix F (i := 4) rfl (by first | exact .inl rfl | exact .inr (.inl rfl) | exact .inr (.inr rfl)) (x_v 6)) (x_nil))))))) (s_one (s_dput F (i := 4) rfl (by first | exact .inl rfl | exact .inr (.inl rfl) | exact .inr (.inr rfl)) (x_v 6) (x_v 7))) (s_nil)))))) (s_one (s_ret (x_v 4))))))

theorem D_smallest_lots : DefD pg w K mg base 3 "smallest_lots" 2 m_smallest_lots := by
  obtain ⟨f, h⟩ := Aa.asmallest_lots
  exact dOk h sc_smallest_lots rfl (by decide) (fun _ _ _ _ _ _ us hl => match us, hl with | [_, _], _ => rfl) (by
    rintro X ⟨cdv, A, outer, s, H, E, rfl⟩ W F
    exact s_cons (s_set F (i := 2) rfl (by first | exact .inl rfl | exact .inr rfl) (x_fresh x_dictO0)) (s_cons (s_for F (i_rev1 F Gg.n_range Gg.n_reversed (x_callB F Gg.n_len c_len roA bb_len (x_cons (x_v 1) (x_nil)))) (pg_name F.nd (i := 3) rfl (by first | exact .inl rfl | exact .inr rfl)) g_name (s_one (s_set F (i := 2) rfl (by first | exact .inl rfl | exact .inr rfl) (x_call F (D_lots_with Gg Aa) (by decide) rfl (len1 (len1 (len1 (len1 len0)))) (x_cons (x_v 0) (x_cons (x_v 2) (x_cons (x_v 3) (x_cons (x_ix o_ix ro2 (x_v 1) (x_v 3)) (x_nil))))))))) (s_one (s_ret (x_v 2)))))

theorem D_sums : DefD pg w K mg base 4 "sums" 2 (m_sums rz) := by
  obtain ⟨f, h⟩ := Aa.asums
  exact dOk h sc_sums rfl (by decide) (fun _ _ _ _ _ _ us hl => match us, hl with | [_, _], _ => rfl) (by
    rintro X ⟨cdv, A, outer, s, H, E, rfl⟩ W F
    exact s_cons (s_expr (x_call F (D_check_wheels Gg Aa) (by decide) rfl (len1 len0) (x_cons (x_v 0) (x_nil)))) (s_cons (s_expr (x_call F (D_check_row Gg Aa) (by decide) rfl (len1 (len1 len0)) (x_cons (x_v 0) (x_cons (x_v 1) (x_nil))))) (s_one (s_ret (x_callT F Gg.n_tuple c_tuple roA bb_tuple (x_cons (x_callB F Gg.n_sorted (c_sorted F.calm (hu64 F)) roA bb_sorted (x_cons (x_call F (D_smallest_lots Gg Aa) (by decide) rfl (len1 (len1 len0)) (x_cons (x_v 0) (x_cons (x_v 1) (x_nil)))) (x_nil))) (x_nil)))))))

theorem D_most_few : DefD pg w K mg base 1 "most_few" 1 m_most_few := by
  obtain ⟨f, h⟩ := Aa.amost_few
  exact dOk h sc_most_few rfl (by decide) (fun _ _ _ _ _ _ us hl => match us, hl with | [_], _ => rfl) (by
    rintro X ⟨cdv, A, outer, s, H, E, rfl⟩ W F
    exact s_one (s_ret (x_bin o_sub ro2 (x_bin o_mul ro2 (x_int) (x_callB F Gg.n_len c_len roA bb_len (x_cons (x_v 0) (x_nil)))) (x_int))))

theorem D_has_few : DefD pg w K mg base 5 "has_few" 2 (m_has_few rz) := by
  obtain ⟨f, h⟩ := Aa.ahas_few
  exact dOk h sc_has_few rfl (by decide) (fun _ _ _ _ _ _ us hl => match us, hl with | [_, _], _ => rfl) (by
    rintro X ⟨cdv, A, outer, s, H, E, rfl⟩ W F
    exact s_cons (s_set F (i := 2) rfl (by first | exact .inl rfl | exact .inr rfl) (x_call F (D_sums Gg Aa) (by decide) rfl (len1 (len1 len0)) (x_cons (x_v 0) (x_cons (x_v 1) (x_nil))))) (s_one (s_ret (v_and (x_cmp (o_notIn (hu64 F)) ro2 (x_call F (D_home_step Gg Aa) (by decide) rfl (len1 len0) (x_cons (x_v 0) (x_nil))) (x_v 2)) (v_one (x_cmp (o_le (hu64 F)) ro2 (x_callB F Gg.n_len c_len roA bb_len (x_cons (x_v 2) (x_nil))) (x_call F (D_most_few Gg Aa) (by decide) rfl (len1 len0) (x_cons (x_v 1) (x_nil)))))))))

theorem D_numbers_of_multiples : DefD pg w K mg base 2 "numbers_of_multiples" 2 m_numbers_of_multiples := by
  obtain ⟨f, h⟩ := Aa.anumbers_of_multiples
  exact dOk h sc_numbers_of_multiples rfl (by decide) (fun _ _ _ _ _ _ us hl => match us, hl with | [_, _], _ => rfl) (by
    rintro X ⟨cdv, A, outer, s, H, E, rfl⟩ W F
    exact s_cons (s_set F (i := 2) rfl (by first | exact .inl rfl | exact .inr rfl) (x_call F (D_home_step Gg Aa) (by decide) rfl (len1 len0) (x_cons (x_v 0) (x_nil)))) (s_cons (s_own F (i := 3) rfl (by first | exact .inl rfl | exact .inr rfl) x_dictO0) (s_cons (s_set F (i := 4) rfl (by first | exact .inl rfl | exact .inr rfl) (x_v 1)) (s_cons (s_while 1000 F (x_tc (o_ne (hu64 F)) ro2 (x_v 4) (x_v 2)) (s_cons (s_dput F (i := 3) rfl (by first | exact .inl rfl | exact .inr (.inl rfl) | exact .inr (.inr rfl)) (x_v 4) (x_bin o_add ro2 (x_dlen F Gg.n_len (i := 3) rfl (by first | exact .inl rfl | exact .inr (.inl rfl) | exact .inr (.inr rfl))) (x_int))) (s_one (s_set F (i := 4) rfl (by first | exact .inl rfl | exact .inr rfl) (x_call F (D_add_steps Gg Aa) (by decide) rfl (len1 (len1 (len1 len0))) (x_cons (x_v 0) (x_cons (x_v 4) (x_cons (x_v 1) (x_nil))))))))) (s_one (s_ret (x_v 3)))))))

theorem D_integers_below : DefD pg w K mg base 3 "integers_below" 3 m_integers_below := by
  obtain ⟨f, h⟩ := Aa.aintegers_below
  exact dOk h sc_integers_below rfl (by decide) (fun _ _ _ _ _ _ us hl => match us, hl with | [_, _, _], _ => rfl) (by
    rintro X ⟨cdv, A, outer, s, H, E, rfl⟩ W F
    exact s_cons (s_set F (i := 3) rfl (by first | exact .inl rfl | exact .inr rfl) (x_call F (D_numbers_of_multiples Gg Aa) (by decide) rfl (len1 (len1 len0)) (x_cons (x_v 0) (x_cons (x_v 1) (x_nil))))) (s_cons (s_if (x_tnot (x_t (x_callB F Gg.n_all (c_all F.calm) roA bb_all (x_cons (y_lc F (i_seq (x_v 2)) (blkOk_by (own := [(Str.ofString "multiple", 4)]) (by kernel_rfl)) (fun s H C cl fp F => pg_name F.nd (i := 4) rfl (by first | exact .inl rfl | exact .inr rfl)) g_name (by decide) (fun s H C cl fp F => ts_nil) (fun s H C cl fp F => x_dinV F (i := 3) rfl (by first | exact .inl rfl | exact .inr (.inl rfl) | exact .inr (.inr rfl)) (x_v 4))) (x_nil))))) (s_one (s_ret (x_non))) (s_nil)) (s_one (s_ret (x_callT F Gg.n_tuple c_tuple roA bb_tuple (x_cons (y_lc F (i_seq (x_v 2)) (blkOk_by (own := [(Str.ofString "multiple", 4)]) (by kernel_rfl)) (fun s H C cl fp F => pg_name F.nd (i := 4) rfl (by first | exact .inl rfl | exact .inr rfl)) g_name (by decide) (fun s H C cl fp F => ts_nil) (fun s H C cl fp F => x_dix F (i := 3) rfl (by first | exact .inl rfl | exact .inr (.inl rfl) | exact .inr (.inr rfl)) (x_v 4))) (x_nil)))))))

theorem D_told_integers : DefD pg w K mg base 5 "told_integers" 3 (m_told_integers rz) := by
  obtain ⟨f, h⟩ := Aa.atold_integers
  exact dOk h sc_told_integers rfl (by decide) (fun _ _ _ _ _ _ us hl => match us, hl with | [_, _, _], _ => rfl) (by
    rintro X ⟨cdv, A, outer, s, H, E, rfl⟩ W F
    exact s_cons (s_set F (i := 3) rfl (by first | exact .inl rfl | exact .inr rfl) (x_call F (D_integers_below Gg Aa) (by decide) rfl (len1 (len1 (len1 len0))) (x_cons (x_v 0) (x_cons (x_v 1) (x_cons (x_v 2) (x_nil)))))) (s_cons (s_if (x_tw (w_or (x_tc o_is ro2 (x_v 3) (x_non)) (w_or1 (x_tc (o_ge (hu64 F)) ro2 (x_callB F Gg.n_sum (c_sum F.calm) roA bb_sum (x_cons (x_v 3) (x_nil))) (x_call F (D_order Gg Aa) (by decide) rfl (len1 (len1 len0)) (x_cons (x_v 0) (x_cons (x_v 1) (x_nil)))))))) (s_one (s_ret (x_non))) (s_nil)) (s_one (s_ret (x_v 3)))))

theorem D_find_teller : DefD pg w K mg base 6 "find_teller" 3 (m_find_teller rz) := by
  obtain ⟨f, h⟩ := Aa.afind_teller
  exact dOk h sc_find_teller rfl (by decide) (fun _ _ _ _ _ _ us hl => match us, hl with | [_, _, _], _ => rfl) (by
    rintro X ⟨cdv, A, outer, s, H, E, rfl⟩ W F
    exact s_cons (s_for F (i_seq (x_call F (D_all_steps Gg Aa) (by decide) rfl (len1 len0) (x_cons (x_v 0) (x_nil)))) (pg_name F.nd (i := 3) rfl (by first | exact .inl rfl | exact .inr rfl)) g_name (s_cons (s_set F (i := 4) rfl (by first | exact .inl rfl | exact .inr rfl) (x_call F (D_told_integers Gg Aa) (by decide) rfl (len1 (len1 (len1 len0))) (x_cons (x_v 0) (x_cons (x_v 3) (x_cons (x_v 1) (x_nil)))))) (s_one (s_if (x_tw (w_and (x_tc o_isNot ro2 (x_v 4) (x_non)) (w_and1 (x_tc (o_le (hu64 F)) ro2 (x_callB F Gg.n_sum (c_sum F.calm) roA bb_sum (x_cons (x_v 4) (x_nil))) (x_v 2))))) (s_one (s_ret (x_tup (x_cons (x_v 3) (x_cons (x_v 4) (x_nil)))))) (s_nil))))) (s_one (s_ret (x_non))))

theorem D_least_long : DefD pg w K mg base 1 "least_long" 1 m_least_long := by
  obtain ⟨f, h⟩ := Aa.aleast_long
  exact dOk h sc_least_long rfl (by decide) (fun _ _ _ _ _ _ us hl => match us, hl with | [_], _ => rfl) (by
    rintro X ⟨cdv, A, outer, s, H, E, rfl⟩ W F
    exact s_one (s_ret (x_bin o_add ro2 (x_bin o_div ro2 (x_v 0) (x_int)) (x_int))))

theorem D_long_teller : DefD pg w K mg base 7 "long_teller" 2 (m_long_teller rz) := by
  obtain ⟨f, h⟩ := Aa.along_teller
  exact dOk h sc_long_teller rfl (by decide) (fun _ _ _ _ _ _ us hl => match us, hl with | [_, _], _ => rfl) (by
    rintro X ⟨cdv, A, outer, s, H, E, rfl⟩ W F
    exact s_cons (s_expr (x_call F (D_check_places Gg Aa) (by decide) rfl (len1 len0) (x_cons (x_v 0) (x_nil)))) (s_cons (s_expr (x_call F (D_check_long_row Gg Aa) (by decide) rfl (len1 (len1 (len1 len0))) (x_cons (x_v 0) (x_cons (x_v 1) (x_cons (x_call F (D_least_long Gg Aa) (by decide) rfl (len1 len0) (x_cons (x_v 0) (x_nil))) (x_nil)))))) (s_one (s_ret (x_call F (D_find_teller Gg Aa) (by decide) rfl (len1 (len1 (len1 len0))) (x_cons (x_tup (x_cons (x_v 0) (x_nil))) (x_cons (x_v 1) (x_cons (x_v 0) (x_nil)))))))))

theorem D_count_partitions : DefD pg w K mg base 1 "count_partitions" 1 m_count_partitions := by
  obtain ⟨f, h⟩ := Aa.acount_partitions
  exact dOk h sc_count_partitions rfl (by decide) (fun _ _ _ _ _ _ us hl => match us, hl with | [_], _ => rfl) (by
    rintro X ⟨cdv, A, outer, s, H, E, rfl⟩ W F
    exact s_cons (s_own F (i := 1) rfl (by first | exact .inl rfl | exact .inr rfl) (x_catO (x_lst (x_cons (x_int) (x_nil))) (x_bin o_mul ro2 (x_lst (x_cons (x_int) (x_nil))) (x_v 0)))) (s_cons (s_for F (i_rng2 F Gg.n_range (x_cons (x_int) (x_cons (x_bin o_add ro2 (x_v 0) (x_int)) (x_nil)))) (pg_name F.nd (i := 2) rfl (by first | exact .inl rfl | exact .inr rfl)) g_name (s_one (s_for F (i_rng2 F Gg.n_range (x_cons (x_v 2) (x_cons (x_bin o_add ro2 (x_v 0) (x_int)) (x_nil)))) (pg_name F.nd (i := 3) rfl (by first | exact .inl rfl | exact .inr rfl)) g_name (s_one (s_lset (i := 1) rfl (by first | exact .inl rfl | exact .inr (.inl rfl) | exact .inr (.inr rfl)) (x_v 3) (x_bin o_add ro2 (x_lix (i := 1) rfl (by first | exact .inl rfl | exact .inr (.inl rfl) | exact .inr (.inr rfl)) (x_v 3)) (x_lix (i := 1) rfl (by first | exact .inl rfl | exact .inr (.inl rfl) | exact .inr (.inr rfl)) (x_bin o_sub ro2 (x_v 3) (x_v 2))))))))) (s_one (s_ret (x_v 1)))))

theorem D_units : DefD pg w K mg base 1 "units" 1 m_units := by
  obtain ⟨f, h⟩ := Aa.aunits
  exact dOk h sc_units rfl (by decide) (fun _ _ _ _ _ _ us hl => match us, hl with | [_], _ => rfl) (by
    rintro X ⟨cdv, A, outer, s, H, E, rfl⟩ W F
    exact s_one (s_ret (y_lc F (i_rng2 F Gg.n_range (x_cons (x_int) (x_cons (x_v 0) (x_nil)))) (blkOk_by (own := [(Str.ofString "number", 1)]) (by kernel_rfl)) (fun s H C cl fp F => pg_name F.nd (i := 1) rfl (by first | exact .inl rfl | exact .inr rfl)) g_name (by decide) (fun s H C cl fp F => ts_one (x_tc (o_eq (hu64 F)) ro2 (x_bfun F Gg.b_gcd c_gcd roA (x_cons (x_v 1) (x_cons (x_v 0) (x_nil)))) (x_int))) (fun s H C cl fp F => x_v 1))))

theorem D_count_long : DefD pg w K mg base 4 "count_long" 2 (m_count_long rz) := by
  obtain ⟨f, h⟩ := Aa.acount_long
  exact dOk h sc_count_long rfl (by decide) (fun _ _ _ _ _ _ us hl => match us, hl with | [_, _], _ => rfl) (by
    rintro X ⟨cdv, A, outer, s, H, E, rfl⟩ W F
    exact s_cons (s_expr (x_call F (D_check_places Gg Aa) (by decide) rfl (len1 len0) (x_cons (x_v 0) (x_nil)))) (s_cons (s_expr (x_call F (D_check_steps Gg Aa) (by decide) rfl (len1 (len1 len0)) (x_cons (x_v 1) (x_cons (x_call F (D_least_long Gg Aa) (by decide) rfl (len1 len0) (x_cons (x_v 0) (x_nil))) (x_nil))))) (s_cons (s_if (x_tc (o_ge (hu64 F)) ro2 (x_v 1) (x_v 0)) (s_one (s_ret (x_int))) (s_nil)) (s_one (s_ret (x_bin o_mul ro2 (x_callB F Gg.n_len c_len roA bb_len (x_cons (x_call F (D_units Gg Aa) (by decide) rfl (len1 len0) (x_cons (x_v 0) (x_nil))) (x_nil))) (x_callB F Gg.n_sum (c_sum F.calm) roA bb_sum (x_cons (x_call F (D_count_partitions Gg Aa) (by decide) rfl (len1 len0) (x_cons (x_bin o_sub ro2 (x_bin o_sub ro2 (x_v 0) (x_int)) (x_v 1)) (x_nil))) (x_nil)))))))))

theorem D_check_rows : DefD pg w K mg base 1 "check_rows" 1 (m_check_rows rz) := by
  obtain ⟨f, h⟩ := Aa.acheck_rows
  exact dOk h sc_check_rows rfl (by decide) (fun _ _ _ _ _ _ us hl => match us, hl with | [_], _ => rfl) (by
    rintro X ⟨cdv, A, outer, s, H, E, rfl⟩ W F
    exact s_one (s_if (x_tc (o_gt (hu64 F)) ro2 (x_v 0) (x_gint F Gg.i_MOST_ROWS)) (s_one (s_no)) (s_nil)))

theorem D_list_partitions : DefD pg w K mg base 1 "list_partitions" 1 m_list_partitions := by
  obtain ⟨f, h⟩ := Aa.alist_partitions
  exact dOk h sc_list_partitions rfl (by decide) (fun _ _ _ _ _ _ us hl => match us, hl with | [_], _ => rfl) (by
    rintro X ⟨cdv, A, outer, s, H, E, rfl⟩ W F
    exact s_cons (s_own F (i := 1) rfl (by first | exact .inl rfl | exact .inr rfl) (x_catO (x_lst (x_cons (x_lst (x_cons (x_tup (x_nil)) (x_nil))) (x_nil))) (y_lc F (i_rng1 F Gg.n_range (x_cons (x_v 0) (x_nil))) (blkOk_by (own := [(Str.ofString "_", 4)]) (by kernel_rfl)) (fun s H C cl fp F => pg_name F.nd (i := 4) rfl (by first | exact .inl rfl | exact .inr rfl)) g_name (by decide) (fun s H C cl fp F => ts_nil) (fun s H C cl fp F => x_lst (x_nil))))) (s_cons (s_for F (i_rng2 F Gg.n_range (x_cons (x_int) (x_cons (x_bin o_add ro2 (x_v 0) (x_int)) (x_nil)))) (pg_name F.nd (i := 2) rfl (by first | exact .inl rfl | exact .inr rfl)) g_name (s_one (s_for F (i_rng2 F Gg.n_range (x_cons (x_v 2) (x_cons (x_bin o_add ro2 (x_v 0) (x_int)) (x_nil)))) (pg_name F.nd (i := 3) rfl (by first | exact .inl rfl | exact .inr rfl)) g_name (s_one (s_lset (i := 1) rfl (by first | exact .inl rfl | exact .inr (.inl rfl) | exact .inr (.inr rfl)) (x_v 3) (x_bin o_add ro2 (x_lix (i := 1) rfl (by first | exact .inl rfl | exact .inr (.inl rfl) | exact .inr (.inr rfl)) (x_v 3)) (y_lc F (i_seq (x_lix (i := 1) rfl (by first | exact .inl rfl | exact .inr (.inl rfl) | exact .inr (.inr rfl)) (x_bin o_sub ro2 (x_v 3) (x_v 2)))) (blkOk_by (own := [(Str.ofString "parts", 5)]) (by kernel_rfl)) (fun s H C cl fp F => pg_name F.nd (i := 5) rfl (by first | exact .inl rfl | exact .inr rfl)) g_name (by decide) (fun s H C cl fp F => ts_nil) (fun s H C cl fp F => x_tup (x_star (x_v 5) (x_cons (x_v 2) (x_nil))))))))))) (s_one (s_ret (x_v 1)))))

theorem D_told_row : DefD pg w K mg base 1 "told_row" 4 m_told_row := by
  obtain ⟨f, h⟩ := Aa.atold_row
  exact dOk h sc_told_row rfl (by decide) (fun _ _ _ _ _ _ us hl => match us, hl with | [_, _, _, _], _ => rfl) (by
    rintro X ⟨cdv, A, outer, s, H, E, rfl⟩ W F
    exact s_cons (s_set F (i := 4) rfl (by first | exact .inl rfl | exact .inr rfl) (x_bin o_add ro2 (x_bin o_mul ro2 (x_lst (x_cons (x_tup (x_cons (x_v 2) (x_nil))) (x_nil))) (x_bin o_sub ro2 (x_v 1) (x_callB F Gg.n_len c_len roA bb_len (x_cons (x_v 3) (x_nil))))) (y_lc F (i_seq (x_v 3)) (blkOk_by (own := [(Str.ofString "part", 5)]) (by kernel_rfl)) (fun s H C cl fp F => pg_name F.nd (i := 5) rfl (by first | exact .inl rfl | exact .inr rfl)) g_name (by decide) (fun s H C cl fp F => ts_nil) (fun s H C cl fp F => x_tup (x_cons (x_bin o_mod ro2 (x_bin o_mul ro2 (x_v 2) (x_bin o_add ro2 (x_v 5) (x_int))) (x_v 0)) (x_nil)))))) (s_one (s_ret (x_callT F Gg.n_tuple c_tuple roA bb_tuple (x_cons (x_callB F Gg.n_sorted (c_sorted F.calm (hu64 F)) roA bb_sorted (x_cons (x_v 4) (x_nil))) (x_nil))))))

theorem D_told_rows : DefD pg w K mg base 2 "told_rows" 3 m_told_rows := by
  obtain ⟨f, h⟩ := Aa.atold_rows
  exact dOk h sc_told_rows rfl (by decide) (fun _ _ _ _ _ _ us hl => match us, hl with | [_, _, _], _ => rfl) (by
    rintro X ⟨cdv, A, outer, s, H, E, rfl⟩ W F
    exact s_cons (z_lc2 F (i := 3) rfl rfl (sw_true rfl rfl rfl (by decide +kernel)) (vs1 := [5]) (i_seq (x_call F (D_units Gg Aa) (by decide) rfl (len1 len0) (x_cons (x_v 0) (x_nil)))) (blkOk_by (own := [(Str.ofString "unit", 4), (Str.ofString "parts", 5)]) (by kernel_rfl)) (by decide) (fun s H C cl fp F => pg_name F.nd (i := 4) rfl (by first | exact .inl rfl | exact .inr rfl)) g_name (by decide) (fun s H C cl fp F => ts_nil) (fun s H C cl fp F => i_seq (x_v 2)) (fun s H C cl fp F => pg_name F.nd (i := 5) rfl (by first | exact .inl rfl | exact .inr rfl)) g_name (by decide) (fun s H C cl fp F => ts_nil) (fun s H C cl fp F => x_call F (D_told_row Gg Aa) (by decide) rfl (len1 (len1 (len1 (len1 len0)))) (x_cons (x_v 0) (x_cons (x_v 1) (x_cons (x_v 4) (x_cons (x_v 5) (x_nil))))))) (s_one (s_ret (x_callT F Gg.n_tuple c_tuple roA bb_tuple (x_cons (x_callB F Gg.n_sorted (c_sorted F.calm (hu64 F)) roA bb_sorted (x_cons (x_v 3) (x_nil))) (x_nil))))))

theorem D_long_rows : DefD pg w K mg base 5 "long_rows" 2 (m_long_rows rz) := by
  obtain ⟨f, h⟩ := Aa.along_rows
  exact dOk h sc_long_rows rfl (by decide) (fun _ _ _ _ _ _ us hl => match us, hl with | [_, _], _ => rfl) (by
    rintro X ⟨cdv, A, outer, s, H, E, rfl⟩ W F
    exact s_cons (s_expr (x_call F (D_check_rows Gg Aa) (by decide) rfl (len1 len0) (x_cons (x_call F (D_count_long Gg Aa) (by decide) rfl (len1 (len1 len0)) (x_cons (x_v 0) (x_cons (x_v 1) (x_nil)))) (x_nil)))) (s_cons (s_if (x_tc (o_ge (hu64 F)) ro2 (x_v 1) (x_v 0)) (s_one (s_ret (x_tup (x_nil)))) (s_nil)) (s_cons (s_own F (i := 2) rfl (by first | exact .inl rfl | exact .inr rfl) (x_lstO (x_nil))) (s_cons (s_for F (i_seq (x_call F (D_list_partitions Gg Aa) (by decide) rfl (len1 len0) (x_cons (x_bin o_sub ro2 (x_bin o_sub ro2 (x_v 0) (x_int)) (x_v 1)) (x_nil)))) (pg_name F.nd (i := 3) rfl (by first | exact .inl rfl | exact .inr rfl)) g_name (s_one (s_ext (i := 2) rfl (by first | exact .inl rfl | exact .inr (.inl rfl) | exact .inr (.inr rfl)) (x_v 3) (q := pe_bm PySem.F.plainAttrs_list PySem.F.slot_list_extend PySem.F.type_list_extend mt_extend (pe_var (i := 2) rfl (by first | exact .inl rfl | exact .inr (.inl rfl) | exact .inr (.inr rfl))) (pa_cons (x_v 3) pa_nil))))) (s_one (s_ret (x_call F (D_told_rows Gg Aa) (by decide) rfl (len1 (len1 (len1 len0))) (x_cons (x_v 0) (x_cons (x_v 1) (x_cons (x_v 2) (x_nil)))))))))))

theorem D__law_taken : DefW pg w K mg base 1 "_law_taken" 1 m__law_taken := by
  obtain ⟨f, h⟩ := Aa.a_law_taken
  exact wOk h sc__law_taken rfl (by decide) (fun _ _ _ _ _ _ us hl => match us, hl with | [_, _], _ => rfl) (by
    rintro X ⟨cdv, A, outer, s, H, E, rfl⟩ W F
    exact s_cons (s_if (x_tc (o_gt (hu64 F)) ro2 (x_row 0 3 rfl (by first | exact .inl rfl | exact .inr (.inl rfl) | exact .inr (.inr rfl))) (x_int)) (s_cons (s_set F (i := 2) rfl (by first | exact .inl rfl | exact .inr rfl) (x_bin o_mod ro2 (x_callT F Gg.n_int c_int roA bb_int (x_cons (x_row 0 3 rfl (by first | exact .inl rfl | exact .inr (.inl rfl) | exact .inr (.inr rfl))) (x_nil))) (x_v 1))) (s_cons (s_row 0 3 rfl (by first | exact .inl rfl | exact .inr (.inl rfl) | exact .inr (.inr rfl)) (x_bin o_div ro2 (x_row 0 3 rfl (by first | exact .inl rfl | exact .inr (.inl rfl) | exact .inr (.inr rfl))) (x_v 1))) (s_one (s_ret (x_v 2))))) (s_nil)) (s_cons (s_row 0 1 rfl (by first | exact .inl rfl | exact .inr (.inl rfl) | exact .inr (.inr rfl)) (x_bin o_add ro2 (x_row 0 1 rfl (by first | exact .inl rfl | exact .inr (.inl rfl) | exact .inr (.inr rfl))) (x_int))) (s_cons (s_if (x_tc (o_gt (hu64 F)) ro2 (x_row 0 1 rfl (by first | exact .inl rfl | exact .inr (.inl rfl) | exact .inr (.inr rfl))) (x_slen F Gg.n_len (x_scr 0 rfl (by first | exact .inl rfl | exact .inr (.inl rfl) | exact .inr (.inr rfl))))) (s_cons (s_row 0 2 rfl (by first | exact .inl rfl | exact .inr (.inl rfl) | exact .inr (.inr rfl)) (x_bin o_mod ro2 (x_callT F Gg.n_int c_int roA bb_int (x_cons (x_bin o_add ro2 (x_bin o_mul ro2 (x_row 0 2 rfl (by first | exact .inl rfl | exact .inr (.inl rfl) | exact .inr (.inr rfl))) (x_int)) (x_int)) (x_nil))) (x_int))) (s_one (s_ret (x_bin o_mod ro2 (x_callT F Gg.n_int c_int roA bb_int (x_cons (x_bin o_div ro2 (x_row 0 2 rfl (by first | exact .inl rfl | exact .inr (.inl rfl) | exact .inr (.inr rfl))) (x_int)) (x_nil))) (x_v 1))))) (s_nil)) (s_cons (s_set F (i := 3) rfl (by first | exact .inl rfl | exact .inr rfl) (x_sat F (x_scr 0 rfl (by first | exact .inl rfl | exact .inr (.inl rfl) | exact .inr (.inr rfl))) (x_bin o_sub ro2 (x_row 0 1 rfl (by first | exact .inl rfl | exact .inr (.inl rfl) | exact .inr (.inr rfl))) (x_int)))) (s_cons (s_row 0 2 rfl (by first | exact .inl rfl | exact .inr (.inl rfl) | exact .inr (.inr rfl)) (x_bin o_mod ro2 (x_callT F Gg.n_int c_int roA bb_int (x_cons (x_bin o_add ro2 (x_bin o_add ro2 (x_bin o_mul ro2 (x_row 0 2 rfl (by first | exact .inl rfl | exact .inr (.inl rfl) | exact .inr (.inr rfl))) (x_int)) (x_v 3)) (x_int)) (x_nil))) (x_int))) (s_cons (s_if (x_tc (o_ge (hu64 F)) ro2 (x_v 3) (x_bin o_pow ro2 (x_int) (x_int))) (s_one (s_row 0 3 rfl (by first | exact .inl rfl | exact .inr (.inl rfl) | exact .inr (.inr rfl)) (x_bin o_div ro2 (x_v 3) (x_v 1)))) (s_nil)) (s_one (s_ret (x_bin o_mod ro2 (x_callT F Gg.n_int c_int roA bb_int (x_cons (x_v 3) (x_nil))) (x_v 1))))))))))

theorem D__law_pick : DefW pg w K mg base 2 "_law_pick" 1 m__law_pick := by
  obtain ⟨f, h⟩ := Aa.a_law_pick
  exact wOk h sc__law_pick rfl (by decide) (fun _ _ _ _ _ _ us hl => match us, hl with | [_, _], _ => rfl) (by
    rintro X ⟨cdv, A, outer, s, H, E, rfl⟩ W F
    exact s_one (s_ret (x_ix o_ix ro2 (x_v 1) (x_callW F (i := 0) (D__law_taken Gg Aa) (by decide) rfl (by first | exact .inl rfl | exact .inr (.inl rfl) | exact .inr (.inr rfl)) (len1 len0) (x_cons (x_callB F Gg.n_len c_len roA bb_len (x_cons (x_v 1) (x_nil))) (x_nil))))))

theorem D__law_alike (j : Nat) : DefD pg w K mg base (j + 1) "_law_alike" 2 (m__law_alike j) := by
  obtain ⟨f, h⟩ := Aa.a_law_alike
  induction j with
  | zero => exact dNo h sc__law_alike rfl (fun _ _ _ _ _ _ us hl => match us, hl with | [_, _], _ => rfl)
  | succ j Dm => exact dOk h sc__law_alike rfl (by decide) (fun _ _ _ _ _ _ us hl => match us, hl with | [_, _], _ => rfl) (by
      rintro X ⟨cdv, A, outer, s, H, E, rfl⟩ W F
      exact s_cons (s_if (x_t (x_isi2 F Gg.n_isinstance Gg.n_tuple bb_tuple Gg.n_list bb_list (T := .tuple) (U := .list) (x_v 1))) (s_cons (s_if (x_tw (w_or (x_tnot (x_t (x_isi2 F Gg.n_isinstance Gg.n_tuple bb_tuple Gg.n_list bb_list (T := .tuple) (U := .list) (x_v 0)))) (w_or1 (x_tc (o_ne (hu64 F)) ro2 (x_isi F Gg.n_isinstance Gg.n_list bb_list (T := .list) (x_v 0)) (x_isi F Gg.n_isinstance Gg.n_list bb_list (T := .list) (x_v 1)))))) (s_one (s_ret (x_bl))) (s_nil)) (s_cons (s_if (x_tc (o_ne (hu64 F)) ro2 (x_callB F Gg.n_len c_len roA bb_len (x_cons (x_v 0) (x_nil))) (x_callB F Gg.n_len c_len roA bb_len (x_cons (x_v 1) (x_nil)))) (s_one (s_ret (x_bl))) (s_nil)) (s_one (s_ret (x_cmp (o_eq (hu64 F)) ro2 (y_lc F (i_rng1 F Gg.n_range (x_cons (x_callB F Gg.n_len c_len roA bb_len (x_cons (x_v 1) (x_nil))) (x_nil))) (blkOk_by (own := [(Str.ofString "k", 2)]) (by kernel_rfl)) (fun s H C cl fp F => pg_name F.nd (i := 2) rfl (by first | exact .inl rfl | exact .inr rfl)) g_name (by decide) (fun s H C cl fp F => ts_one (x_tnot (x_t (x_call F Dm (Nat.le_refl _) rfl (len1 (len1 len0)) (x_cons (x_ix o_ix ro2 (x_v 0) (x_v 2)) (x_cons (x_ix o_ix ro2 (x_v 1) (x_v 2)) (x_nil))))))) (fun s H C cl fp F => x_v 2)) (x_lst (x_nil))))))) (s_nil)) (s_cons (s_if (x_tw (w_or (x_tc o_is ro2 (x_v 1) (x_non)) (w_or1 (x_t (x_isi F Gg.n_isinstance Gg.n_str bb_str (T := .str) (x_v 1)))))) (s_one (s_ret (v_and (x_cmp (o_eq (hu64 F)) ro2 (x_v 0) (x_v 1)) (v_one (x_cmp (o_eq (hu64 F)) ro2 (x_isi F Gg.n_isinstance Gg.n_str bb_str (T := .str) (x_v 0)) (x_isi F Gg.n_isinstance Gg.n_str bb_str (T := .str) (x_v 1))))))) (s_nil)) (s_one (s_ret (v_and (x_isi F Gg.n_isinstance Gg.n_int bb_int (T := .int) (x_v 0)) (v_and (x_cmp (o_eq (hu64 F)) ro2 (x_isi F Gg.n_isinstance Gg.n_bool bb_bool (T := .bool) (x_v 0)) (x_isi F Gg.n_isinstance Gg.n_bool bb_bool (T := .bool) (x_v 1))) (v_one (x_cmp (o_eq (hu64 F)) ro2 (x_v 0) (x_v 1)))))))))

theorem D__law_added : DefD pg w K mg base 1 "_law_added" 3 m__law_added := by
  obtain ⟨f, h⟩ := Aa.a_law_added
  exact dOk h sc__law_added rfl (by decide) (fun _ _ _ _ _ _ us hl => match us, hl with | [_, _, _], _ => rfl) (by
    rintro X ⟨cdv, A, outer, s, H, E, rfl⟩ W F
    exact s_one (s_ret (x_callT F Gg.n_tuple c_tuple roA bb_tuple (x_cons (y_lc F (i_rng1 F Gg.n_range (x_cons (x_callB F Gg.n_len c_len roA bb_len (x_cons (x_v 0) (x_nil))) (x_nil))) (blkOk_by (own := [(Str.ofString "at", 3)]) (by kernel_rfl)) (fun s H C cl fp F => pg_name F.nd (i := 3) rfl (by first | exact .inl rfl | exact .inr rfl)) g_name (by decide) (fun s H C cl fp F => ts_nil) (fun s H C cl fp F => x_bin o_mod ro2 (x_bin o_add ro2 (x_ix o_ix ro2 (x_v 1) (x_v 3)) (x_ix o_ix ro2 (x_v 2) (x_v 3))) (x_ix o_ix ro2 (x_v 0) (x_v 3)))) (x_nil)))))

theorem D__law_home : DefD pg w K mg base 1 "_law_home" 1 m__law_home := by
  obtain ⟨f, h⟩ := Aa.a_law_home
  exact dOk h sc__law_home rfl (by decide) (fun _ _ _ _ _ _ us hl => match us, hl with | [_], _ => rfl) (by
    rintro X ⟨cdv, A, outer, s, H, E, rfl⟩ W F
    exact s_one (s_ret (x_bin o_mul ro2 (x_tup (x_cons (x_int) (x_nil))) (x_callB F Gg.n_len c_len roA bb_len (x_cons (x_v 0) (x_nil))))))

theorem D__law_sums : DefD pg w K mg base 2 "_law_sums" 2 m__law_sums := by
  obtain ⟨f, h⟩ := Aa.a_law_sums
  exact dOk h sc__law_sums rfl (by decide) (fun _ _ _ _ _ _ us hl => match us, hl with | [_, _], _ => rfl) (by
    rintro X ⟨cdv, A, outer, s, H, E, rfl⟩ W F
    exact s_cons (s_set F (i := 2) rfl (by first | exact .inl rfl | exact .inr rfl) (x_lst (x_nil))) (s_cons (s_for F (i_seq (x_v 1)) (pg_name F.nd (i := 3) rfl (by first | exact .inl rfl | exact .inr rfl)) g_name (s_one (s_set F (i := 2) rfl (by first | exact .inl rfl | exact .inr rfl) (x_sortSet F Gg.n_sorted (x_set F Gg.n_set (x_bin o_add ro2 (x_bin o_add ro2 (x_v 2) (x_lst (x_cons (x_v 3) (x_nil)))) (y_lc F (i_seq (x_v 2)) (blkOk_by (own := [(Str.ofString "one", 4)]) (by kernel_rfl)) (fun s H C cl fp F => pg_name F.nd (i := 4) rfl (by first | exact .inl rfl | exact .inr rfl)) g_name (by decide) (fun s H C cl fp F => ts_nil) (fun s H C cl fp F => x_call F (D__law_added Gg Aa) (by decide) rfl (len1 (len1 (len1 len0))) (x_cons (x_v 0) (x_cons (x_v 4) (x_cons (x_v 3) (x_nil)))))))))))) (s_one (s_ret (x_v 2)))))

theorem D__law_steps : DefD pg w K mg base 1 "_law_steps" 1 m__law_steps := by
  obtain ⟨f, h⟩ := Aa.a_law_steps
  exact dOk h sc__law_steps rfl (by decide) (fun _ _ _ _ _ _ us hl => match us, hl with | [_], _ => rfl) (by
    rintro X ⟨cdv, A, outer, s, H, E, rfl⟩ W F
    exact s_cons (s_set F (i := 1) rfl (by first | exact .inl rfl | exact .inr rfl) (x_lst (x_cons (x_tup (x_nil)) (x_nil)))) (s_cons (s_for F (i_seq (x_v 0)) (pg_name F.nd (i := 2) rfl (by first | exact .inl rfl | exact .inr rfl)) g_name (s_cons (s_set F (i := 3) rfl (by first | exact .inl rfl | exact .inr rfl) (x_lst (x_nil))) (s_cons (s_for F (i_seq (x_v 1)) (pg_name F.nd (i := 4) rfl (by first | exact .inl rfl | exact .inr rfl)) g_name (s_one (s_set F (i := 3) rfl (by first | exact .inl rfl | exact .inr rfl) (x_bin o_add ro2 (x_v 3) (y_lc F (i_rng1 F Gg.n_range (x_cons (x_v 2) (x_nil))) (blkOk_by (own := [(Str.ofString "one", 5)]) (by kernel_rfl)) (fun s H C cl fp F => pg_name F.nd (i := 5) rfl (by first | exact .inl rfl | exact .inr rfl)) g_name (by decide) (fun s H C cl fp F => ts_nil) (fun s H C cl fp F => x_bin o_add ro2 (x_v 4) (x_tup (x_cons (x_v 5) (x_nil))))))))) (s_one (s_set F (i := 1) rfl (by first | exact .inl rfl | exact .inr rfl) (x_v 3)))))) (s_one (s_ret (x_v 1)))))

theorem D__law_lists : DefD pg w K mg base 1 "_law_lists" 2 m__law_lists := by
  obtain ⟨f, h⟩ := Aa.a_law_lists
  exact dOk h sc__law_lists rfl (by decide) (fun _ _ _ _ _ _ us hl => match us, hl with | [_, _], _ => rfl) (by
    rintro X ⟨cdv, A, outer, s, H, E, rfl⟩ W F
    exact s_cons (s_set F (i := 2) rfl (by first | exact .inl rfl | exact .inr rfl) (x_lst (x_cons (x_tup (x_nil)) (x_nil)))) (s_cons (s_for F (i_rng1 F Gg.n_range (x_cons (x_v 1) (x_nil))) (pg_name F.nd (i := 3) rfl (by first | exact .inl rfl | exact .inr rfl)) g_name (s_cons (s_set F (i := 4) rfl (by first | exact .inl rfl | exact .inr rfl) (x_lst (x_nil))) (s_cons (s_for F (i_seq (x_v 2)) (pg_name F.nd (i := 5) rfl (by first | exact .inl rfl | exact .inr rfl)) g_name (s_one (s_set F (i := 4) rfl (by first | exact .inl rfl | exact .inr rfl) (x_bin o_add ro2 (x_v 4) (y_lc F (i_seq (x_v 0)) (blkOk_by (own := [(Str.ofString "step", 6)]) (by kernel_rfl)) (fun s H C cl fp F => pg_name F.nd (i := 6) rfl (by first | exact .inl rfl | exact .inr rfl)) g_name (by decide) (fun s H C cl fp F => ts_one (x_tw (w_or (x_tc (o_eq (hu64 F)) ro2 (x_v 5) (x_tup (x_nil))) (w_or1 (x_tc (o_ge (hu64 F)) ro2 (x_v 6) (x_ix o_ix ro2 (x_v 5) (x_neg (x_int)))))))) (fun s H C cl fp F => x_bin o_add ro2 (x_v 5) (x_tup (x_cons (x_v 6) (x_nil))))))))) (s_one (s_set F (i := 2) rfl (by first | exact .inl rfl | exact .inr rfl) (x_v 4)))))) (s_one (s_ret (x_v 2)))))

theorem B_law {f : Addr} : Bod pg w K mg base "law" s_law f N_law 7 g_law := by
  rintro X ⟨cdv, A, outer, s, H, E, rfl⟩ W F
  exact s_cons (s_mkRow 1 0 F rfl (by first | exact .inl rfl | exact .inr rfl) rfl (by first | exact .inl rfl | exact .inr (.inl rfl) | exact .inr (.inr rfl))) (s_cons (s_if (x_tc (o_gt (hu64 F)) ro2 (x_callW F (i := 1) (D__law_taken Gg Aa) (by decide) rfl (by first | exact .inl rfl | exact .inr (.inl rfl) | exact .inr (.inr rfl)) (len1 len0) (x_cons (x_int) (x_nil))) (x_int)) (s_cons (s_set F (i := 2) rfl (by first | exact .inl rfl | exact .inr rfl) (x_bin o_add ro2 (x_int) (x_callW F (i := 1) (D__law_taken Gg Aa) (by decide) rfl (by first | exact .inl rfl | exact .inr (.inl rfl) | exact .inr (.inr rfl)) (len1 len0) (x_cons (x_ite (x_tc (o_gt (hu64 F)) ro2 (x_callW F (i := 1) (D__law_taken Gg Aa) (by decide) rfl (by first | exact .inl rfl | exact .inr (.inl rfl) | exact .inr (.inr rfl)) (len1 len0) (x_cons (x_int) (x_nil))) (x_int)) (x_int) (x_int)) (x_nil))))) (s_cons (s_set F (i := 3) rfl (by first | exact .inl rfl | exact .inr rfl) (x_bin o_add ro2 (x_bin o_add ro2 (x_bin o_div ro2 (x_v 2) (x_int)) (x_int)) (x_callW F (i := 1) (D__law_taken Gg Aa) (by decide) rfl (by first | exact .inl rfl | exact .inr (.inl rfl) | exact .inr (.inr rfl)) (len1 len0) (x_cons (x_bin o_sub ro2 (x_v 2) (x_bin o_div ro2 (x_v 2) (x_int))) (x_nil))))) (s_cons (s_par3 F (i := 4) (j := 5) (l := 6) rfl rfl rfl (by decide) (by decide) (by decide) (by rfl) (by rfl) (by rfl) (x_cons (y_lc F (i_rng2 F Gg.n_range (x_cons (x_int) (x_cons (x_v 2) (x_nil)))) (blkOk_by (own := [(Str.ofString "one", 10)]) (by kernel_rfl)) (fun s H C cl fp F => pg_name F.nd (i := 10) rfl (by first | exact .inl rfl | exact .inr rfl)) g_name (by decide) (fun s H C cl fp F => ts_nil) (fun s H C cl fp F => x_tup (x_cons (x_v 10) (x_nil)))) (x_cons (x_tup (x_cons (x_v 2) (x_nil))) (x_cons (x_lst (x_nil)) (x_nil)))) (by rfl)) (s_cons (s_for F (i_seq (x_call F (D__law_lists Gg Aa) (by decide) rfl (len1 (len1 len0)) (x_cons (x_v 4) (x_cons (x_v 3) (x_nil))))) (pg_name F.nd (i := 7) rfl (by first | exact .inl rfl | exact .inr rfl)) g_name (s_cons (s_set F (i := 8) rfl (by first | exact .inl rfl | exact .inr rfl) (x_cmp (o_notIn (hu64 F)) ro2 (x_tup (x_cons (x_int) (x_nil))) (x_call F (D__law_sums Gg Aa) (by decide) rfl (len1 (len1 len0)) (x_cons (x_v 5) (x_cons (x_v 7) (x_nil)))))) (s_cons (s_set F (i := 6) rfl (by first | exact .inl rfl | exact .inr rfl) (x_bin o_add ro2 (x_v 6) (x_ite (x_t (x_v 8)) (x_lst (x_cons (x_v 7) (x_nil))) (x_lst (x_nil))))) (s_one (s_if (x_tw (w_and (x_tc (o_eq (hu64 F)) ro2 (x_callW F (i := 1) (D__law_taken Gg Aa) (by decide) rfl (by first | exact .inl rfl | exact .inr (.inl rfl) | exact .inr (.inr rfl)) (len1 len0) (x_cons (x_int) (x_nil))) (x_int)) (w_and1 (x_tc (o_ne (hu64 F)) ro2 (x_cmp o_isNot ro2 (x_call F (D_long_teller Gg Aa) (by decide) rfl (len1 (len1 len0)) (x_cons (x_v 2) (x_cons (x_v 7) (x_nil)))) (x_non)) (x_v 8))))) (s_one (s_ret (x_bl))) (s_nil)))))) (s_one (s_ret (x_call F (D__law_alike Gg Aa 5) (by decide) rfl (len1 (len1 len0)) (x_cons (x_lst (x_cons (x_call F (D_long_rows Gg Aa) (by decide) rfl (len1 (len1 len0)) (x_cons (x_v 2) (x_cons (x_v 3) (x_nil)))) (x_cons (x_call F (D_count_long Gg Aa) (by decide) rfl (len1 (len1 len0)) (x_cons (x_v 2) (x_cons (x_v 3) (x_nil)))) (x_nil)))) (x_cons (x_lst (x_cons (x_callT F Gg.n_tuple c_tuple roA bb_tuple (x_cons (x_v 6) (x_nil))) (x_cons (x_callB F Gg.n_len c_len roA bb_len (x_cons (x_v 6) (x_nil))) (x_nil)))) (x_nil)))))))))) (s_nil)) (s_cons (s_set F (i := 5) rfl (by first | exact .inl rfl | exact .inr rfl) (x_callW F (i := 1) (D__law_pick Gg Aa) (by decide) rfl (by first | exact .inl rfl | exact .inr (.inl rfl) | exact .inr (.inr rfl)) (len1 len0) (x_cons (x_lst (x_cons (x_tup (x_cons (x_int) (x_cons (x_int) (x_nil)))) (x_cons (x_tup (x_cons (x_int) (x_cons (x_int) (x_nil)))) (x_cons (x_tup (x_cons (x_int) (x_cons (x_int) (x_nil)))) (x_cons (x_tup (x_cons (x_int) (x_cons (x_int) (x_cons (x_int) (x_nil))))) (x_cons (x_tup (x_cons (x_int) (x_nil))) (x_cons (x_tup (x_cons (x_int) (x_cons (x_int) (x_nil)))) (x_cons (x_tup (x_cons (x_int) (x_nil))) (x_nil))))))))) (x_nil)))) (s_cons (s_set F (i := 3) rfl (by first | exact .inl rfl | exact .inr rfl) (x_bin o_add ro2 (x_int) (x_callW F (i := 1) (D__law_taken Gg Aa) (by decide) rfl (by first | exact .inl rfl | exact .inr (.inl rfl) | exact .inr (.inr rfl)) (len1 len0) (x_cons (x_int) (x_nil))))) (s_cons (s_for F (i_seq (x_call F (D__law_lists Gg Aa) (by decide) rfl (len1 (len1 len0)) (x_cons (x_cut (x_call F (D__law_steps Gg Aa) (by decide) rfl (len1 len0) (x_cons (x_v 5) (x_nil))) (o_some (x_int)) (o_none)) (x_cons (x_v 3) (x_nil))))) (pg_name F.nd (i := 7) rfl (by first | exact .inl rfl | exact .inr rfl)) g_name (s_cons (s_set F (i := 9) rfl (by first | exact .inl rfl | exact .inr rfl) (x_call F (D__law_sums Gg Aa) (by decide) rfl (len1 (len1 len0)) (x_cons (x_v 5) (x_cons (x_v 7) (x_nil))))) (s_one (s_if (x_tc (o_ne (hu64 F)) ro2 (x_call F (D_has_few Gg Aa) (by decide) rfl (len1 (len1 len0)) (x_cons (x_v 5) (x_cons (x_v 7) (x_nil)))) (v_and (x_cmp (o_notIn (hu64 F)) ro2 (x_call F (D__law_home Gg Aa) (by decide) rfl (len1 len0) (x_cons (x_v 5) (x_nil))) (x_v 9)) (v_one (x_cmp (o_le (hu64 F)) ro2 (x_callB F Gg.n_len c_len roA bb_len (x_cons (x_v 9) (x_nil))) (x_bin o_sub ro2 (x_bin o_mul ro2 (x_int) (x_v 3)) (x_int)))))) (s_one (s_ret (x_bl))) (s_nil))))) (s_one (s_ret (x_bl)))))))
end
end K03
end TK03

section TK03H
set_option Elab.async false
set_option linter.all false
set_option maxRecDepth 100000
set_option maxHeartbeats 0
namespace K03
open PyProof.Rows L2 PySem PySem.Spec Pu Cm
def d_is_integer : He.DefD := ⟨("is_integer", none), "is_integer", "is_integer", defArgs s_is_integer, defBody s_is_integer, defScope s_is_integer, [], []⟩
def d_places_together : He.DefD := ⟨("places_together", none), "places_together", "places_together", defArgs s_places_together, defBody s_places_together, defScope s_places_together, [], []⟩
def d_check_wheels : He.DefD := ⟨("check_wheels", none), "check_wheels", "check_wheels", defArgs s_check_wheels, defBody s_check_wheels, defScope s_check_wheels, [], []⟩
def d_is_step : He.DefD := ⟨("is_step", none), "is_step", "is_step", defArgs s_is_step, defBody s_is_step, defScope s_is_step, [], []⟩
def d_check_step : He.DefD := ⟨("check_step", none), "check_step", "check_step", defArgs s_check_step, defBody s_check_step, defScope s_check_step, [], []⟩
def d_check_row : He.DefD := ⟨("check_row", none), "check_row", "check_row", defArgs s_check_row, defBody s_check_row, defScope s_check_row, [], []⟩
def d_check_number : He.DefD := ⟨("check_number", none), "check_number", "check_number", defArgs s_check_number, defBody s_check_number, defScope s_check_number, [], []⟩
def d_check_places : He.DefD := ⟨("check_places", none), "check_places", "check_places", defArgs s_check_places, defBody s_check_places, defScope s_check_places, [], []⟩
def d_check_steps : He.DefD := ⟨("check_steps", none), "check_steps", "check_steps", defArgs s_check_steps, defBody s_check_steps, defScope s_check_steps, [], []⟩
def d_check_long_row : He.DefD := ⟨("check_long_row", none), "check_long_row", "check_long_row", defArgs s_check_long_row, defBody s_check_long_row, defScope s_check_long_row, [], []⟩
def d_order : He.DefD := ⟨("order", none), "order", "order", defArgs s_order, defBody s_order, defScope s_order, [], []⟩
def d_home_step : He.DefD := ⟨("home_step", none), "home_step", "home_step", defArgs s_home_step, defBody s_home_step, defScope s_home_step, [], []⟩
def d_add_steps : He.DefD := ⟨("add_steps", none), "add_steps", "add_steps", defArgs s_add_steps, defBody s_add_steps, defScope s_add_steps, [], []⟩
def d_all_steps : He.DefD := ⟨("all_steps", none), "all_steps", "all_steps", defArgs s_all_steps, defBody s_all_steps, defScope s_all_steps, [], []⟩
def d_lots_with : He.DefD := ⟨("lots_with", none), "lots_with", "lots_with", defArgs s_lots_with, defBody s_lots_with, defScope s_lots_with, [], []⟩
def d_smallest_lots : He.DefD := ⟨("smallest_lots", none), "smallest_lots", "smallest_lots", defArgs s_smallest_lots, defBody s_smallest_lots, defScope s_smallest_lots, [], []⟩
def d_sums : He.DefD := ⟨("sums", none), "sums", "sums", defArgs s_sums, defBody s_sums, defScope s_sums, [], []⟩
def d_most_few : He.DefD := ⟨("most_few", none), "most_few", "most_few", defArgs s_most_few, defBody s_most_few, defScope s_most_few, [], []⟩
def d_has_few : He.DefD := ⟨("has_few", none), "has_few", "has_few", defArgs s_has_few, defBody s_has_few, defScope s_has_few, [], []⟩
def d_numbers_of_multiples : He.DefD := ⟨("numbers_of_multiples", none), "numbers_of_multiples", "numbers_of_multiples", defArgs s_numbers_of_multiples, defBody s_numbers_of_multiples, defScope s_numbers_of_multiples, [], []⟩
def d_integers_below : He.DefD := ⟨("integers_below", none), "integers_below", "integers_below", defArgs s_integers_below, defBody s_integers_below, defScope s_integers_below, [], []⟩
def d_told_integers : He.DefD := ⟨("told_integers", none), "told_integers", "told_integers", defArgs s_told_integers, defBody s_told_integers, defScope s_told_integers, [], []⟩
def d_find_teller : He.DefD := ⟨("find_teller", none), "find_teller", "find_teller", defArgs s_find_teller, defBody s_find_teller, defScope s_find_teller, [], []⟩
def d_least_long : He.DefD := ⟨("least_long", none), "least_long", "least_long", defArgs s_least_long, defBody s_least_long, defScope s_least_long, [], []⟩
def d_long_teller : He.DefD := ⟨("long_teller", none), "long_teller", "long_teller", defArgs s_long_teller, defBody s_long_teller, defScope s_long_teller, [], []⟩
def d_count_partitions : He.DefD := ⟨("count_partitions", none), "count_partitions", "count_partitions", defArgs s_count_partitions, defBody s_count_partitions, defScope s_count_partitions, [], []⟩
def d_units : He.DefD := ⟨("units", none), "units", "units", defArgs s_units, defBody s_units, defScope s_units, [], []⟩
def d_count_long : He.DefD := ⟨("count_long", none), "count_long", "count_long", defArgs s_count_long, defBody s_count_long, defScope s_count_long, [], []⟩
def d_check_rows : He.DefD := ⟨("check_rows", none), "check_rows", "check_rows", defArgs s_check_rows, defBody s_check_rows, defScope s_check_rows, [], []⟩
def d_list_partitions : He.DefD := ⟨("list_partitions", none), "list_partitions", "list_partitions", defArgs s_list_partitions, defBody s_list_partitions, defScope s_list_partitions, [], []⟩
def d_told_row : He.DefD := ⟨("told_row", none), "told_row", "told_row", defArgs s_told_row, defBody s_told_row, defScope s_told_row, [], []⟩
def d_told_rows : He.DefD := ⟨("told_rows", none), "told_rows", "told_rows", defArgs s_told_rows, defBody s_told_rows, defScope s_told_rows, [], []⟩
def d_long_rows : He.DefD := ⟨("long_rows", none), "long_rows", "long_rows", defArgs s_long_rows, defBody s_long_rows, defScope s_long_rows, [], []⟩
def d__law_taken : He.DefD := ⟨("_law_taken", none), "_law_taken", "_law_taken", defArgs s__law_taken, defBody s__law_taken, defScope s__law_taken, [], []⟩
def d__law_pick : He.DefD := ⟨("_law_pick", none), "_law_pick", "_law_pick", defArgs s__law_pick, defBody s__law_pick, defScope s__law_pick, [], []⟩
def d__law_alike : He.DefD := ⟨("_law_alike", none), "_law_alike", "_law_alike", defArgs s__law_alike, defBody s__law_alike, defScope s__law_alike, [], []⟩
def d__law_added : He.DefD := ⟨("_law_added", none), "_law_added", "_law_added", defArgs s__law_added, defBody s__law_added, defScope s__law_added, [], []⟩
def d__law_home : He.DefD := ⟨("_law_home", none), "_law_home", "_law_home", defArgs s__law_home, defBody s__law_home, defScope s__law_home, [], []⟩
def d__law_sums : He.DefD := ⟨("_law_sums", none), "_law_sums", "_law_sums", defArgs s__law_sums, defBody s__law_sums, defScope s__law_sums, [], []⟩
def d__law_steps : He.DefD := ⟨("_law_steps", none), "_law_steps", "_law_steps", defArgs s__law_steps, defBody s__law_steps, defScope s__law_steps, [], []⟩
def d__law_lists : He.DefD := ⟨("_law_lists", none), "_law_lists", "_law_lists", defArgs s__law_lists, defBody s__law_lists, defScope s__law_lists, [], []⟩
def d_law : He.DefD := ⟨("law", none), "law", "law", defArgs s_law, defBody s_law, defScope s_law, [], []⟩
def fn0 : List He.DefD := [d_is_integer, d_places_together, d_check_wheels, d_is_step, d_check_step, d_check_row, d_check_number, d_check_places, d_check_steps, d_check_long_row, d_order, d_home_step, d_add_steps, d_all_steps, d_lots_with, d_smallest_lots, d_sums, d_most_few, d_has_few, d_numbers_of_multiples, d_integers_below, d_told_integers, d_find_teller, d_least_long, d_long_teller, d_count_partitions, d_units, d_count_long, d_check_rows, d_list_partitions, d_told_row, d_told_rows, d_long_rows, d__law_taken, d__law_pick, d__law_alike, d__law_added, d__law_home, d__law_sums, d__law_steps]
def fa0 : List He.Fa := [.glo "is_integer", .glo "places_together", .glo "check_wheels", .glo "is_step", .glo "check_step", .glo "check_row", .glo "check_number", .glo "check_places", .glo "check_steps", .glo "check_long_row", .glo "order", .glo "home_step", .glo "add_steps", .glo "all_steps", .glo "lots_with", .glo "smallest_lots", .glo "sums", .glo "most_few", .glo "has_few", .glo "numbers_of_multiples", .glo "integers_below", .glo "told_integers", .glo "find_teller", .glo "least_long", .glo "long_teller", .glo "count_partitions", .glo "units", .glo "count_long", .glo "check_rows", .glo "list_partitions", .glo "told_row", .glo "told_rows", .glo "long_rows", .glo "_law_taken", .glo "_law_pick", .glo "_law_alike", .glo "_law_added", .glo "_law_home", .glo "_law_sums", .glo "_law_steps", .free "all", .free "bool", .free "enumerate", .free "int", .free "isinstance", .free "len", .free "list", .free "range", .free "reversed", .free "set", .free "sorted", .free "str", .free "sum", .free "tuple", .free "zip", .int "LEAST_PLACES" 2, .int "MOST_PLACES" 400, .int "MOST_ROWS" 5000, .int "MOST_STEPS" 40, .int "MOST_STEPS_TOLD" 400, .int "MOST_WHEELS" 3]
def fn1 : List He.DefD := [d__law_lists, d_law]
def fa1 : List He.Fa := [.glo "_law_lists", .glo "law"]
abbrev cs : List Ch := [(fa0, fn0), (fa1, fn1)]
abbrev R : PySem.W.OpenRow := PySem.W.OpenLaw.row PySem.Challenge.rw_nolothome_k03_whole_all_rows
def fb : List (Str × String) := [("gcd", "math.gcd"), ("lcm", "math.lcm")]
abbrev hk : PySem.W.Hook := hookB 2 cs fb
def ob (s : PySem.W.SharedT) : AlB := obsB 2 cs fb (HandSHeadRun.getT s)
theorem ob_eq (s : PySem.W.SharedT) : ob s = hk.obs s.abs := obsB_eq (HandSHeadRun.getT_eq s)
def lo0 : List Str := ["StepError", "BadWheels", "BadStep", "BadRow", "BadNumber", "TooMany", "MOST_WHEELS", "LEAST_PLACES", "MOST_PLACES", "MOST_STEPS", "MOST_STEPS_TOLD", "is_integer", "places_together", "check_wheels", "is_step", "check_step", "check_row", "check_number", "check_places", "check_steps", "check_long_row", "order", "home_step", "add_steps", "all_steps", "sums", "smallest_lots", "lots_with", "has_few", "most_few"]
def lo1 : List Str := ["find_teller", "told_integers", "integers_below", "numbers_of_multiples", "MOST_ROWS", "long_teller", "count_long", "long_rows", "least_long", "check_rows", "units", "count_partitions", "list_partitions", "told_rows", "told_row", "_law_taken", "_law_pick", "_law_alike", "_law_added", "_law_home", "_law_sums", "_law_steps", "_law_lists"]
abbrev lo : List Str := lo0 ++ lo1
open HandSHeadRun PySem.W PySem.Calls
theorem run_a (w : World) : (HandSHeadRun.wholeF (fun p => HandSHeadRun.stepQ (HandSHeadRun.denQ HandSHeadRun.tabQ) p w) HandSHeadRun.fenceQ 40000 R.prog).map (fun x => (HandSHeadRun.looksF R.prog x.1.heap x.2.abs, seenQ (PySem.W.view R.prog [0, 61]) lo (importedModules R.prog.main.body) (fun s => xlAt (PySem.W.view R.prog [0, 61]) [] s && recOk R.toRowW.records s) x.2.abs)) = some (true, openGood (PySem.W.view R.prog [0, 61]) lo) := by kernel_rfl
theorem run_b (w : World) : (HandSHeadRun.wholeF (fun p => HandSHeadRun.stepQ (HandSHeadRun.denQ HandSHeadRun.tabQ) p w) HandSHeadRun.fenceQ 40000 R.prog).map (fun x => obsB 2 cs fb (getT x.2)) = some (cs.map fun c => He.valD c.2, true) := by kernel_rfl
theorem run (w : World) : RunEqI R (PySem.W.view R.prog [0, 61]) hk ob 40000 lo w := part_two (run_a w) (run_b w)
theorem facts {K : PySem.W.Frag} {h : Heap} {mg : Str → Option Value} (X : K.In h) (G : h.Ns mainGlobals mg) (c : SaysB cs fb K) : Gs mg ∧ Ats K mg := by
  have c0 : He.SaysD fa0 fn0 K := c.part (fa0, fn0) (by simp)
  have c1 : He.SaysD fa1 fn1 K := c.part (fa1, fn1) (by simp)
  refine ⟨⟨?_, ?_, ?_, ?_, ?_, ?_, ?_, ?_, ?_, ?_, ?_, ?_, ?_, ?_, ?_, ?_, ?_, ?_, ?_, ?_, ?_, ?_, ?_⟩, ⟨?_, ?_, ?_, ?_, ?_, ?_, ?_, ?_, ?_, ?_, ?_, ?_, ?_, ?_, ?_, ?_, ?_, ?_, ?_, ?_, ?_, ?_, ?_, ?_, ?_, ?_, ?_, ?_, ?_, ?_, ?_, ?_, ?_, ?_, ?_, ?_, ?_, ?_, ?_, ?_, ?_, ?_⟩⟩
  · exact He.free_ok X G (c0.fact 40 (f := .free "all") rfl)
  · exact He.free_ok X G (c0.fact 41 (f := .free "bool") rfl)
  · exact He.free_ok X G (c0.fact 42 (f := .free "enumerate") rfl)
  · exact He.free_ok X G (c0.fact 43 (f := .free "int") rfl)
  · exact He.free_ok X G (c0.fact 44 (f := .free "isinstance") rfl)
  · exact He.free_ok X G (c0.fact 45 (f := .free "len") rfl)
  · exact He.free_ok X G (c0.fact 46 (f := .free "list") rfl)
  · exact He.free_ok X G (c0.fact 47 (f := .free "range") rfl)
  · exact He.free_ok X G (c0.fact 48 (f := .free "reversed") rfl)
  · exact He.free_ok X G (c0.fact 49 (f := .free "set") rfl)
  · exact He.free_ok X G (c0.fact 50 (f := .free "sorted") rfl)
  · exact He.free_ok X G (c0.fact 51 (f := .free "str") rfl)
  · exact He.free_ok X G (c0.fact 52 (f := .free "sum") rfl)
  · exact He.free_ok X G (c0.fact 53 (f := .free "tuple") rfl)
  · exact He.free_ok X G (c0.fact 54 (f := .free "zip") rfl)
  · exact He.int_ok X G (c0.fact 55 (f := .int "LEAST_PLACES" 2) rfl)
  · exact He.int_ok X G (c0.fact 56 (f := .int "MOST_PLACES" 400) rfl)
  · exact He.int_ok X G (c0.fact 57 (f := .int "MOST_ROWS" 5000) rfl)
  · exact He.int_ok X G (c0.fact 58 (f := .int "MOST_STEPS" 40) rfl)
  · exact He.int_ok X G (c0.fact 59 (f := .int "MOST_STEPS_TOLD" 400) rfl)
  · exact He.int_ok X G (c0.fact 60 (f := .int "MOST_WHEELS" 3) rfl)
  · exact blt_ok (p := ("gcd", "math.gcd")) X G c.blt 0
  · exact blt_ok (p := ("lcm", "math.lcm")) X G c.blt 1
  · exact ⟨_, c0.def_ 0 (d := d_is_integer) rfl, He.glo_ok X G (c0.fact 0 (f := .glo "is_integer") rfl)⟩
  · exact ⟨_, c0.def_ 1 (d := d_places_together) rfl, He.glo_ok X G (c0.fact 1 (f := .glo "places_together") rfl)⟩
  · exact ⟨_, c0.def_ 2 (d := d_check_wheels) rfl, He.glo_ok X G (c0.fact 2 (f := .glo "check_wheels") rfl)⟩
  · exact ⟨_, c0.def_ 3 (d := d_is_step) rfl, He.glo_ok X G (c0.fact 3 (f := .glo "is_step") rfl)⟩
  · exact ⟨_, c0.def_ 4 (d := d_check_step) rfl, He.glo_ok X G (c0.fact 4 (f := .glo "check_step") rfl)⟩
  · exact ⟨_, c0.def_ 5 (d := d_check_row) rfl, He.glo_ok X G (c0.fact 5 (f := .glo "check_row") rfl)⟩
  · exact ⟨_, c0.def_ 6 (d := d_check_number) rfl, He.glo_ok X G (c0.fact 6 (f := .glo "check_number") rfl)⟩
  · exact ⟨_, c0.def_ 7 (d := d_check_places) rfl, He.glo_ok X G (c0.fact 7 (f := .glo "check_places") rfl)⟩
  · exact ⟨_, c0.def_ 8 (d := d_check_steps) rfl, He.glo_ok X G (c0.fact 8 (f := .glo "check_steps") rfl)⟩
  · exact ⟨_, c0.def_ 9 (d := d_check_long_row) rfl, He.glo_ok X G (c0.fact 9 (f := .glo "check_long_row") rfl)⟩
  · exact ⟨_, c0.def_ 10 (d := d_order) rfl, He.glo_ok X G (c0.fact 10 (f := .glo "order") rfl)⟩
  · exact ⟨_, c0.def_ 11 (d := d_home_step) rfl, He.glo_ok X G (c0.fact 11 (f := .glo "home_step") rfl)⟩
  · exact ⟨_, c0.def_ 12 (d := d_add_steps) rfl, He.glo_ok X G (c0.fact 12 (f := .glo "add_steps") rfl)⟩
  · exact ⟨_, c0.def_ 13 (d := d_all_steps) rfl, He.glo_ok X G (c0.fact 13 (f := .glo "all_steps") rfl)⟩
  · exact ⟨_, c0.def_ 14 (d := d_lots_with) rfl, He.glo_ok X G (c0.fact 14 (f := .glo "lots_with") rfl)⟩
  · exact ⟨_, c0.def_ 15 (d := d_smallest_lots) rfl, He.glo_ok X G (c0.fact 15 (f := .glo "smallest_lots") rfl)⟩
  · exact ⟨_, c0.def_ 16 (d := d_sums) rfl, He.glo_ok X G (c0.fact 16 (f := .glo "sums") rfl)⟩
  · exact ⟨_, c0.def_ 17 (d := d_most_few) rfl, He.glo_ok X G (c0.fact 17 (f := .glo "most_few") rfl)⟩
  · exact ⟨_, c0.def_ 18 (d := d_has_few) rfl, He.glo_ok X G (c0.fact 18 (f := .glo "has_few") rfl)⟩
  · exact ⟨_, c0.def_ 19 (d := d_numbers_of_multiples) rfl, He.glo_ok X G (c0.fact 19 (f := .glo "numbers_of_multiples") rfl)⟩
  · exact ⟨_, c0.def_ 20 (d := d_integers_below) rfl, He.glo_ok X G (c0.fact 20 (f := .glo "integers_below") rfl)⟩
  · exact ⟨_, c0.def_ 21 (d := d_told_integers) rfl, He.glo_ok X G (c0.fact 21 (f := .glo "told_integers") rfl)⟩
  · exact ⟨_, c0.def_ 22 (d := d_find_teller) rfl, He.glo_ok X G (c0.fact 22 (f := .glo "find_teller") rfl)⟩
  · exact ⟨_, c0.def_ 23 (d := d_least_long) rfl, He.glo_ok X G (c0.fact 23 (f := .glo "least_long") rfl)⟩
  · exact ⟨_, c0.def_ 24 (d := d_long_teller) rfl, He.glo_ok X G (c0.fact 24 (f := .glo "long_teller") rfl)⟩
  · exact ⟨_, c0.def_ 25 (d := d_count_partitions) rfl, He.glo_ok X G (c0.fact 25 (f := .glo "count_partitions") rfl)⟩
  · exact ⟨_, c0.def_ 26 (d := d_units) rfl, He.glo_ok X G (c0.fact 26 (f := .glo "units") rfl)⟩
  · exact ⟨_, c0.def_ 27 (d := d_count_long) rfl, He.glo_ok X G (c0.fact 27 (f := .glo "count_long") rfl)⟩
  · exact ⟨_, c0.def_ 28 (d := d_check_rows) rfl, He.glo_ok X G (c0.fact 28 (f := .glo "check_rows") rfl)⟩
  · exact ⟨_, c0.def_ 29 (d := d_list_partitions) rfl, He.glo_ok X G (c0.fact 29 (f := .glo "list_partitions") rfl)⟩
  · exact ⟨_, c0.def_ 30 (d := d_told_row) rfl, He.glo_ok X G (c0.fact 30 (f := .glo "told_row") rfl)⟩
  · exact ⟨_, c0.def_ 31 (d := d_told_rows) rfl, He.glo_ok X G (c0.fact 31 (f := .glo "told_rows") rfl)⟩
  · exact ⟨_, c0.def_ 32 (d := d_long_rows) rfl, He.glo_ok X G (c0.fact 32 (f := .glo "long_rows") rfl)⟩
  · exact ⟨_, c0.def_ 33 (d := d__law_taken) rfl, He.glo_ok X G (c0.fact 33 (f := .glo "_law_taken") rfl)⟩
  · exact ⟨_, c0.def_ 34 (d := d__law_pick) rfl, He.glo_ok X G (c0.fact 34 (f := .glo "_law_pick") rfl)⟩
  · exact ⟨_, c0.def_ 35 (d := d__law_alike) rfl, He.glo_ok X G (c0.fact 35 (f := .glo "_law_alike") rfl)⟩
  · exact ⟨_, c0.def_ 36 (d := d__law_added) rfl, He.glo_ok X G (c0.fact 36 (f := .glo "_law_added") rfl)⟩
  · exact ⟨_, c0.def_ 37 (d := d__law_home) rfl, He.glo_ok X G (c0.fact 37 (f := .glo "_law_home") rfl)⟩
  · exact ⟨_, c0.def_ 38 (d := d__law_sums) rfl, He.glo_ok X G (c0.fact 38 (f := .glo "_law_sums") rfl)⟩
  · exact ⟨_, c0.def_ 39 (d := d__law_steps) rfl, He.glo_ok X G (c0.fact 39 (f := .glo "_law_steps") rfl)⟩
  · exact ⟨_, c1.def_ 0 (d := d__law_lists) rfl, He.glo_ok X G (c1.fact 0 (f := .glo "_law_lists") rfl)⟩
  · exact ⟨_, c1.def_ 1 (d := d_law) rfl, He.glo_ok X G (c1.fact 1 (f := .glo "law") rfl)⟩
end K03
end TK03H

section TS0
set_option Elab.async false
set_option linter.all false
set_option maxRecDepth 100000
set_option maxHeartbeats 410000
namespace Pu
open L2 PySem
@[simp] theorem ev_bind {α β : Type} (m : M α) (k : α → M β) (ρ : Pu.Env) : M.bind m k ρ = match m ρ with
  | .ok a ρ1 => k a ρ1
  | .exc e ρ1 => .exc e ρ1
  | .no => .no := (rfl)
@[simp] theorem ev_pure {α : Type} (a : α) (ρ : Pu.Env) : M.pure a ρ = .ok a ρ := (rfl)
@[simp] theorem ev_lift {α : Type} (a : α) (ρ : Pu.Env) : M.lift (some a) ρ = .ok a ρ := (rfl)
@[simp] theorem ev_C (d : PyData) (ρ : Pu.Env) : fC d ρ = .ok d ρ := (rfl)
@[simp] theorem ev_1 {α β : Type} (g : α → Option β) (fa : M α) (ρ : Pu.Env) : f1 g fa ρ = M.bind fa (fun a => M.lift (g a)) ρ := (rfl)
@[simp] theorem ev_2 {α β γ : Type} (g : α → β → Option γ) (fa : M α) (fb : M β) (ρ : Pu.Env) : f2 g fa fb ρ = M.bind fa (fun a => M.bind fb fun b => M.lift (g a b)) ρ := (rfl)
@[simp] theorem ev_nil (ρ : Pu.Env) : fNil ρ = .ok [] ρ := (rfl)
@[simp] theorem ev_cons (fa : M PyData) (fr : M (List PyData)) (ρ : Pu.Env) : fCons fa fr ρ = M.bind fa (fun a => M.bind fr fun r => M.pure (a :: r)) ρ := (rfl)
@[simp] theorem ev_V (i : Nat) (ρ : Pu.Env) : fV i ρ = match ρ[i]? with
  | some (.dat d) => .ok d ρ
  | some (.own d) => .ok d (ρ.set i (.dat d))
  | _ => .no := (rfl)
@[simp] theorem ev_T (fa : M PyData) (ρ : Pu.Env) : fT fa ρ = M.bind fa (fun a => M.lift (pTruth a)) ρ := (rfl)
@[simp] theorem ev_TB (fa : M PyData) (ρ : Pu.Env) : fTB fa ρ = M.bind fa (fun a => M.lift (pBool a)) ρ := (rfl)
@[simp] theorem ev_and (fa fb : M Bool) (ρ : Pu.Env) : fAnd fa fb ρ = M.bind fa (fun b => if b then fb else M.pure false) ρ := (rfl)
@[simp] theorem ev_or (fa fb : M Bool) (ρ : Pu.Env) : fOr fa fb ρ = M.bind fa (fun b => if b then M.pure true else fb) ρ := (rfl)
@[simp] theorem ev_not (fa : M Bool) (ρ : Pu.Env) : fNot fa ρ = M.bind fa (fun b => M.pure (!b)) ρ := (rfl)
@[simp] theorem ev_ite (c : M Bool) (fa fb : M PyData) (ρ : Pu.Env) : fIte c fa fb ρ = M.bind c (fun b => if b then fa else fb) ρ := (rfl)
@[simp] theorem ev_andV (fa fb : M PyData) (ρ : Pu.Env) : fAndV fa fb ρ = M.bind (fTB fa) (fun b => if b then fb else M.pure (.bool false)) ρ := (rfl)
@[simp] theorem ev_orV (fa fb : M PyData) (ρ : Pu.Env) : fOrV fa fb ρ = M.bind (fTB fa) (fun b => if b then M.pure (.bool true) else fb) ρ := (rfl)
@[simp] theorem ev_notV (fa : M PyData) (ρ : Pu.Env) : fNotV fa ρ = M.bind (fTB fa) (fun b => M.pure (.bool (!b))) ρ := (rfl)
@[simp] theorem ev_chain (g g' : PyData → PyData → Option PyData) (fa fb fc : M PyData) (ρ : Pu.Env) : fChain g g' fa fb fc ρ = M.bind fa (fun a => M.bind fb fun b => M.bind (M.lift ((g a b).bind pBool)) fun x => if x then M.bind fc (fun c => M.lift (g' b c)) else M.pure (.bool false)) ρ := (rfl)
@[simp] theorem ev_call (m : List PyData → Rf) (fs : M (List PyData)) (ρ : Pu.Env) : fCall m fs ρ = M.bind fs (fun ds ρ => match m ds with
  | .ok d => .ok d ρ
  | .exc e => .exc e ρ
  | .no => .no) ρ := (rfl)
@[simp] theorem ev_seqS (a b : SM) (ρ : Pu.Env) : sSeq a b ρ = match a ρ with
  | .nx ρ1 => b ρ1
  | o => o := (rfl)
@[simp] theorem ev_E {α : Type} (f : M α) (k : α → SM) (ρ : Pu.Env) : sE f k ρ = match f ρ with
  | .ok a ρ1 => k a ρ1
  | .exc e ρ1 => .exc e ρ1
  | .no => .no := (rfl)
@[simp] theorem ev_ret (f : M PyData) (ρ : Pu.Env) : sRet f ρ = sE f (fun d ρ => .rt d ρ) ρ := (rfl)
@[simp] theorem ev_nilS (ρ : Pu.Env) : sNil ρ = .nx ρ := (rfl)
@[simp] theorem ev_if (c : M Bool) (a b : SM) (ρ : Pu.Env) : sIf c a b ρ = sE c (fun t => if t then a else b) ρ := (rfl)
@[simp] theorem ev_asg (f : M PyData) (g : TM) (ρ : Pu.Env) : sAsg f g ρ = sE f (fun d ρ => match g d ρ with
  | some ρ1 => .nx ρ1
  | none => .no) ρ := (rfl)
@[simp] theorem ev_gN (i : Nat) (d : PyData) (ρ : Pu.Env) : gN i d ρ = some (ρ.set i (.dat d)) := (rfl)
@[simp] theorem ev_for (f : M (List PyData)) (g : TM) (b : SM) (ρ : Pu.Env) : sFor f g b ρ = sE f (sForL g b) ρ := (rfl)
@[simp] theorem ev_seq (fa : M PyData) (ρ : Pu.Env) : fSeq fa ρ = M.bind fa (fun a => M.lift (asSeq a)) ρ := (rfl)
@[simp] theorem pLe_int (i j : Int) : pLe (.int i) (.int j) = some (.bool (decide (i ≤ j))) := (rfl)
@[simp] theorem pLt_int (i j : Int) : pLt (.int i) (.int j) = some (.bool (decide (i < j))) := (rfl)
@[simp] theorem pGt_int (i j : Int) : pGt (.int i) (.int j) = some (.bool (decide (j < i))) := (rfl)
@[simp] theorem pBool_bool (b : Bool) : pBool (.bool b) = some b := (rfl)
@[simp] theorem pTruth_bool (b : Bool) : pTruth (.bool b) = some b := (rfl)
@[simp] theorem pAdd_int (i j : Int) : pAdd (.int i) (.int j) = some (.int (i + j)) := (rfl)
@[simp] theorem pSub_int (i j : Int) : pSub (.int i) (.int j) = some (.int (i - j)) := (rfl)
@[simp] theorem asSeq_tup (xs : List PyData) : asSeq (.tuple xs) = some xs := (rfl)
@[simp] theorem asSeq_lst (xs : List PyData) : asSeq (.list xs) = some xs := (rfl)
@[simp] theorem isIn_int (i : Int) : isIn .int (.int i) = true := (rfl)
@[simp] theorem isIn_bool (i : Int) : isIn .bool (.int i) = false := (rfl)
@[simp] theorem isIn_tup (i : List PyData) : isIn .tuple (.tuple i) = true := (rfl)
@[simp] theorem ev_iteM {α : Type} (c : Prop) [Decidable c] (a b : M α) (ρ : Pu.Env) : (if c then a else b) ρ = if c then a ρ else b ρ := by split <;> rfl
@[simp] theorem ev_iteS (c : Prop) [Decidable c] (a b : SM) (ρ : Pu.Env) : (if c then a else b) ρ = if c then a ρ else b ρ := by split <;> rfl
theorem le2 (p q : Prop) [Decidable p] [Decidable q] (ρ : Pu.Env) : (if p then (R.ok (PyData.bool (decide q)) ρ) else .ok (.bool false) ρ) = .ok (.bool (decide p && decide q)) ρ := by by_cases h : p <;> simp [h]
/-! ### loops -/
theorem forL_rel {α : Type} (I : α → Pu.Env → Prop) (st : α → PyData → α) {g : TM} {b : SM} : ∀ {ds : List PyData} {a : α} {ρ : Pu.Env}, (∀ a ρ d, d ∈ ds → I a ρ → ∃ ρ1 ρ2, g d ρ = some ρ1 ∧ b ρ1 = .nx ρ2 ∧ I (st a d) ρ2) → I a ρ → ∃ ρ', sForL g b ds ρ = .nx ρ' ∧ I (ds.foldl st a) ρ'
  | [], a, ρ, _, i => ⟨ρ, rfl, i⟩
  | d :: ds, a, ρ, h, i => by
    obtain ⟨ρ1, ρ2, h1, h2, h3⟩ := h a ρ d List.mem_cons_self i
    obtain ⟨ρ', e, j⟩ := forL_rel I st (ds := ds) (fun a ρ d m => h a ρ d (List.mem_cons_of_mem _ m)) h3
    exact ⟨ρ', by simp only [sForL, h1, h2]; exact e, j⟩
theorem forL_map {α β : Type} (I : α → Pu.Env → Prop) (f : β → PyData) (st : α → β → α) {g : TM} {b : SM} : ∀ {xs : List β} {a : α} {ρ : Pu.Env}, (∀ a ρ x, x ∈ xs → I a ρ → ∃ ρ1 ρ2, g (f x) ρ = some ρ1 ∧ b ρ1 = .nx ρ2 ∧ I (st a x) ρ2) → I a ρ → ∃ ρ', sForL g b (xs.map f) ρ = .nx ρ' ∧ I (xs.foldl st a) ρ'
  | [], a, ρ, _, i => ⟨ρ, rfl, i⟩
  | x :: xs, a, ρ, h, i => by
    obtain ⟨ρ1, ρ2, h1, h2, h3⟩ := h a ρ x List.mem_cons_self i
    obtain ⟨ρ', e, j⟩ := forL_map I f st (xs := xs) (fun a ρ d m => h a ρ d (List.mem_cons_of_mem _ m)) h3
    exact ⟨ρ', by simp only [List.map_cons, sForL, h1, h2]; exact e, j⟩
/-- a loop that hands back r at the first item that isn't good -/
theorem forL_all {β : Type} (I : Pu.Env → Prop) (f : β → PyData) (good : β → Bool) (r : PyData) {g : TM} {b : SM} : ∀ {xs : List β} {ρ : Pu.Env}, (∀ ρ x, x ∈ xs → I ρ → ∃ ρ1 ρ2, g (f x) ρ = some ρ1 ∧ ((good x = true ∧ b ρ1 = .nx ρ2 ∧ I ρ2) ∨ (good x = false ∧ b ρ1 = .rt r ρ2))) → I ρ →
    ∃ ρ', (xs.all good = true ∧ sForL g b (xs.map f) ρ = .nx ρ' ∧ I ρ') ∨ (xs.all good = false ∧ sForL g b (xs.map f) ρ = .rt r ρ')
  | [], ρ, _, i => ⟨ρ, .inl ⟨rfl, rfl, i⟩⟩
  | x :: xs, ρ, h, i => by
    obtain ⟨ρ1, ρ2, h1, ⟨c, h2, h3⟩ | ⟨c, h2⟩⟩ := h ρ x List.mem_cons_self i
    · obtain ⟨ρ', e⟩ := forL_all I f good r (xs := xs) (fun ρ d m => h ρ d (List.mem_cons_of_mem _ m)) h3
      refine ⟨ρ', ?_⟩
      simp only [List.map_cons, sForL, h1, h2, List.all_cons, c, Bool.true_and]
      exact e
    · exact ⟨ρ2, .inr ⟨by simp [c], by simp only [List.map_cons, sForL, h1, h2]⟩⟩
theorem lcL_map {β : Type} (f : β → PyData) (keep : β → Bool) (z : β → PyData) {g : TM} {t : M Bool} {e : M PyData} {vs : List Nat} {ρ : Pu.Env} : ∀ {xs : List β} {acc : List PyData}, (∀ x ∈ xs, ∃ ρ1 ρ2, g (f x) ρ = some ρ1 ∧ t ρ1 = .ok (keep x) ρ2 ∧ (if keep x = true then ∃ ρ3, e ρ2 = .ok (z x) ρ3 ∧ wipeE ρ3 vs = ρ else wipeE ρ2 vs = ρ)) → fLcL g t e vs (xs.map f) acc ρ = .ok (acc ++ (xs.filter keep).map z) ρ
  | [], acc, _ => by simp [fLcL]
  | x :: xs, acc, h => by
    obtain ⟨ρ1, ρ2, h1, h2, h3⟩ := h x List.mem_cons_self
    have ih := fun acc => lcL_map f keep z (g := g) (t := t) (e := e) (vs := vs) (ρ := ρ) (xs := xs) (acc := acc) fun y m => h y (List.mem_cons_of_mem _ m)
    cases k : keep x with
    | true =>
      rw [k, if_pos rfl] at h3
      obtain ⟨ρ3, h4, h5⟩ := h3
      simp only [List.map_cons, fLcL, h1, h2, k, h4, h5]
      rw [ih, List.filter_cons_of_pos k]
      simp
    | false =>
      rw [k] at h3
      simp only [Bool.false_eq_true, if_false] at h3
      simp only [List.map_cons, fLcL, h1, h2, k, h3]
      rw [ih, List.filter_cons_of_neg (by simp [k])]
/-- a comprehension without a test -/
theorem lc_map {β : Type} (f : β → PyData) (z : β → PyData) {fl : M (List PyData)} {g : TM} {e : M PyData} {vs : List Nat} {ρ ρ0 ρ' : Pu.Env} {xs : List β} (hl : fl ρ = .ok (xs.map f) ρ0) (hw : wipeE ρ0 vs = ρ') (hw2 : wipeE ρ' vs = ρ') (hn : xs.length ≤ LIM) (h : ∀ x ∈ xs, ∃ ρ1 ρ3, g (f x) ρ' = some ρ1 ∧ e ρ1 = .ok (z x) ρ3 ∧ wipeE ρ3 vs = ρ') : fLc fl g fYes e vs ρ = .ok (.list (xs.map z)) ρ' := by
  have := lcL_map (t := fYes) (vs := vs) (e := e) (g := g) f (fun _ => true) z (xs := xs) (acc := []) (ρ := ρ') fun x m => by
    obtain ⟨ρ1, ρ3, h1, h2, h3⟩ := h x m
    exact ⟨ρ1, ρ1, h1, rfl, by rw [if_pos rfl]; exact ⟨ρ3, h2, h3⟩⟩
  unfold fLc
  simp only [ev_bind, hl, List.length_map, hn, if_true, hw, this, hw2]
  rw [List.filter_eq_self.mpr (fun _ _ => rfl), List.nil_append]
theorem lc_filter {β : Type} (f : β → PyData) (keep : β → Bool) (z : β → PyData) {fl : M (List PyData)} {g : TM} {t : M Bool} {e : M PyData} {vs : List Nat} {ρ ρ0 ρ' : Pu.Env} {xs : List β} (hl : fl ρ = .ok (xs.map f) ρ0) (hw : wipeE ρ0 vs = ρ') (hw2 : wipeE ρ' vs = ρ') (hn : xs.length ≤ LIM)
    (h : ∀ x ∈ xs, ∃ ρ1 ρ2, g (f x) ρ' = some ρ1 ∧ t ρ1 = .ok (keep x) ρ2 ∧ (if keep x = true then ∃ ρ3, e ρ2 = .ok (z x) ρ3 ∧ wipeE ρ3 vs = ρ' else wipeE ρ2 vs = ρ')) : fLc fl g t e vs ρ = .ok (.list ((xs.filter keep).map z)) ρ' := by
  have := lcL_map f keep z (xs := xs) (acc := []) h
  unfold fLc
  simp only [ev_bind, hl, List.length_map, hn, if_true, hw, this, hw2]
  simp
@[simp] theorem ev_own (f : M PyData) (i : Nat) (ρ : Pu.Env) : sOwn f i ρ = sE f (fun d ρ => .nx (ρ.set i (.own d))) ρ := (rfl)
/-! ### one construct at a time -/
theorem seq_nx {a b : SM} {ρ ρ1 : Pu.Env} {o : Out} (h : a ρ = .nx ρ1) (k : b ρ1 = o) : sSeq a b ρ = o := by unfold sSeq; rw [h]; exact k
theorem own_ok {f : M PyData} {i : Nat} {d : PyData} {ρ ρ1 : Pu.Env} (h : f ρ = .ok d ρ1) : sOwn f i ρ = .nx (ρ1.set i (.own d)) := by unfold sOwn sE; rw [h]
theorem for_ok {f : M (List PyData)} {g : TM} {b : SM} {ds : List PyData} {ρ ρ1 : Pu.Env} {o : Out} (h : f ρ = .ok ds ρ1) (k : sForL g b ds ρ1 = o) : sFor f g b ρ = o := by unfold sFor sE; rw [h]; exact k
theorem ret_ok {f : M PyData} {d : PyData} {ρ ρ1 : Pu.Env} (h : f ρ = .ok d ρ1) : sRet f ρ = .rt d ρ1 := by unfold sRet sE; rw [h]
theorem asg_ok {f : M PyData} {i : Nat} {d : PyData} {ρ ρ1 : Pu.Env} (h : f ρ = .ok d ρ1) : sAsg f (gN i) ρ = .nx (ρ1.set i (.dat d)) := by unfold sAsg sE; rw [h]; rfl
theorem op2 {g : PyData → PyData → Option PyData} {fa fb : M PyData} {a b c : PyData} {ρ ρ1 ρ2 : Pu.Env} (ha : fa ρ = .ok a ρ1) (hb : fb ρ1 = .ok b ρ2) (hg : g a b = some c) : f2 g fa fb ρ = .ok c ρ2 := by simp only [f2, M.bind, ha, hb, M.lift, hg]
theorem op1 {α : Type} {g : α → Option PyData} {fa : M α} {a : α} {c : PyData} {ρ ρ1 : Pu.Env} (ha : fa ρ = .ok a ρ1) (hg : g a = some c) : f1 g fa ρ = .ok c ρ1 := by simp only [f1, M.bind, ha, M.lift, hg]
theorem lift1 {fs : M (List PyData)} {f : List PyData → Option (List PyData)} {as bs : List PyData} {ρ ρ1 : Pu.Env} (h : fs ρ = .ok as ρ1) (hf : f as = some bs) : (fs.bind fun a => M.lift (f a)) ρ = .ok bs ρ1 := by simp only [M.bind, h, M.lift, hf]
theorem outF_rt {o : Out} {d : PyData} {ρ : Pu.Env} (h : o = .rt d ρ) : outF o = .ok d := by rw [h]; rfl
theorem run_rt {n : Nat} {g : SM} {ds : List PyData} {d : PyData} {ρ : Pu.Env} (h : g (rho n ds) = .rt d ρ) : runF n g ds = .ok d := by unfold runF; rw [h]; rfl
theorem run_nx {n : Nat} {g : SM} {ds : List PyData} {ρ : Pu.Env} (h : g (rho n ds) = .nx ρ) : runF n g ds = .ok .none := by unfold runF; rw [h]; rfl
theorem call_ok {m : List PyData → Rf} {fs : M (List PyData)} {as : List PyData} {d : PyData} {ρ ρ1 : Pu.Env} (h : fs ρ = .ok as ρ1) (hm : m as = .ok d) : fCall m fs ρ = .ok d ρ1 := by simp only [fCall, M.bind, h, hm]
theorem drop_ok {f : M PyData} {d : PyData} {ρ ρ1 : Pu.Env} (h : f ρ = .ok d ρ1) : sDrop f ρ = .nx ρ1 := by simp only [sDrop, sE, h]
theorem tb_ok {fa : M PyData} {b : Bool} {ρ ρ1 : Pu.Env} (h : fa ρ = .ok (.bool b) ρ1) : fTB fa ρ = .ok b ρ1 := by simp only [fTB, f1, M.bind, h, M.lift, pBool]
theorem t_ok {fa : M PyData} {b : Bool} {ρ ρ1 : Pu.Env} (h : fa ρ = .ok (.bool b) ρ1) : fT fa ρ = .ok b ρ1 := by simp only [fT, f1, M.bind, h, M.lift, pTruth]
theorem if_no {c : M Bool} {a b : SM} {ρ ρ1 : Pu.Env} {o : Out} (h : c ρ = .ok false ρ1) (k : b ρ1 = o) : sIf c a b ρ = o := by
  simp only [sIf, sE, h, Bool.false_eq_true, if_false]; exact k
theorem if_yes {c : M Bool} {a b : SM} {ρ ρ1 : Pu.Env} {o : Out} (h : c ρ = .ok true ρ1) (k : a ρ1 = o) : sIf c a b ρ = o := by
  simp only [sIf, sE, h, if_true]; exact k
theorem not_ok {c : M Bool} {b : Bool} {ρ ρ1 : Pu.Env} (h : c ρ = .ok b ρ1) : fNot c ρ = .ok (!b) ρ1 := by simp only [fNot, M.bind, h, M.pure]
theorem or_no {c d : M Bool} {b : Bool} {ρ ρ1 ρ2 : Pu.Env} (h : c ρ = .ok false ρ1) (k : d ρ1 = .ok b ρ2) : fOr c d ρ = .ok b ρ2 := by simp only [fOr, M.bind, h, Bool.false_eq_true, if_false]; exact k
theorem or_yes {c d : M Bool} {ρ ρ1 : Pu.Env} (h : c ρ = .ok true ρ1) : fOr c d ρ = .ok true ρ1 := by simp only [fOr, M.bind, h, if_true, M.pure]
theorem and_yes {c d : M Bool} {b : Bool} {ρ ρ1 ρ2 : Pu.Env} (h : c ρ = .ok true ρ1) (k : d ρ1 = .ok b ρ2) : fAnd c d ρ = .ok b ρ2 := by simp only [fAnd, M.bind, h, if_true]; exact k
theorem and_no {c d : M Bool} {ρ ρ1 : Pu.Env} (h : c ρ = .ok false ρ1) : fAnd c d ρ = .ok false ρ1 := by simp only [fAnd, M.bind, h, Bool.false_eq_true, if_false, M.pure]
end Pu
end TS0

section TS1
set_option Elab.async false
set_option linter.all false
set_option maxRecDepth 100000
set_option maxHeartbeats 410000
namespace Pu
open L2 PySem Cm
/-! ### wheels, steps -/
abbrev Stp := List Int
def okS : List Int → Stp → Prop
  | [], [] => True
  | w :: ws, x :: xs => 0 ≤ x ∧ x < w ∧ okS ws xs
  | _, _ => False
instance okS_dec : ∀ ws s, Decidable (okS ws s)
  | [], [] => inferInstanceAs (Decidable True)
  | w :: ws, x :: xs => by unfold okS; exact @instDecidableAnd _ _ _ (@instDecidableAnd _ _ _ (okS_dec ws xs))
  | [], _ :: _ => inferInstanceAs (Decidable False)
  | _ :: _, [] => inferInstanceAs (Decidable False)
structure okW (ws : List Int) : Prop where
  pos : 1 ≤ ws.length
  few : ws.length ≤ 3
  lo : ∀ w ∈ ws, 2 ≤ w ∧ w ≤ 400
  prod : ws.foldl (· * ·) 1 ≤ 400
def addS : List Int → Stp → Stp → Stp
  | w :: ws, x :: xs, y :: ys => (x + y) % w :: addS ws xs ys
  | _, _, _ => []
def zeroS (ws : List Int) : Stp := ws.map fun _ => 0
def rowD (S : List Stp) : PyData := .tuple (S.map tupI)
theorem okS.len : ∀ {ws s}, okS ws s → s.length = ws.length
  | [], [], _ => rfl
  | _ :: _, _ :: _, h => congrArg (· + 1) (okS.len h.2.2)
theorem addS_len : ∀ {ws a b : List Int}, a.length = ws.length → b.length = ws.length → (addS ws a b).length = ws.length
  | [], _, _, _, _ => rfl
  | w :: ws, x :: xs, y :: ys, h1, h2 => congrArg (· + 1) (addS_len (Nat.succ.inj h1) (Nat.succ.inj h2))
theorem okS_add : ∀ {ws a b}, (∀ w ∈ ws, 0 < w) → okS ws a → okS ws b → okS ws (addS ws a b)
  | [], [], [], _, _, _ => trivial
  | w :: ws, x :: xs, y :: ys, hw, ha, hb => ⟨Int.emod_nonneg _ (by have := hw w List.mem_cons_self; omega), Int.emod_lt_of_pos _ (hw w List.mem_cons_self), okS_add (fun v hv => hw v (List.mem_cons_of_mem _ hv)) ha.2.2 hb.2.2⟩
theorem okS_zero : ∀ {ws}, (∀ w ∈ ws, 0 < w) → okS ws (zeroS ws)
  | [], _ => trivial
  | w :: ws, hw => ⟨Int.le_refl 0, hw w List.mem_cons_self, okS_zero fun v hv => hw v (List.mem_cons_of_mem _ hv)⟩
theorem addS_comm : ∀ {ws a b}, okS ws a → okS ws b → addS ws a b = addS ws b a
  | [], [], [], _, _ => rfl
  | w :: ws, x :: xs, y :: ys, ha, hb => by
    show (x + y) % w :: addS ws xs ys = (y + x) % w :: addS ws ys xs
    rw [Int.add_comm, addS_comm ha.2.2 hb.2.2]
theorem addS_assoc : ∀ {ws a b c}, okS ws a → okS ws b → okS ws c → addS ws (addS ws a b) c = addS ws a (addS ws b c)
  | [], [], [], [], _, _, _ => rfl
  | w :: ws, x :: xs, y :: ys, z :: zs, ha, hb, hc => by
    show ((x + y) % w + z) % w :: addS ws (addS ws xs ys) zs = (x + (y + z) % w) % w :: addS ws xs (addS ws ys zs)
    rw [addS_assoc ha.2.2 hb.2.2 hc.2.2, Int.emod_add_emod, Int.add_emod_emod, Int.add_assoc]
theorem addS_zero : ∀ {ws a}, okS ws a → addS ws a (zeroS ws) = a
  | [], [], _ => rfl
  | w :: ws, x :: xs, ha => by
    show (x + 0) % w :: addS ws xs (zeroS ws) = x :: xs
    rw [addS_zero ha.2.2, Int.add_zero, Int.emod_eq_of_lt ha.1 ha.2.1]
theorem zero_addS {ws a} (hw : ∀ w ∈ ws, 0 < w) (ha : okS ws a) : addS ws (zeroS ws) a = a := (addS_comm (okS_zero hw) ha).trans (addS_zero ha)
theorem addS_cancel : ∀ {ws a b c}, okS ws a → okS ws b → okS ws c → addS ws a c = addS ws b c → a = b
  | [], [], [], [], _, _, _, _ => rfl
  | w :: ws, x :: xs, y :: ys, z :: zs, ha, hb, hc, h => by
    have h : (x + z) % w :: addS ws xs zs = (y + z) % w :: addS ws ys zs := h
    obtain ⟨h1, h2⟩ := List.cons.inj h
    rw [addS_cancel ha.2.2 hb.2.2 hc.2.2 h2]
    have e := Int.emod_emod_of_dvd (x + z) (Int.dvd_refl w)
    have : (x + z - (y + z)) % w = 0 := by rw [Int.sub_emod, h1]; simp
    have d : w ∣ x - y := by
      have : w ∣ x + z - (y + z) := Int.dvd_of_emod_eq_zero this
      rwa [show x + z - (y + z) = x - y by omega] at this
    have : x = y := by
      obtain ⟨k, hk⟩ := d
      obtain ⟨a0, a1, _⟩ := ha
      obtain ⟨b0, b1, _⟩ := hb
      have hw : 0 < w := by omega
      have k0 : k = 0 := by
        rcases Int.lt_trichotomy k 0 with h | h | h
        · have : w * k ≤ w * (-1) := Int.mul_le_mul_of_nonneg_left (by omega) (by omega)
          omega
        · exact h
        · have : w * 1 ≤ w * k := Int.mul_le_mul_of_nonneg_left (by omega) (by omega)
          omega
      rw [k0] at hk
      omega
    rw [this]
theorem okW.wpos {ws : List Int} (h : okW ws) : ∀ w ∈ ws, 0 < w := fun w hw => by have := h.lo w hw; omega
theorem okW.lim {ws : List Int} (h : okW ws) : ws.length ≤ LIM := by have := h.few; unfold LIM; omega
/-! ### the program's small functions -/
theorem is_integer_ok (v lo hi : Int) : m_is_integer [.int v, .int lo, .int hi] = .ok (.bool (decide (lo ≤ v) && decide (v ≤ hi))) := by
  simp [m_is_integer, runF, g_is_integer, rho]
  by_cases h : lo ≤ v <;> simp [h, outF]
theorem places_together_ok {ws : List Int} (h : okW ws) : m_places_together [tupI ws] = .ok (.int (ws.foldl (· * ·) 1)) := by
  have key : ∀ (a : Int) (x : Sl), 0 ≤ a → a < 2 ^ 63 → True := fun _ _ _ _ => trivial
  obtain ⟨ρ', e, ⟨x, hx⟩⟩ := forL_map (fun (a : Int) ρ => ∃ x, ρ = [.dat (tupI ws), .dat (.int a), x]) PyData.int (· * ·) (g := gN 2) (b := sAsg (f2 pMul (fV 1) (fV 2)) (gN 1)) (xs := ws) (a := 1) (ρ := [.dat (tupI ws), .dat (.int 1), .un])
    (fun a ρ w hw ⟨x, e⟩ => by
      subst e
      have hb := h.lo w hw
      refine ⟨_, [.dat (tupI ws), .dat (.int (a * w)), .dat (.int w)], rfl, ?_, _, rfl⟩
      have : pMul (.int a) (.int w) = some (.int (a * w)) := if_pos (.inr ⟨by omega, by omega⟩)
      simp [this]) ⟨_, rfl⟩
  subst hx
  have e1 : asSeq (tupI ws) = some (ws.map .int) := rfl
  simp [m_places_together, runF, g_places_together, rho, e1, e, outF]
@[simp] theorem isIn_tupI (k : Stp) : isIn .tuple (tupI k) = true := (rfl)
@[simp] theorem isIn_rowD (k : List Stp) : isIn .tuple (rowD k) = true := (rfl)
@[simp] theorem pLen_tupI (k : Stp) : pLen [tupI k] = some (.int k.length) := by simp [pLen, tupI]
@[simp] theorem pLen_rowD (k : List Stp) : pLen [rowD k] = some (.int k.length) := by simp [pLen, rowD]
@[simp] theorem pLen_lst (k : List PyData) : pLen [.list k] = some (.int k.length) := (rfl)
@[simp] theorem pLen_tup (k : List PyData) : pLen [.tuple k] = some (.int k.length) := (rfl)
@[simp] theorem asEnum_tupI (k : Stp) : asEnum [tupI k] = some (enumD 0 (k.map .int)) := (rfl)
@[simp] theorem asEnum_rowD (k : List Stp) : asEnum [rowD k] = some (enumD 0 (k.map tupI)) := (rfl)
@[simp] theorem asSeq_tupI (k : Stp) : asSeq (tupI k) = some (k.map .int) := (rfl)
@[simp] theorem asSeq_rowD (k : List Stp) : asSeq (rowD k) = some (k.map tupI) := (rfl)
theorem enumD_map {α : Type} (f : α → PyData) : ∀ (c : Nat) (xs : List α), enumD (c : Nat) (xs.map f) = (xs.zipIdx c).map fun p => .tuple [.int (p.2 : Nat), f p.1]
  | _, [] => rfl
  | c, x :: xs => by
    have := enumD_map f (c + 1) xs
    show PyData.tuple [.int c, f x] :: enumD ((c : Int) + 1) (xs.map f) = _
    rw [show ((c : Int) + 1) = ((c + 1 : Nat) : Int) by omega, this]
    rfl
theorem gT_2 (i j : Nat) (a b : PyData) (ρ : Pu.Env) : gT [gN i, gN j] (.tuple [a, b]) ρ = some ((ρ.set i (.dat a)).set j (.dat b)) := rfl
theorem gT_3 (i j k : Nat) (a b c : PyData) (ρ : Pu.Env) : gT [gN i, gN j, gN k] (.tuple [a, b, c]) ρ = some (((ρ.set i (.dat a)).set j (.dat b)).set k (.dat c)) := rfl
@[simp] theorem ev_enum (fs : M (List PyData)) (ρ : Pu.Env) : fEnum fs ρ = M.bind fs (fun a => M.lift (asEnum a)) ρ := (rfl)
@[simp] theorem ev_zip2 (fs : M (List PyData)) (ρ : Pu.Env) : fZip2 fs ρ = M.bind fs (fun a => M.lift (asZip2 a)) ρ := (rfl)
@[simp] theorem ev_zip3 (fs : M (List PyData)) (ρ : Pu.Env) : fZip3 fs ρ = M.bind fs (fun a => M.lift (asZip3 a)) ρ := (rfl)
@[simp] theorem ev_rng1 (fs : M (List PyData)) (ρ : Pu.Env) : fRng1 fs ρ = M.bind fs (fun a => M.lift (asRng1 a)) ρ := (rfl)
@[simp] theorem ev_rng2 (fs : M (List PyData)) (ρ : Pu.Env) : fRng2 fs ρ = M.bind fs (fun a => M.lift (asRng2 a)) ρ := (rfl)
@[simp] theorem ev_drop (f : M PyData) (ρ : Pu.Env) : sDrop f ρ = sE f (fun _ ρ => .nx ρ) ρ := (rfl)
theorem check_wheels_ok {rz : Rz} {ws : List Int} (h : okW ws) : m_check_wheels rz [tupI ws] = .ok .none := by
  have h1 := h.pos
  have h3 := h.few
  have hp := h.prod
  obtain ⟨ρ', e, ⟨x, y, hx⟩⟩ := forL_map (fun (_ : Unit) ρ => ∃ x y, ρ = [.dat (tupI ws), x, y]) (fun p : Int × Nat => PyData.tuple [.int (p.2 : Nat), .int p.1]) (fun a _ => a) (g := gT [gN 1, gN 2]) (b := sIf (fNot (fT (fCall m_is_integer (fCons (fV 2) (fCons (fC (.int 2)) (fCons (fC (.int 400)) (fNil))))))) (rz "BadWheels" ["index"] (fCons (fV 1) (fNil))) (sNil)) (xs := ws.zipIdx) (a := ()) (ρ := [.dat (tupI ws), .un, .un])
    (fun _ ρ p hp ⟨x, y, e⟩ => by
      subst e
      have hm : p.1 ∈ ws := by have := List.mem_zipIdx hp; exact this.2.2 ▸ List.getElem_mem _
      have hb := h.lo p.1 hm
      refine ⟨_, [.dat (tupI ws), .dat (.int p.2), .dat (.int p.1)], rfl, ?_, _, _, rfl⟩
      simp [is_integer_ok, hb.1, hb.2]) ⟨_, _, rfl⟩
  subst hx
  have en : enumD 0 (ws.map PyData.int) = (ws.zipIdx).map fun p => PyData.tuple [.int (p.2 : Nat), .int p.1] := enumD_map PyData.int 0 ws
  have l1 : (1 : Int) ≤ ws.length := by omega
  have l3 : (ws.length : Int) ≤ 3 := by omega
  simp [m_check_wheels, runF, g_check_wheels, rho, l1, l3, en, e, outF, places_together_ok h, Int.not_lt.mpr hp]
/-- is_step, of whatever value -/
def intIn (lo hi : Int) : PyData → Option Bool
  | .int v => some (decide (lo ≤ v) && decide (v ≤ hi))
  | .bool _ => some false
  | .none => some false
  | .str _ => some false
  | .list _ => some false
  | .tuple _ => some false
  | .dict _ => some false
theorem is_integer_any (d : PyData) (lo hi : Int) : ∃ b, intIn lo hi d = some b ∧ m_is_integer [d, .int lo, .int hi] = .ok (.bool b) := by
  cases d with
  | int v => exact ⟨_, rfl, is_integer_ok v lo hi⟩
  | _ => exact ⟨false, rfl, rfl⟩
def stepB : List Int → List PyData → Bool
  | [], [] => true
  | w :: ws, d :: ds => (intIn 0 (w - 1) d).getD false && stepB ws ds
  | _, _ => false
def isStepD (ws : List Int) : PyData → Bool
  | .tuple ds => stepB ws ds
  | _ => false
theorem stepB_len : ∀ {ws ds}, stepB ws ds = true → ds.length = ws.length
  | [], [], _ => rfl
  | w :: ws, d :: ds, h => by
    simp only [stepB, Bool.and_eq_true] at h
    exact congrArg (· + 1) (stepB_len h.2)
theorem stepB_ints : ∀ {ws s}, stepB ws (s.map .int) = decide (okS ws s)
  | [], [] => rfl
  | w :: ws, x :: xs => by
    have e : decide (x ≤ w - 1) = decide (x < w) := by by_cases h : x < w <;> simp [h] <;> omega
    simp only [List.map_cons, stepB, intIn, Option.getD_some, stepB_ints (ws := ws) (s := xs), e]
    by_cases a : 0 ≤ x <;> by_cases b : x < w <;> simp [okS, a, b]
  | [], _ :: _ => rfl
  | _ :: _, [] => rfl
theorem isStepD_tup {ws s} : isStepD ws (tupI s) = decide (okS ws s) := stepB_ints
/-- a step is a tuple of ints -/
theorem stepB_is : ∀ {ws ds}, stepB ws ds = true → ∃ s, ds = s.map .int ∧ okS ws s
  | [], [], _ => ⟨[], rfl, trivial⟩
  | w :: ws, d :: ds, h => by
    simp only [stepB, Bool.and_eq_true] at h
    obtain ⟨s, rfl, hs⟩ := stepB_is h.2
    cases d with
    | int v =>
      have h1 := h.1
      simp only [intIn, Option.getD_some, Bool.and_eq_true, decide_eq_true_eq] at h1
      exact ⟨v :: s, rfl, h1.1, by omega, hs⟩
    | _ => exact absurd h.1 (by simp [intIn])
theorem zip2_int : ∀ (ds : List PyData) (ws : List Int), List.zipWith (fun a b => PyData.tuple [a, b]) ds (ws.map .int) = (ds.zip ws).map fun p => PyData.tuple [p.1, .int p.2]
  | [], _ => rfl
  | _ :: _, [] => rfl
  | d :: ds, w :: ws => by
    show PyData.tuple [d, .int w] :: List.zipWith (fun a b => PyData.tuple [a, b]) ds (ws.map .int) = _
    rw [zip2_int ds ws]; rfl
theorem stepB_zip : ∀ {ws ds}, ds.length = ws.length → stepB ws ds = (ds.zip ws).all fun p => (intIn 0 (p.2 - 1) p.1).getD false
  | [], [], _ => rfl
  | w :: ws, d :: ds, h => by
    simp only [stepB, List.zip_cons_cons, List.all_cons]
    rw [stepB_zip (Nat.succ.inj h)]
@[simp] theorem pNe_int (i j : Int) : pNe (.int i) (.int j) = some (.bool (!decide (i = j))) := by
  have : PyData.eqv (.int i) (.int j) = decide (i = j) := by unfold PyData.eqv; rfl
  unfold pNe
  rw [this]
  rfl
@[simp] theorem pEq_int (i j : Int) : pEq (.int i) (.int j) = some (.bool (decide (i = j))) := by
  have : PyData.eqv (.int i) (.int j) = decide (i = j) := by unfold PyData.eqv; rfl
  unfold pEq
  rw [this]
  rfl
theorem is_step_any {ws : List Int} (d : PyData) : m_is_step [tupI ws, d] = .ok (.bool (isStepD ws d)) := by
  cases d with
  | tuple ds =>
    by_cases hl : ds.length = ws.length
    · obtain ⟨ρ', e⟩ := forL_all (fun ρ => ∃ x y, ρ = [.dat (tupI ws), .dat (.tuple ds), x, y]) (fun p : PyData × Int => PyData.tuple [p.1, .int p.2]) (fun p => (intIn 0 (p.2 - 1) p.1).getD false) (.bool false) (g := gT [gN 2, gN 3])
        (b := sIf (fNot (fT (fCall m_is_integer (fCons (fV 2) (fCons (fC (.int 0)) (fCons (f2 pSub (fV 3) (fC (.int 1))) (fNil))))))) (sRet (fC (.bool false))) (sNil)) (xs := ds.zip ws) (ρ := [.dat (tupI ws), .dat (.tuple ds), .un, .un])
        (fun ρ p hp ⟨x, y, e⟩ => by
          subst e
          obtain ⟨b, hb, hi⟩ := is_integer_any p.1 0 (p.2 - 1)
          refine ⟨_, [.dat (tupI ws), .dat (.tuple ds), .dat p.1, .dat (.int p.2)], rfl, ?_⟩
          rw [hb]
          cases b with
          | true => exact .inl ⟨rfl, by simp [hi], _, _, rfl⟩
          | false => exact .inr ⟨rfl, by simp [hi]⟩) ⟨_, _, rfl⟩
      have z2 : asZip2 [.tuple ds, tupI ws] = some ((ds.zip ws).map fun p => PyData.tuple [p.1, .int p.2]) := by rw [← zip2_int]; rfl
      have hs : isStepD ws (.tuple ds) = (ds.zip ws).all fun p => (intIn 0 (p.2 - 1) p.1).getD false := stepB_zip hl
      rcases e with ⟨c, e, x, y, rfl⟩ | ⟨c, e⟩
      · rw [hs, c]
        simp [m_is_step, runF, g_is_step, rho, isIn, hl, z2, e, outF]
      · rw [hs, c]
        simp [m_is_step, runF, g_is_step, rho, isIn, hl, z2, e, outF]
    · have hs : isStepD ws (.tuple ds) = false := by
        cases q : isStepD ws (.tuple ds) with
        | false => rfl
        | true => exact absurd (stepB_len q) hl
      have hl' : ¬ ((ds.length : Int) = ws.length) := by omega
      rw [hs]
      simp [m_is_step, runF, g_is_step, rho, isIn, hl', outF]
  | _ => simp [m_is_step, runF, g_is_step, rho, isIn, outF, isStepD]
theorem is_step_ok {ws s : List Int} (h : okS ws s) : m_is_step [tupI ws, tupI s] = .ok (.bool true) := by rw [is_step_any, isStepD_tup, decide_eq_true h]
theorem check_step_ok {rz : Rz} {ws s : List Int} (h : okS ws s) : m_check_step rz [tupI ws, tupI s] = .ok .none := by
  simp [m_check_step, runF, g_check_step, rho, is_step_ok h, outF]
theorem check_row_ok {rz : Rz} {ws : List Int} {S : List Stp} (h : ∀ s ∈ S, okS ws s) (hl : S.length ≤ 40) : m_check_row rz [tupI ws, rowD S] = .ok .none := by
  obtain ⟨ρ', e, ⟨x, y, hx⟩⟩ := forL_map (fun (_ : Unit) ρ => ∃ x y, ρ = [.dat (tupI ws), .dat (rowD S), x, y]) (fun p : Stp × Nat => PyData.tuple [.int (p.2 : Nat), tupI p.1]) (fun a _ => a) (g := gT [gN 2, gN 3]) (b := sIf (fNot (fT (fCall m_is_step (fCons (fV 0) (fCons (fV 3) (fNil)))))) (rz "BadRow" ["index"] (fCons (fV 2) (fNil))) (sNil)) (xs := S.zipIdx) (a := ()) (ρ := [.dat (tupI ws), .dat (rowD S), .un, .un])
    (fun _ ρ p hp ⟨x, y, e⟩ => by
      subst e
      have hm : p.1 ∈ S := by have := List.mem_zipIdx hp; exact this.2.2 ▸ List.getElem_mem _
      refine ⟨_, [.dat (tupI ws), .dat (rowD S), .dat (.int p.2), .dat (tupI p.1)], rfl, ?_, _, _, rfl⟩
      simp [is_step_ok (h _ hm)]) ⟨_, _, rfl⟩
  subst hx
  have en : enumD 0 (S.map tupI) = (S.zipIdx).map fun p => PyData.tuple [.int (p.2 : Nat), tupI p.1] := enumD_map tupI 0 S
  have l3 : ¬ ((40 : Int) < S.length) := by omega
  simp [m_check_row, runF, g_check_row, rho, l3, en, e, outF]
end Pu
end TS1

section TS2
set_option Elab.async false
set_option linter.all false
set_option maxRecDepth 100000
set_option maxHeartbeats 410000
namespace Pu
open L2 PySem Cm
theorem rep_zero : ∀ n : Nat, (List.replicate n [PyData.int 0]).flatten = List.replicate n (.int 0)
  | 0 => rfl
  | n + 1 => by rw [List.replicate_succ, List.flatten_cons, rep_zero n]; rfl
theorem zero_rep (ws : List Int) : (zeroS ws).map PyData.int = List.replicate ws.length (.int 0) := by
  unfold zeroS
  rw [List.map_map]
  induction ws with
  | nil => rfl
  | cons w ws ih => rw [List.map_cons, ih]; rfl
theorem mul_zero {ws : List Int} (h : ws.length ≤ 1000) : pMul (.tuple [.int 0]) (.int ws.length) = some (tupI (zeroS ws)) := by
  have c : (0 : Int) ≤ ws.length ∧ (ws.length : Int) ≤ 1000 ∧ [PyData.int 0].length ≤ 1000 := ⟨by omega, by omega, by decide⟩
  unfold pMul
  simp only [c, if_true, and_self]
  rw [tupI, zero_rep, Int.toNat_natCast, rep_zero]
@[simp] theorem kTup_1 (a : PyData) : kTup [a] = some (.tuple [a]) := (rfl)
@[simp] theorem kTup_2 (a b : PyData) : kTup [a, b] = some (.tuple [a, b]) := (rfl)
@[simp] theorem kTup_3 (a b c : PyData) : kTup [a, b, c] = some (.tuple [a, b, c]) := (rfl)
@[simp] theorem kLst_0 : kLst [] = some (.list []) := (rfl)
@[simp] theorem kLst_1 (a : PyData) : kLst [a] = some (.list [a]) := (rfl)
@[simp] theorem kTup_0 : kTup [] = some (.tuple []) := (rfl)
@[simp] theorem pTuple_l (a : List PyData) : pTuple [.list a] = some (.tuple a) := (rfl)
@[simp] theorem pMod_int (i : Int) {j : Int} (h : 0 < j) : pMod (.int i) (.int j) = some (.int (i % j)) := if_pos h
theorem home_step_ok {ws : List Int} (h : ws.length ≤ 1000) : m_home_step [tupI ws] = .ok (tupI (zeroS ws)) := by
  simp [m_home_step, runF, g_home_step, rho, mul_zero h, outF]
theorem law_home_ok {ws : List Int} (h : ws.length ≤ 1000) : m__law_home [tupI ws] = .ok (tupI (zeroS ws)) := by
  simp [m__law_home, runF, g__law_home, rho, mul_zero h, outF]
def trip : List Int → List Int → List Int → List (Int × Int × Int)
  | a :: as, b :: bs, c :: cs => (a, b, c) :: trip as bs cs
  | _, _, _ => []
theorem zip3_int : ∀ (a b c : List Int), zip3w (a.map .int) (b.map .int) (c.map .int) = (trip a b c).map fun p => .tuple [.int p.1, .int p.2.1, .int p.2.2]
  | [], _, _ => rfl
  | _ :: _, [], _ => rfl
  | _ :: _, _ :: _, [] => rfl
  | a :: as, b :: bs, c :: cs => by
    show PyData.tuple _ :: zip3w (as.map .int) (bs.map .int) (cs.map .int) = _
    rw [zip3_int as bs cs]; rfl
theorem trip_add : ∀ (a b w : List Int), (trip a b w).map (fun p => PyData.int ((p.1 + p.2.1) % p.2.2)) = (addS w a b).map .int
  | [], _, [] => rfl
  | [], _, _ :: _ => rfl
  | _ :: _, [], [] => rfl
  | _ :: _, [], _ :: _ => rfl
  | _ :: _, _ :: _, [] => rfl
  | a :: as, b :: bs, w :: ws => by
    show PyData.int ((a + b) % w) :: _ = PyData.int ((a + b) % w) :: _
    rw [trip_add as bs ws]
theorem trip_mem : ∀ {a b w : List Int} {p : Int × Int × Int}, p ∈ trip a b w → p.2.2 ∈ w
  | a :: as, b :: bs, w :: ws, p, h => by
    obtain rfl | h := List.mem_cons.mp h
    · exact List.mem_cons_self
    · exact List.mem_cons_of_mem _ (trip_mem h)
theorem trip_len : ∀ (a b w : List Int), (trip a b w).length ≤ w.length
  | a :: as, b :: bs, w :: ws => Nat.succ_le_succ (trip_len as bs ws)
  | [], _, _ => Nat.zero_le _
  | _ :: _, [], _ => Nat.zero_le _
  | _ :: _, _ :: _, [] => Nat.zero_le _
theorem add_steps_ok {ws a b : List Int} (hw : ∀ w ∈ ws, 0 < w) (hl : ws.length ≤ LIM) (ha : a.length = ws.length) (hb : b.length = ws.length) : m_add_steps [tupI ws, tupI a, tupI b] = .ok (tupI (addS ws a b)) := by
  have z : asZip3 [tupI a, tupI b, tupI ws] = some ((trip a b ws).map fun p => PyData.tuple [.int p.1, .int p.2.1, .int p.2.2]) := by
    rw [← zip3_int]
    exact if_pos ⟨by simp [ha, hb], by simp [ha]⟩
  have lc := lc_map (fun p : Int × Int × Int => PyData.tuple [.int p.1, .int p.2.1, .int p.2.2]) (fun p => PyData.int ((p.1 + p.2.1) % p.2.2)) (fl := fZip3 (fCons (fV 1) (fCons (fV 2) (fCons (fV 0) (fNil))))) (g := gT [gN 3, gN 4, gN 5]) (e := f2 pMod (f2 pAdd (fV 3) (fV 4)) (fV 5)) (vs := [3, 4, 5])
    (ρ := [.dat (tupI ws), .dat (tupI a), .dat (tupI b), .un, .un, .un]) (ρ0 := [.dat (tupI ws), .dat (tupI a), .dat (tupI b), .un, .un, .un]) (ρ' := [.dat (tupI ws), .dat (tupI a), .dat (tupI b), .un, .un, .un]) (xs := trip a b ws)
    (by simp [z]) rfl rfl (Nat.le_trans (trip_len _ _ _) hl) fun p hp => ⟨[.dat (tupI ws), .dat (tupI a), .dat (tupI b), .dat (.int p.1), .dat (.int p.2.1), .dat (.int p.2.2)], [.dat (tupI ws), .dat (tupI a), .dat (tupI b), .dat (.int p.1), .dat (.int p.2.1), .dat (.int p.2.2)], rfl, by simp [hw _ (trip_mem hp)], rfl⟩
  simp [m_add_steps, runF, g_add_steps, rho, lc, outF, trip_add]
  rfl
/-! by places -/
theorem upTo_map (n : Nat) : upTo 0 n = (List.range n).map fun i : Nat => PyData.int i := by
  unfold upTo
  exact List.map_congr_left fun i _ => by rw [Int.zero_add]
theorem atI_nat {α : Type} (xs : List α) (i : Nat) : atI xs (i : Int) = xs[i]? := by
  unfold atI ixN
  by_cases h : i < xs.length
  · simp [h]
  · simp [h]
@[simp] theorem pIx_tupI (k : Stp) (i : Nat) : pIx (tupI k) (.int i) = (k[i]?).map .int := by
  show atI (k.map PyData.int) i = _
  rw [atI_nat, List.getElem?_map]
theorem asRng1_nat {n : Nat} (h : n ≤ 1000000) : asRng1 [.int n] = some ((List.range n).map fun i : Nat => PyData.int i) := by
  have c : -(2 ^ 62) ≤ (n : Int) ∧ (n : Int) ≤ 1000000 := ⟨by omega, by omega⟩
  show (if _ then _ else _) = _
  rw [if_pos c, Int.toNat_natCast, upTo_map]
theorem range_add : ∀ {ws a b : List Int}, a.length = ws.length → b.length = ws.length → (List.range ws.length).map (fun i => (a.getD i 0 + b.getD i 0) % ws.getD i 0) = addS ws a b
  | [], _, _, _, _ => rfl
  | w :: ws, x :: xs, y :: ys, h1, h2 => by
    rw [List.length_cons, List.range_succ_eq_map, List.map_cons, List.map_map (l := List.range _)]
    exact congrArg (_ :: ·) (range_add (Nat.succ.inj h1) (Nat.succ.inj h2))
theorem get_some {xs : List Int} {i : Nat} (h : i < xs.length) : xs[i]? = some (xs.getD i 0) := by
  rw [List.getElem?_eq_getElem h, List.getD_eq_getElem?_getD, List.getElem?_eq_getElem h]; rfl
theorem law_added_ok {ws a b : List Int} (hw : ∀ w ∈ ws, 0 < w) (hl : ws.length ≤ 1000) (ha : a.length = ws.length) (hb : b.length = ws.length) : m__law_added [tupI ws, tupI a, tupI b] = .ok (tupI (addS ws a b)) := by
  have lc := lc_map (fun i : Nat => PyData.int i) (fun i => PyData.int ((a.getD i 0 + b.getD i 0) % ws.getD i 0)) (fl := fRng1 (fCons (f1 pLen (fCons (fV 0) (fNil))) (fNil))) (g := gN 3) (e := f2 pMod (f2 pAdd (f2 pIx (fV 1) (fV 3)) (f2 pIx (fV 2) (fV 3))) (f2 pIx (fV 0) (fV 3))) (vs := [3])
    (ρ := [.dat (tupI ws), .dat (tupI a), .dat (tupI b), .un]) (ρ0 := [.dat (tupI ws), .dat (tupI a), .dat (tupI b), .un]) (ρ' := [.dat (tupI ws), .dat (tupI a), .dat (tupI b), .un]) (xs := List.range ws.length)
    (by simp [asRng1_nat (show ws.length ≤ 1000000 by omega)]) rfl rfl (by rw [List.length_range]; unfold LIM; omega) fun i hi => by
      have hi := List.mem_range.mp hi
      refine ⟨[.dat (tupI ws), .dat (tupI a), .dat (tupI b), .dat (.int i)], [.dat (tupI ws), .dat (tupI a), .dat (tupI b), .dat (.int i)], rfl, ?_, rfl⟩
      have p : 0 < ws.getD i 0 := by
        rw [List.getD_eq_getElem?_getD, List.getElem?_eq_getElem (h := hi)]
        exact hw _ (List.getElem_mem hi)
      simp only [ev_2, ev_bind, ev_V, List.getElem?_cons_succ, List.getElem?_cons_zero, pIx_tupI, get_some hi, get_some (ha ▸ hi), get_some (hb ▸ hi), Option.map_some, ev_lift, pAdd_int, pMod_int _ p]
  have e : (List.range ws.length).map (fun i => PyData.int ((a.getD i 0 + b.getD i 0) % ws.getD i 0)) = (addS ws a b).map .int := by
    rw [← range_add ha hb, List.map_map]; rfl
  rw [e] at lc
  simp [m__law_added, runF, g__law_added, rho, lc, outF]
  rfl
def timesS (ws : List Int) (s : Stp) (n : Int) : Stp := (trip s ws ws).map fun p => p.1 * n % p.2.1
theorem timesS_cons (w x : Int) (ws s : List Int) (n : Int) : timesS (w :: ws) (x :: s) n = x * n % w :: timesS ws s n := rfl
theorem range_times : ∀ {ws s : List Int} {n : Int}, s.length = ws.length → (List.range ws.length).map (fun i => s.getD i 0 * n % ws.getD i 0) = timesS ws s n
  | [], [], _, _ => rfl
  | w :: ws, x :: xs, n, h => by
    rw [List.length_cons, List.range_succ_eq_map, List.map_cons, List.map_map, timesS_cons]
    exact congrArg (_ :: ·) (range_times (Nat.succ.inj h))
theorem timesS_len : ∀ {ws s : List Int} {n : Int}, s.length = ws.length → (timesS ws s n).length = ws.length
  | [], [], _, _ => rfl
  | w :: ws, x :: xs, n, h => by rw [timesS_cons]; exact congrArg (· + 1) (timesS_len (Nat.succ.inj h))
theorem pMul_big {i j : Int} (h : -(2 ^ 64) < j ∧ j < 2 ^ 64) : pMul (.int i) (.int j) = some (.int (i * j)) := if_pos (.inr h)
theorem law_times_ok {ws s : List Int} {n : Int} (hw : ∀ w ∈ ws, 0 < w) (hl : ws.length ≤ 1000) (ha : s.length = ws.length) (hn : -(2 ^ 64) < n ∧ n < 2 ^ 64) : m__law_times [tupI ws, tupI s, .int n] = .ok (tupI (timesS ws s n)) := by
  have lc := lc_map (fun i : Nat => PyData.int i) (fun i => PyData.int (s.getD i 0 * n % ws.getD i 0)) (fl := fRng1 (fCons (f1 pLen (fCons (fV 0) (fNil))) (fNil))) (g := gN 3) (e := f2 pMod (f2 pMul (f2 pIx (fV 1) (fV 3)) (fV 2)) (f2 pIx (fV 0) (fV 3))) (vs := [3])
    (ρ := [.dat (tupI ws), .dat (tupI s), .dat (.int n), .un]) (ρ0 := [.dat (tupI ws), .dat (tupI s), .dat (.int n), .un]) (ρ' := [.dat (tupI ws), .dat (tupI s), .dat (.int n), .un]) (xs := List.range ws.length)
    (by simp [asRng1_nat (show ws.length ≤ 1000000 by omega)]) rfl rfl (by rw [List.length_range]; unfold LIM; omega) fun i hi => by
      have hi := List.mem_range.mp hi
      refine ⟨[.dat (tupI ws), .dat (tupI s), .dat (.int n), .dat (.int i)], [.dat (tupI ws), .dat (tupI s), .dat (.int n), .dat (.int i)], rfl, ?_, rfl⟩
      have p : 0 < ws.getD i 0 := by
        rw [List.getD_eq_getElem?_getD, List.getElem?_eq_getElem (h := hi)]
        exact hw _ (List.getElem_mem hi)
      simp only [ev_2, ev_bind, ev_V, List.getElem?_cons_succ, List.getElem?_cons_zero, pIx_tupI, get_some hi, get_some (ha ▸ hi), Option.map_some, ev_lift, pMul_big hn, pMod_int _ p]
  have e : (List.range ws.length).map (fun i => PyData.int (s.getD i 0 * n % ws.getD i 0)) = (timesS ws s n).map .int := by
    rw [← range_times ha, List.map_map]; rfl
  rw [e] at lc
  simp [m__law_times, runF, g__law_times, rho, lc, outF]
  rfl
/-! totals -/
def totS (ws : List Int) (S : List Stp) : Stp := S.foldl (addS ws) (zeroS ws)
theorem okS_foldl {ws : List Int} (hw : ∀ w ∈ ws, 0 < w) : ∀ {S : List Stp} {a : Stp}, (∀ s ∈ S, okS ws s) → okS ws a → okS ws (S.foldl (addS ws) a)
  | [], _, _, h => h
  | s :: S, a, hs, h => okS_foldl (S := S) hw (fun t ht => hs t (List.mem_cons_of_mem _ ht)) (okS_add hw h (hs s List.mem_cons_self))
theorem okS_tot {ws : List Int} (hw : ∀ w ∈ ws, 0 < w) {S : List Stp} (hs : ∀ s ∈ S, okS ws s) : okS ws (totS ws S) := okS_foldl hw hs (okS_zero hw)
theorem foldl_add {ws : List Int} (hw : ∀ w ∈ ws, 0 < w) : ∀ {S : List Stp} {a b : Stp}, (∀ s ∈ S, okS ws s) → okS ws a → okS ws b → S.foldl (addS ws) (addS ws a b) = addS ws a (S.foldl (addS ws) b)
  | [], _, _, _, _, _ => rfl
  | s :: S, a, b, hs, ha, hb => by
    have h1 := hs s List.mem_cons_self
    show S.foldl (addS ws) (addS ws (addS ws a b) s) = addS ws a (S.foldl (addS ws) (addS ws b s))
    rw [addS_assoc ha hb h1]
    exact foldl_add hw (fun t ht => hs t (List.mem_cons_of_mem _ ht)) ha (okS_add hw hb h1)
theorem totS_cons {ws : List Int} (hw : ∀ w ∈ ws, 0 < w) {S : List Stp} {s : Stp} (h : okS ws s) (hs : ∀ s ∈ S, okS ws s) : totS ws (s :: S) = addS ws s (totS ws S) := by
  show S.foldl (addS ws) (addS ws (zeroS ws) s) = _
  rw [addS_comm (okS_zero hw) h]
  exact foldl_add hw hs h (okS_zero hw)
theorem totS_snoc (ws : List Int) (S : List Stp) (s : Stp) : totS ws (S ++ [s]) = addS ws (totS ws S) s := by
  unfold totS; rw [List.foldl_append]; rfl
theorem okS_lens {ws : List Int} {S : List Stp} (hs : ∀ s ∈ S, okS ws s) : ∀ s ∈ S, s.length = ws.length := fun s h => (hs s h).len
theorem law_total_ok {ws : List Int} (hw : ∀ w ∈ ws, 0 < w) (hl : ws.length ≤ 1000) {S : List Stp} {d : PyData} (hd : asSeq d = some (S.map tupI)) (hs : ∀ s ∈ S, okS ws s) : m__law_total [tupI ws, d] = .ok (tupI (totS ws S)) := by
  obtain ⟨ρ', e, ⟨x, hx, _⟩⟩ := forL_map (fun (a : Stp) ρ => ∃ x, ρ = [.dat (tupI ws), .dat d, .dat (tupI a), x] ∧ okS ws a) tupI (addS ws) (g := gN 3) (b := sAsg (fCall m__law_added (fCons (fV 0) (fCons (fV 2) (fCons (fV 3) (fNil))))) (gN 2)) (xs := S) (a := zeroS ws) (ρ := [.dat (tupI ws), .dat d, .dat (tupI (zeroS ws)), .un])
    (fun a ρ s m ⟨x, e, oa⟩ => by
      subst e
      refine ⟨_, [.dat (tupI ws), .dat d, .dat (tupI (addS ws a s)), .dat (tupI s)], rfl, ?_, _, rfl, okS_add hw oa (hs s m)⟩
      simp [law_added_ok hw hl oa.len (hs s m).len]) ⟨_, rfl, okS_zero hw⟩
  subst hx
  simp [m__law_total, runF, g__law_total, rho, law_home_ok hl, hd, e, outF]
  rfl
theorem total_loop {ws : List Int} (hw : ∀ w ∈ ws, 0 < w) (hl : ws.length ≤ LIM) {S : List Stp} (hs : ∀ s ∈ S, okS ws s) : ∃ x, sForL (gN 3) (sAsg (fCall m_add_steps (fCons (fV 0) (fCons (fV 2) (fCons (fV 3) (fNil))))) (gN 2)) (S.map tupI) [.dat (tupI ws), .dat (rowD S), .dat (tupI (zeroS ws)), .un] = .nx [.dat (tupI ws), .dat (rowD S), .dat (tupI (totS ws S)), x] := by
  obtain ⟨ρ', e, ⟨x, hx, _⟩⟩ := forL_map (fun (a : Stp) ρ => ∃ x, ρ = [.dat (tupI ws), .dat (rowD S), .dat (tupI a), x] ∧ okS ws a) tupI (addS ws) (g := gN 3) (b := sAsg (fCall m_add_steps (fCons (fV 0) (fCons (fV 2) (fCons (fV 3) (fNil))))) (gN 2)) (xs := S) (a := zeroS ws) (ρ := [.dat (tupI ws), .dat (rowD S), .dat (tupI (zeroS ws)), .un])
    (fun a ρ s m ⟨x, e, oa⟩ => by
      subst e
      refine ⟨_, [.dat (tupI ws), .dat (rowD S), .dat (tupI (addS ws a s)), .dat (tupI s)], rfl, ?_, _, rfl, okS_add hw oa (hs s m)⟩
      simp [add_steps_ok hw hl oa.len (hs s m).len]) ⟨_, rfl, okS_zero hw⟩
  subst hx
  exact ⟨x, e⟩
theorem total_ok {rz : Rz} {ws : List Int} (h : okW ws) {S : List Stp} (hs : ∀ s ∈ S, okS ws s) (hn : S.length ≤ 40) : m_total rz [tupI ws, rowD S] = .ok (tupI (totS ws S)) := by
  obtain ⟨x, e⟩ := total_loop h.wpos h.lim hs
  have := h.few
  simp [m_total, runF, g_total, rho, check_wheels_ok h, check_row_ok hs hn, home_step_ok (show ws.length ≤ 1000 by omega), e, outF]
end Pu
end TS2

section TS3
set_option Elab.async false
set_option linter.all false
set_option maxRecDepth 100000
set_option maxHeartbeats 410000
namespace Pu
open L2 PySem Cm
@[simp] theorem ev_callW (i : Nat) (m : Drw → List PyData → Rw) (fs : M (List PyData)) (ρ : Pu.Env) : fCallW i m fs ρ = match ρ[i]? with
  | some (.par _ _) => (match fs ρ with
    | .ok ds ρ1 => (match ρ1[i]? with
      | some (.par l w) => (match m w ds with
        | .ok d w' => .ok d (ρ1.set i (.par l w'))
        | .exc _ => .no
        | .no => .no)
      | _ => .no)
    | .exc e ρ1 => .exc e ρ1
    | .no => .no)
  | _ => .no := by
  unfold fCallW needW M.bind
  cases e : ρ[i]? with
  | none => rfl
  | some s =>
    cases s with
    | par l w =>
      cases fs ρ with
      | ok ds ρ1 =>
        cases h : ρ1[i]? with
        | none => simp only [h]
        | some t =>
          cases t with
          | par l w => (simp only [h]) <;> (cases m w ds <;> rfl)
          | _ => simp only [h]
      | _ => rfl
    | _ => rfl
/-- the draws that are left: nothing else of them matters -/
abbrev okD (w : Drw) : Prop := 0 ≤ w.a
theorem taken (w : Drw) (n : Int) (h1 : 1 ≤ n) (h2 : n < 1073741824) (ha : okD w) : ∃ r w', m__law_taken w [.int n] = .ok (.int r) w' ∧ 0 ≤ r ∧ r < n ∧ okD w' := taken_ok w n h1 h2 ha
theorem atI_lt {α : Type} (xs : List α) {i : Int} (h0 : 0 ≤ i) (h : i < xs.length) : ∃ x, x ∈ xs ∧ atI xs i = some x := by
  obtain ⟨n, rfl⟩ := Int.eq_ofNat_of_zero_le (a := _) h0
  have hn : n < xs.length := by omega
  exact ⟨xs[n], List.getElem_mem hn, by rw [show ((n : Nat) : Int) = ((n : Nat) : Int) from rfl]; exact (atI_nat xs n).trans (List.getElem?_eq_getElem hn)⟩
theorem pick_ok {α : Type} (w : Drw) (f : α → PyData) (xs : List α) {d : PyData} (hd : d = .list (xs.map f) ∨ d = .tuple (xs.map f)) (h0 : 0 < xs.length) (h1 : xs.length < 1073741824) (ha : okD w) : ∃ x w', x ∈ xs ∧ m__law_pick w [d] = .ok (f x) w' ∧ okD w' := by
  obtain ⟨r, w', e, h2, h3, h4⟩ := taken w xs.length (by omega) (by omega) ha
  obtain ⟨y, hy, ey⟩ := atI_lt (xs.map f) h2 (by rw [List.length_map]; exact h3)
  obtain ⟨x, hx, rfl⟩ := List.mem_map.mp hy
  refine ⟨x, w', hx, ?_, h4⟩
  have hl : pLen [d] = some (.int xs.length) := by rcases hd with rfl | rfl <;> simp
  have hi : pIx d (.int r) = some (f x) := by rcases hd with rfl | rfl <;> exact ey
  simp [m__law_pick, runW, g__law_pick, rhoW, hl, e, hi, outW]
def wheelL : List (List Int) := [[2], [3], [4], [5], [6], [7], [8], [9], [10], [11], [12], [13], [2, 2], [2, 4], [3, 3], [2, 6], [4, 4], [2, 2, 2], [3, 6], [2, 3], [16], [15], [2, 2, 4]]
theorem wheels_ok (w : Drw) (ha : okD w) : ∃ ws w', ws ∈ wheelL ∧ m__law_wheels w [] = .ok (tupI ws) w' ∧ okD w' := by
  obtain ⟨ws, w', h1, h2, h3⟩ := pick_ok w tupI wheelL (d := .list (wheelL.map tupI)) (.inl rfl) (by decide) (by decide) ha
  refine ⟨ws, w', h1, ?_, h3⟩
  have e1 : ∀ xs ys : List PyData, xs.length + ys.length ≤ LIM → pAdd (.list xs) (.list ys) = some (.list (xs ++ ys)) := fun xs ys h => if_pos h
  have h2' : m__law_pick w [.list [tupI [2], tupI [3], tupI [4], tupI [5], tupI [6], tupI [7], tupI [8], tupI [9], tupI [10], tupI [11], tupI [12], tupI [13], tupI [2, 2], tupI [2, 4], tupI [3, 3], tupI [2, 6], tupI [4, 4], tupI [2, 2, 2], tupI [3, 6], tupI [2, 3], tupI [16], tupI [15], tupI [2, 2, 4]]] = .ok (tupI ws) w' := h2
  simp only [tupI, List.map_cons, List.map_nil] at h2' ⊢
  simp [m__law_wheels, runW, g__law_wheels, rhoW, kLst, LIM, e1, h2', outW]
theorem wheelL_ok : ∀ ws ∈ wheelL, okW ws := by
  intro ws h
  have : ∀ ws ∈ wheelL, (1 ≤ ws.length ∧ ws.length ≤ 3 ∧ (∀ w ∈ ws, 2 ≤ w ∧ w ≤ 400) ∧ ws.foldl (· * ·) 1 ≤ 18) := by decide
  obtain ⟨a, b, c, d⟩ := this ws h
  exact ⟨a, b, c, by omega⟩
theorem wheelL_18 : ∀ ws ∈ wheelL, ws.foldl (· * ·) 1 ≤ 18 := by decide
end Pu
end TS3

section TS4
set_option Elab.async false
set_option linter.all false
set_option maxRecDepth 100000
set_option maxHeartbeats 410000
namespace Pu
open L2 PySem Cm
theorem pAdd_lst {xs ys : List PyData} (h : xs.length + ys.length ≤ LIM) : pAdd (.list xs) (.list ys) = some (.list (xs ++ ys)) := if_pos h
theorem pAdd_tup {xs ys : List PyData} (h : xs.length + ys.length ≤ LIM) : pAdd (.tuple xs) (.tuple ys) = some (.tuple (xs ++ ys)) := if_pos h
theorem pAdd_tupI {s t : Stp} (h : s.length + t.length ≤ LIM) : pAdd (tupI s) (tupI t) = some (tupI (s ++ t)) := by
  show pAdd (.tuple (s.map .int)) (.tuple (t.map .int)) = some (.tuple ((s ++ t).map .int))
  rw [pAdd_tup (by simpa using h), List.map_append]
theorem pAdd_tup1 {s : Stp} (i : Int) (h : s.length + 1 ≤ LIM) : pAdd (tupI s) (.tuple [.int i]) = some (tupI (s ++ [i])) := pAdd_tupI (s := s) (t := [i]) h
/-! ### all steps -/
def grow (F : List Stp) (w : Int) : List Stp := F.flatMap fun s => (List.range w.toNat).map fun i : Nat => s ++ [(i : Int)]
def stepsL (ws : List Int) : List Stp := ws.foldl grow [[]]
theorem grow_len (F : List Stp) (w : Int) : (grow F w).length = F.length * w.toNat := by
  unfold grow
  rw [List.length_flatMap]
  simp only [List.length_range, List.length_map]
  induction F with
  | nil => simp
  | cons a F ih => rw [List.map_cons, List.sum_cons, ih, List.length_cons, Nat.succ_mul, Nat.add_comm]
theorem grow_mem {F : List Stp} {w : Int} {s : Stp} : s ∈ grow F w ↔ ∃ t ∈ F, ∃ i : Int, 0 ≤ i ∧ i < w ∧ s = t ++ [i] := by
  simp only [grow, List.mem_flatMap, List.mem_map, List.mem_range]
  constructor
  · rintro ⟨t, ht, n, hn, rfl⟩
    exact ⟨t, ht, n, by omega, by omega, rfl⟩
  · rintro ⟨t, ht, i, h0, h1, rfl⟩
    exact ⟨t, ht, i.toNat, by omega, by rw [Int.toNat_of_nonneg h0]⟩
theorem okS_snoc : ∀ {ws : List Int} {w : Int} {s : Stp} {i : Int}, okS (ws ++ [w]) (s ++ [i]) ↔ okS ws s ∧ 0 ≤ i ∧ i < w
  | [], w, [], i => by simp [okS]
  | v :: ws, w, x :: xs, i => by
    have := okS_snoc (ws := ws) (w := w) (s := xs) (i := i)
    simp only [List.cons_append, okS, this]
    constructor
    · rintro ⟨a, b, c, d⟩; exact ⟨⟨a, b, c⟩, d⟩
    · rintro ⟨⟨a, b, c⟩, d⟩; exact ⟨a, b, c, d⟩
  | [], w, x :: xs, i => by
    cases xs <;> simp [okS]
  | v :: ws, w, [], i => by
    cases ws <;> simp [okS]
theorem steps_mem : ∀ {us vs : List Int} {F : List Stp} {s : Stp}, (∀ s, s ∈ F ↔ okS us s) → (s ∈ vs.foldl grow F ↔ okS (us ++ vs) s)
  | us, [], F, s, h => by simpa using h s
  | us, v :: vs, F, s, h => by
    have := steps_mem (us := us ++ [v]) (vs := vs) (F := grow F v) (s := s) fun s => by
      rw [grow_mem]
      constructor
      · rintro ⟨t, ht, i, h0, h1, rfl⟩
        exact okS_snoc.mpr ⟨(h t).mp ht, h0, h1⟩
      · intro hs
        rcases List.eq_nil_or_concat s with rfl | ⟨t, i, rfl⟩
        · have := hs.len; simp at this
        · rw [List.concat_eq_append] at hs ⊢
          obtain ⟨a, b, c⟩ := okS_snoc.mp hs
          exact ⟨t, (h t).mpr a, i, b, c, rfl⟩
    rw [List.foldl_cons, this, List.append_assoc]; rfl
theorem mem_steps {ws : List Int} {s : Stp} : s ∈ stepsL ws ↔ okS ws s := by
  have := steps_mem (us := []) (vs := ws) (F := [[]]) (s := s) fun s => by
    cases s <;> simp [okS]
  exact this
def sizeN (ws : List Int) : Nat := (ws.map Int.toNat).foldl (· * ·) 1
theorem foldl_mul (xs : List Nat) : ∀ a : Nat, xs.foldl (· * ·) a = a * xs.foldl (· * ·) 1 := by
  induction xs with
  | nil => intro a; simp
  | cons x xs ih => intro a; rw [List.foldl_cons, List.foldl_cons, ih, ih (1 * x), Nat.one_mul, Nat.mul_assoc]
theorem foldl_mul_int (xs : List Int) (h : ∀ x ∈ xs, 0 ≤ x) : ∀ a : Nat, xs.foldl (· * ·) (a : Int) = (((xs.map Int.toNat).foldl (· * ·) a : Nat) : Int) := by
  induction xs with
  | nil => intro a; rfl
  | cons x xs ih =>
    intro a
    have hx := h x List.mem_cons_self
    rw [List.foldl_cons, List.map_cons, List.foldl_cons, ← ih (fun y hy => h y (List.mem_cons_of_mem _ hy))]
    congr 1
    rw [Int.natCast_mul, Int.toNat_of_nonneg hx]
theorem size_int {ws : List Int} (h : ∀ w ∈ ws, 0 < w) : ws.foldl (· * ·) 1 = (sizeN ws : Int) := foldl_mul_int ws (fun w hw => Int.le_of_lt (h w hw)) 1
theorem sizeN_le {ws : List Int} (h : okW ws) : sizeN ws ≤ 400 := by
  have := h.prod
  rw [size_int h.wpos] at this
  omega
theorem fold_pos : ∀ (vs : List Int), (∀ v ∈ vs, 0 < v) → 1 ≤ (vs.map Int.toNat).foldl (· * ·) 1
  | [], _ => Nat.le_refl _
  | v :: vs, h => by
    have := fold_pos vs fun x hx => h x (List.mem_cons_of_mem _ hx)
    have h1 := h v List.mem_cons_self
    rw [List.map_cons, List.foldl_cons, foldl_mul, Nat.one_mul]
    exact Nat.mul_pos (by omega) this
theorem foldl_grow_len : ∀ (vs : List Int) (F : List Stp), (vs.foldl grow F).length = F.length * (vs.map Int.toNat).foldl (· * ·) 1
  | [], F => by simp
  | v :: vs, F => by
    rw [List.foldl_cons, foldl_grow_len vs, grow_len, List.map_cons, List.foldl_cons, foldl_mul _ (1 * v.toNat), Nat.one_mul, Nat.mul_assoc]
theorem steps_len (ws : List Int) : (stepsL ws).length = sizeN ws := by
  show (ws.foldl grow [[]]).length = _
  rw [foldl_grow_len, List.length_singleton, Nat.one_mul]; rfl
/-- what is held while the steps grow -/
structure Gro (us vs : List Int) (F : List Stp) : Prop where
  len : ∀ s ∈ F, s.length ≤ 3
  many : F.length * (vs.map Int.toNat).foldl (· * ·) 1 ≤ 400
theorem asRng1_w {w : Int} (h0 : 0 ≤ w) (h1 : w ≤ 400) : asRng1 [.int w] = some ((List.range w.toNat).map fun i : Nat => PyData.int i) := by
  have := asRng1_nat (n := w.toNat) (by omega)
  rwa [Int.toNat_of_nonneg h0] at this
/-- for step in found: longer = longer + [step + (one,) for one in range(wheel)] -/
theorem steps_inner {W : PyData} {w : Int} (h0 : 0 ≤ w) (h1 : w ≤ 400) {F : List Stp} (hF : ∀ s ∈ F, s.length ≤ 3) (hn : F.length * w.toNat ≤ 400) {x y : Sl} : ∃ z, sForL (gN 4) (sAsg (f2 pAdd (fV 3) (fLc (fRng1 (fCons (fV 2) (fNil))) (gN 5) (fYes) (f2 pAdd (fV 4) (f1 kTup (fCons (fV 5) (fNil)))) [5])) (gN 3)) (F.map tupI)
    [.dat W, .dat (.list (F.map tupI)), .dat (.int w), .dat (.list []), x, .un] = .nx [.dat W, .dat (.list (F.map tupI)), .dat (.int w), .dat (.list ((grow F w).map tupI)), z, .un] := by
  have key : ∀ (G R : List Stp), G ++ R = F → ∀ {x : Sl}, ∃ z, sForL (gN 4) (sAsg (f2 pAdd (fV 3) (fLc (fRng1 (fCons (fV 2) (fNil))) (gN 5) (fYes) (f2 pAdd (fV 4) (f1 kTup (fCons (fV 5) (fNil)))) [5])) (gN 3)) (R.map tupI)
      [.dat W, .dat (.list (F.map tupI)), .dat (.int w), .dat (.list ((grow G w).map tupI)), x, .un] = .nx [.dat W, .dat (.list (F.map tupI)), .dat (.int w), .dat (.list ((grow F w).map tupI)), z, .un] := by
    intro G R
    induction R generalizing G with
    | nil => intro e x; rw [List.append_nil] at e; subst e; exact ⟨x, rfl⟩
    | cons s R ih =>
      intro e x
      have hs : s.length ≤ 3 := hF s (by rw [← e]; simp)
      have lc := lc_map (fun i : Nat => PyData.int i) (fun i : Nat => tupI (s ++ [(i : Int)])) (fl := fRng1 (fCons (fV 2) (fNil))) (g := gN 5) (e := f2 pAdd (fV 4) (f1 kTup (fCons (fV 5) (fNil)))) (vs := [5])
        (ρ := [.dat W, .dat (.list (F.map tupI)), .dat (.int w), .dat (.list ((grow G w).map tupI)), .dat (tupI s), .un]) (ρ0 := [.dat W, .dat (.list (F.map tupI)), .dat (.int w), .dat (.list ((grow G w).map tupI)), .dat (tupI s), .un])
        (ρ' := [.dat W, .dat (.list (F.map tupI)), .dat (.int w), .dat (.list ((grow G w).map tupI)), .dat (tupI s), .un]) (xs := List.range w.toNat)
        (by simp [asRng1_w h0 h1]) rfl rfl (by rw [List.length_range]; unfold LIM; omega) fun i hi =>
          ⟨[.dat W, .dat (.list (F.map tupI)), .dat (.int w), .dat (.list ((grow G w).map tupI)), .dat (tupI s), .dat (.int i)], [.dat W, .dat (.list (F.map tupI)), .dat (.int w), .dat (.list ((grow G w).map tupI)), .dat (tupI s), .dat (.int i)], rfl,
            by simp [pAdd_tup1 (s := s) i (by unfold LIM; omega)], rfl⟩
      have gl : (grow G w).length + w.toNat ≤ 400 := by
        rw [grow_len]
        have : (G.length + 1) * w.toNat ≤ F.length * w.toNat := Nat.mul_le_mul_right _ (by rw [← e]; simp)
        rw [Nat.succ_mul] at this
        omega
      obtain ⟨z, hz⟩ := ih (G ++ [s]) (by rw [← e]; simp) (x := .dat (tupI s))
      have eg : (grow G w).map tupI ++ (List.range w.toNat).map (fun i : Nat => tupI (s ++ [(i : Int)])) = (grow (G ++ [s]) w).map tupI := by
        unfold grow
        rw [List.flatMap_append, List.map_append]
        simp
      refine ⟨z, ?_⟩
      rw [← hz]
      have pa := pAdd_lst (xs := (grow G w).map tupI) (ys := (List.range w.toNat).map (fun i : Nat => tupI (s ++ [(i : Int)]))) (by simp only [List.length_map, List.length_range]; unfold LIM; omega)
      rw [eg] at pa
      simp only [List.map_cons, sForL, ev_gN, List.set_cons_succ, List.set_cons_zero, ev_asg, ev_E, ev_2, ev_bind, ev_V, List.getElem?_cons_succ, List.getElem?_cons_zero, lc, pa, ev_lift]
  exact key [] F rfl
theorem law_steps_ok {ws : List Int} (h : okW ws) : m__law_steps [tupI ws] = .ok (.list ((stepsL ws).map tupI)) := by
  have key : ∀ (us vs : List Int), us ++ vs = ws → ∀ (F : List Stp), (∀ s ∈ F, s.length = us.length) → F.length * (vs.map Int.toNat).foldl (· * ·) 1 ≤ 400 → ∀ {x y z : Sl}, ∃ x' y' z', sForL (gN 2) (sSeq (sAsg (f1 kLst (fNil)) (gN 3)) (sSeq (sFor (fSeq (fV 1)) (gN 4) (sAsg (f2 pAdd (fV 3) (fLc (fRng1 (fCons (fV 2) (fNil))) (gN 5) (fYes) (f2 pAdd (fV 4) (f1 kTup (fCons (fV 5) (fNil)))) [5])) (gN 3))) (sAsg (fV 3) (gN 1)))) (vs.map .int)
      [.dat (tupI ws), .dat (.list (F.map tupI)), x, y, z, .un] = .nx [.dat (tupI ws), .dat (.list ((vs.foldl grow F).map tupI)), x', y', z', .un] := by
    intro us vs
    induction vs generalizing us with
    | nil => intro _ F _ _ x y z; exact ⟨x, y, z, rfl⟩
    | cons v vs ih =>
      intro e F hF hn x y z
      have hv := h.lo v (by rw [← e]; simp)
      have hp := fold_pos vs fun u hu => h.wpos u (by rw [← e]; simp [hu])
      rw [List.map_cons, List.foldl_cons, foldl_mul, Nat.one_mul, ← Nat.mul_assoc] at hn
      have h3 : us.length + 1 ≤ 3 := by have := h.few; rw [← e] at this; simp at this; omega
      obtain ⟨z1, hz⟩ := steps_inner (W := tupI ws) (w := v) (by omega) hv.2 (F := F) (fun s hs => by rw [hF s hs]; omega) (Nat.le_trans (Nat.le_mul_of_pos_right _ hp) hn) (x := z) (y := z)
      obtain ⟨x', y', z', hi⟩ := ih (us ++ [v]) (by rw [← e]; simp) (grow F v) (fun s hs => by
        obtain ⟨t, ht, i, _, _, rfl⟩ := grow_mem.mp hs
        rw [List.length_append, hF t ht]; simp) (by rw [grow_len]; exact hn) (x := .dat (.int v)) (y := .dat (.list ((grow F v).map tupI))) (z := z1)
      refine ⟨x', y', z', ?_⟩
      rw [List.foldl_cons, ← hi]
      simp only [List.map_cons, sForL, ev_gN, List.set_cons_succ, List.set_cons_zero, ev_seqS, ev_asg, ev_E, ev_1, ev_nil, ev_bind, kLst_0, ev_lift, ev_for, ev_seq, ev_V, List.getElem?_cons_succ, List.getElem?_cons_zero, asSeq_lst, hz]
  obtain ⟨x, y, z, e⟩ := key [] ws rfl [[]] (by simp) (by simp only [List.length_singleton, Nat.one_mul]; exact sizeN_le h) (x := .un) (y := .un) (z := .un)
  have e' : sForL (gN 2) (sSeq (sAsg (f1 kLst (fNil)) (gN 3)) (sSeq (sFor (fSeq (fV 1)) (gN 4) (sAsg (f2 pAdd (fV 3) (fLc (fRng1 (fCons (fV 2) (fNil))) (gN 5) (fYes) (f2 pAdd (fV 4) (f1 kTup (fCons (fV 5) (fNil)))) [5])) (gN 3))) (sAsg (fV 3) (gN 1)))) (ws.map .int)
      [.dat (tupI ws), .dat (.list [.tuple []]), .un, .un, .un, .un] = .nx [.dat (tupI ws), .dat (.list ((stepsL ws).map tupI)), x, y, z, .un] := e
  simp [m__law_steps, runF, g__law_steps, rho, e', outF]
end Pu
end TS4

section TS5
set_option Elab.async false
set_option linter.all false
set_option maxRecDepth 100000
set_option maxHeartbeats 410000
namespace Pu
open L2 PySem Cm
theorem lc2L_map {β γ : Type} (f : β → PyData) (f2 : γ → PyData) (inner : β → List γ) (z : β → γ → PyData) {fl1 : M (List PyData)} {g g1 : TM} {e : M PyData} {vs vs1 : List Nat} {ρ : Pu.Env} : ∀ {xs : List β} {acc : List PyData}, acc.length + (xs.flatMap inner).length ≤ LIM →
    (∀ x ∈ xs, ∃ ρ1 ρ3 ρ4, g (f x) ρ = some ρ1 ∧ fl1 ρ1 = .ok ((inner x).map f2) ρ3 ∧ wipeE ρ3 vs1 = ρ4 ∧ wipeE ρ4 vs = ρ ∧ ∀ y ∈ inner x, ∃ ρ5 ρ6, g1 (f2 y) ρ4 = some ρ5 ∧ e ρ5 = .ok (z x y) ρ6 ∧ wipeE ρ6 vs1 = ρ4) →
    fLc2L g fYes fl1 g1 fYes e vs vs1 (xs.map f) acc ρ = .ok (acc ++ xs.flatMap fun x => (inner x).map (z x)) ρ
  | [], acc, _, _ => by simp [fLc2L]
  | x :: xs, acc, hn, h => by
    obtain ⟨ρ1, ρ3, ρ4, h1, h2, h3, h4, h5⟩ := h x List.mem_cons_self
    have lc := lcL_map (t := fYes) (vs := vs1) (e := e) (g := g1) f2 (fun _ => true) (z x) (xs := inner x) (acc := acc) (ρ := ρ4) fun y m => by
      obtain ⟨ρ5, ρ6, a, b, c⟩ := h5 y m
      exact ⟨ρ5, ρ5, a, rfl, by rw [if_pos rfl]; exact ⟨ρ6, b, c⟩⟩
    rw [List.filter_eq_self.mpr (fun _ _ => rfl)] at lc
    rw [List.flatMap_cons, List.length_append] at hn
    have hn1 : acc.length + ((inner x).map f2).length ≤ LIM := by rw [List.length_map]; omega
    have ih := lc2L_map f f2 inner z (fl1 := fl1) (g := g) (g1 := g1) (e := e) (vs := vs) (vs1 := vs1) (ρ := ρ) (xs := xs) (acc := acc ++ (inner x).map (z x)) (by rw [List.length_append, List.length_map]; omega) fun y m => h y (List.mem_cons_of_mem _ m)
    simp only [List.map_cons, fLc2L, h1, show ∀ ρ, fYes ρ = .ok true ρ from fun _ => rfl, h2, hn1, if_true, h3, lc, h4, ih, List.flatMap_cons, List.append_assoc]
theorem all_steps_ok {ws : List Int} (h : okW ws) : m_all_steps [tupI ws] = .ok (.list ((stepsL ws).map tupI)) := by
  have key : ∀ (us vs : List Int), us ++ vs = ws → ∀ (F : List Stp), (∀ s ∈ F, s.length = us.length) → F.length * (vs.map Int.toNat).foldl (· * ·) 1 ≤ 400 → ∀ {x : Sl}, ∃ x', sForL (gN 2) (sAsg (fLc2 (fSeq (fV 1)) (gN 3) (fYes) (fRng1 (fCons (fV 2) (fNil))) (gN 4) (fYes) (f1 kTup (fStar (fV 3) (fCons (fV 4) (fNil)))) [3, 4] [4]) (gN 1)) (vs.map .int)
      [.dat (tupI ws), .dat (.list (F.map tupI)), x, .un, .un] = .nx [.dat (tupI ws), .dat (.list ((vs.foldl grow F).map tupI)), x', .un, .un] := by
    intro us vs
    induction vs generalizing us with
    | nil => intro _ F _ _ x; exact ⟨x, rfl⟩
    | cons v vs ih =>
      intro e F hF hn x
      have hv := h.lo v (by rw [← e]; simp)
      have hp := fold_pos vs fun u hu => h.wpos u (by rw [← e]; simp [hu])
      rw [List.map_cons, List.foldl_cons, foldl_mul, Nat.one_mul, ← Nat.mul_assoc] at hn
      have hn1 : F.length * v.toNat ≤ 400 := Nat.le_trans (Nat.le_mul_of_pos_right _ hp) hn
      have h3 : us.length + 1 ≤ 3 := by have := h.few; rw [← e] at this; simp at this; omega
      have fl : (F.flatMap fun _ => List.range v.toNat).length = F.length * v.toNat := by
        rw [List.length_flatMap]
        simp only [List.length_range]
        clear hn hn1 hF
        induction F with
        | nil => simp
        | cons a F ih => rw [List.map_cons, List.sum_cons, ih, List.length_cons, Nat.succ_mul, Nat.add_comm]
      have lc := lc2L_map tupI (fun i : Nat => PyData.int i) (fun _ : Stp => List.range v.toNat) (fun s i => tupI (s ++ [(i : Int)])) (fl1 := fRng1 (fCons (fV 2) (fNil))) (g := gN 3) (g1 := gN 4) (e := f1 kTup (fStar (fV 3) (fCons (fV 4) (fNil)))) (vs := [3, 4]) (vs1 := [4])
        (ρ := [.dat (tupI ws), .dat (.list (F.map tupI)), .dat (.int v), .un, .un]) (xs := F) (acc := []) (by rw [fl]; simp; unfold LIM; omega) fun s hs =>
          ⟨[.dat (tupI ws), .dat (.list (F.map tupI)), .dat (.int v), .dat (tupI s), .un], [.dat (tupI ws), .dat (.list (F.map tupI)), .dat (.int v), .dat (tupI s), .un], [.dat (tupI ws), .dat (.list (F.map tupI)), .dat (.int v), .dat (tupI s), .un], rfl, by simp [asRng1_w (show 0 ≤ v by omega) hv.2], rfl, rfl, fun i hi =>
            ⟨[.dat (tupI ws), .dat (.list (F.map tupI)), .dat (.int v), .dat (tupI s), .dat (.int i)], [.dat (tupI ws), .dat (.list (F.map tupI)), .dat (.int v), .dat (tupI s), .dat (.int i)], rfl, by
              have : kTup (s.map PyData.int ++ [PyData.int (i : Int)]) = some (tupI (s ++ [(i : Int)])) := by
                have hl : (s.map PyData.int ++ [PyData.int (i : Int)]).length ≤ LIM := by have := hF s hs; simp; unfold LIM; omega
                rw [kTup, if_pos hl, tupI, List.map_append]; rfl
              simp [fStar, this], rfl⟩⟩
      have eg : (F.flatMap fun s => (List.range v.toNat).map fun i : Nat => tupI (s ++ [(i : Int)])) = (grow F v).map tupI := by
        unfold grow
        rw [List.map_flatMap]
        congr 1
        funext s
        rw [List.map_map]; rfl
      rw [eg, List.nil_append] at lc
      obtain ⟨x', hi⟩ := ih (us ++ [v]) (by rw [← e]; simp) (grow F v) (fun s hs => by
        obtain ⟨t, ht, i, _, _, rfl⟩ := grow_mem.mp hs
        rw [List.length_append, hF t ht]; simp) (by rw [grow_len]; exact hn) (x := .dat (.int v))
      refine ⟨x', ?_⟩
      rw [List.foldl_cons, ← hi]
      have w1 : wipeE [.dat (tupI ws), .dat (.list (F.map tupI)), .dat (.int v), .un, .un] [3, 4] = [.dat (tupI ws), .dat (.list (F.map tupI)), .dat (.int v), .un, .un] := rfl
      simp only [List.map_cons, sForL, ev_gN, List.set_cons_succ, List.set_cons_zero, ev_asg, ev_E, fLc2, ev_bind, ev_seq, ev_V, List.getElem?_cons_succ, List.getElem?_cons_zero, asSeq_lst, ev_lift, w1, lc]
  obtain ⟨x, e⟩ := key [] ws rfl [[]] (by simp) (by simp only [List.length_singleton, Nat.one_mul]; exact sizeN_le h) (x := .un)
  have e' : sForL (gN 2) (sAsg (fLc2 (fSeq (fV 1)) (gN 3) (fYes) (fRng1 (fCons (fV 2) (fNil))) (gN 4) (fYes) (f1 kTup (fStar (fV 3) (fCons (fV 4) (fNil)))) [3, 4] [4]) (gN 1)) (ws.map .int)
      [.dat (tupI ws), .dat (.list [.tuple []]), .un, .un, .un] = .nx [.dat (tupI ws), .dat (.list ((stepsL ws).map tupI)), x, .un, .un] := e
  simp [m_all_steps, runF, g_all_steps, rho, e', outF]
/-! ### lots -/
def lotsL : Nat → List (List Int)
  | 0 => [[]]
  | n + 1 => lotsL n ++ (lotsL n).map (· ++ [(n : Int)])
theorem lots_len : ∀ n, (lotsL n).length = 2 ^ n
  | 0 => rfl
  | n + 1 => by rw [lotsL, List.length_append, List.length_map, lots_len, Nat.pow_succ]; omega
theorem lot_len : ∀ {n : Nat} {l : List Int}, l ∈ lotsL n → l.length ≤ n
  | 0, l, h => by simp [lotsL] at h; subst h; exact Nat.le_refl _
  | n + 1, l, h => by
    rw [lotsL, List.mem_append, List.mem_map] at h
    rcases h with h | ⟨m, h, rfl⟩
    · exact Nat.le_succ_of_le (lot_len h)
    · rw [List.length_append]; exact Nat.succ_le_succ (lot_len h)
theorem law_lots_ok {n : Nat} (h : n ≤ 19) : m__law_lots [.int n] = .ok (.list ((lotsL n).map tupI)) := by
  have p2 : 2 ^ n ≤ 2 ^ 19 := Nat.pow_le_pow_right (by decide) h
  have key : ∀ (k m : Nat), k + m = n → ∀ {x : Sl}, ∃ x', sForL (gN 2) (sAsg (f2 pAdd (fV 1) (fLc (fSeq (fV 1)) (gN 3) (fYes) (f2 pAdd (fV 3) (f1 kTup (fCons (fV 2) (fNil)))) [3])) (gN 1)) ((List.range' k m).map fun i : Nat => PyData.int i)
      [.dat (.int n), .dat (.list ((lotsL k).map tupI)), x, .un] = .nx [.dat (.int n), .dat (.list ((lotsL n).map tupI)), x', .un] := by
    intro k m
    induction m generalizing k with
    | zero => intro e x; rw [Nat.add_zero] at e; subst e; exact ⟨x, rfl⟩
    | succ m ih =>
      intro e x
      have hk : 2 ^ k * 2 ≤ 2 ^ n := by rw [← Nat.pow_succ]; exact Nat.pow_le_pow_right (by decide) (by omega)
      have lim : 2 ^ 19 ≤ LIM := by decide
      have lc := lc_map tupI (fun l => tupI (l ++ [(k : Int)])) (fl := fSeq (fV 1)) (g := gN 3) (e := f2 pAdd (fV 3) (f1 kTup (fCons (fV 2) (fNil)))) (vs := [3])
        (ρ := [.dat (.int n), .dat (.list ((lotsL k).map tupI)), .dat (.int k), .un]) (ρ0 := [.dat (.int n), .dat (.list ((lotsL k).map tupI)), .dat (.int k), .un]) (ρ' := [.dat (.int n), .dat (.list ((lotsL k).map tupI)), .dat (.int k), .un]) (xs := lotsL k)
        (by simp) rfl rfl (by rw [lots_len]; omega) fun l hl =>
          ⟨[.dat (.int n), .dat (.list ((lotsL k).map tupI)), .dat (.int k), .dat (tupI l)], [.dat (.int n), .dat (.list ((lotsL k).map tupI)), .dat (.int k), .dat (tupI l)], rfl,
            by simp [pAdd_tup1 (s := l) k (by have := lot_len hl; unfold LIM; omega)], rfl⟩
      have pa := pAdd_lst (xs := (lotsL k).map tupI) (ys := (lotsL k).map (fun l => tupI (l ++ [(k : Int)]))) (by rw [List.length_map, List.length_map, lots_len]; omega)
      have eg : (lotsL k).map tupI ++ (lotsL k).map (fun l => tupI (l ++ [(k : Int)])) = (lotsL (k + 1)).map tupI := by
        rw [lotsL, List.map_append, List.map_map]; rfl
      rw [eg] at pa
      obtain ⟨x', hi⟩ := ih (k + 1) (by omega) (x := .dat (.int k))
      refine ⟨x', ?_⟩
      rw [← hi]
      simp only [List.range'_succ, List.map_cons, sForL, ev_gN, List.set_cons_succ, List.set_cons_zero, ev_asg, ev_E, ev_2, ev_bind, ev_V, List.getElem?_cons_succ, List.getElem?_cons_zero, lc, pa, ev_lift]
  obtain ⟨x, e⟩ := key 0 n (Nat.zero_add n) (x := .un)
  rw [← List.range_eq_range'] at e
  have e' : sForL (gN 2) (sAsg (f2 pAdd (fV 1) (fLc (fSeq (fV 1)) (gN 3) (fYes) (f2 pAdd (fV 3) (f1 kTup (fCons (fV 2) (fNil)))) [3])) (gN 1)) ((List.range n).map fun i : Nat => PyData.int i)
      [.dat (.int n), .dat (.list [.tuple []]), .un, .un] = .nx [.dat (.int n), .dat (.list ((lotsL n).map tupI)), x, .un] := e
  simp [m__law_lots, runF, g__law_lots, rho, asRng1_nat (show n ≤ 1000000 by omega), e', outF]
end Pu
end TS5

section TS7
set_option Elab.async false
set_option linter.all false
set_option maxRecDepth 100000
set_option maxHeartbeats 410000
namespace Pu
open L2 PySem Cm
/-- a comprehension whose turns draw -/
theorem lcL_draw {β γ : Type} (f : β → PyData) (fz : γ → PyData) (Q : γ → Prop) (mk : Drw → Pu.Env) {g : TM} {e : M PyData} {vs : List Nat} : ∀ {xs : List β} {acc : List PyData} {w : Drw}, okD w → (∀ x ∈ xs, ∀ w, okD w → ∃ z w' ρ1 ρ3, g (f x) (mk w) = some ρ1 ∧ e ρ1 = .ok (fz z) ρ3 ∧ Q z ∧ okD w' ∧ wipeE ρ3 vs = mk w') →
    ∃ (zs : List γ) (w' : Drw), fLcL g fYes e vs (xs.map f) acc (mk w) = .ok (acc ++ zs.map fz) (mk w') ∧ zs.length = xs.length ∧ (∀ z ∈ zs, Q z) ∧ okD w'
  | [], acc, w, hw, _ => ⟨[], w, by simp [fLcL], rfl, (by simp), hw⟩
  | x :: xs, acc, w, hw, h => by
    obtain ⟨z, w1, ρ1, ρ3, h1, h2, h3, h4, h5⟩ := h x List.mem_cons_self w hw
    obtain ⟨zs, w2, e2, l2, q2, o2⟩ := lcL_draw f fz Q mk (g := g) (e := e) (vs := vs) (xs := xs) (acc := acc ++ [fz z]) h4 fun y m => h y (List.mem_cons_of_mem _ m)
    refine ⟨z :: zs, w2, ?_, by simp [l2], ?_, o2⟩
    · simp only [List.map_cons, fLcL, h1, show fYes ρ1 = .ok true ρ1 from rfl, h2, h5]
      rw [e2]; simp
    · intro y hy
      rcases List.mem_cons.mp hy with (e | hy)
      · rw [e]; exact h3
      · exact q2 y hy
theorem lc_draw {β γ : Type} (f : β → PyData) (fz : γ → PyData) (Q : γ → Prop) (mk : Drw → Pu.Env) {fl : M (List PyData)} {g : TM} {e : M PyData} {vs : List Nat} {xs : List β} {w : Drw} (hw : okD w) (hl : fl (mk w) = .ok (xs.map f) (mk w)) (hm : ∀ w, wipeE (mk w) vs = mk w) (hn : xs.length ≤ LIM)
    (h : ∀ x ∈ xs, ∀ w, okD w → ∃ z w' ρ1 ρ3, g (f x) (mk w) = some ρ1 ∧ e ρ1 = .ok (fz z) ρ3 ∧ Q z ∧ okD w' ∧ wipeE ρ3 vs = mk w') :
    ∃ (zs : List γ) (w' : Drw), fLc fl g fYes e vs (mk w) = .ok (.list (zs.map fz)) (mk w') ∧ zs.length = xs.length ∧ (∀ z ∈ zs, Q z) ∧ okD w' := by
  obtain ⟨zs, w', e1, l1, q1, o1⟩ := lcL_draw f fz Q mk (acc := []) hw h
  refine ⟨zs, w', ?_, l1, q1, o1⟩
  have hn' : (xs.map f).length ≤ LIM := by rw [List.length_map]; exact hn
  simp only [fLc, M.bind, hl, hn', if_true, hm, e1, List.nil_append]
theorem callW_ok {i : Nat} {m : Drw → List PyData → Rw} {fs : M (List PyData)} {as : List PyData} {ρ ρ1 : Pu.Env} {l0 l : Bool} {w0 w w' : Drw} {d : PyData} (h0 : ρ[i]? = some (.par l0 w0)) (h : fs ρ = .ok as ρ1) (hρ : ρ1[i]? = some (.par l w)) (hm : m w as = .ok d w') : fCallW i m fs ρ = .ok d (ρ1.set i (.par l w')) := by
  rw [ev_callW, h0, h]; dsimp only; rw [hρ]; dsimp only; rw [hm]
theorem cons_ok {fa : M PyData} {fr : M (List PyData)} {a : PyData} {r : List PyData} {ρ ρ1 ρ2 : Pu.Env} (ha : fa ρ = .ok a ρ1) (hr : fr ρ1 = .ok r ρ2) : fCons fa fr ρ = .ok (a :: r) ρ2 := by simp only [fCons, M.bind, ha, hr, M.pure]
theorem runW_rt {n : Nat} {g : SM} {w w' : Drw} {ds : List PyData} {d : PyData} {r : Pu.Env} (h : g (rhoW n w ds) = .rt d (.par false w' :: r)) : runW n g w ds = .ok d w' := by unfold runW; rw [h]; rfl
theorem times_okS : ∀ {ws s : List Int} {n : Int}, (∀ w ∈ ws, 0 < w) → s.length = ws.length → okS ws (timesS ws s n)
  | [], [], _, _, _ => trivial
  | w :: ws, x :: xs, n, hw, h => by
    rw [timesS_cons]
    exact ⟨Int.emod_nonneg _ (by have := hw w List.mem_cons_self; omega), Int.emod_lt_of_pos _ (hw w List.mem_cons_self), times_okS (fun v hv => hw v (List.mem_cons_of_mem _ hv)) (Nat.succ.inj h)⟩
theorem asRng1_i {n : Int} (h0 : 0 ≤ n) (h1 : n ≤ 1000) : asRng1 [.int n] = some ((List.range n.toNat).map fun i : Nat => PyData.int i) := by
  have := asRng1_nat (n := n.toNat) (by omega)
  rwa [Int.toNat_of_nonneg h0] at this
theorem cut_lo {xs : List PyData} {k : Int} (h0 : 0 ≤ k) (h1 : k ≤ xs.length) : cutD xs none (some k) = xs.take k.toNat := by
  obtain ⟨n, rfl⟩ := Int.eq_ofNat_of_zero_le (a := _) h0
  unfold cutD
  rw [HT.sIx_none, HT.sIx_nat, List.drop_zero, Nat.sub_zero, Nat.min_eq_left (by omega), Int.toNat_natCast]
theorem cut_hi {xs : List PyData} {k : Int} (h0 : 0 ≤ k) (h1 : k ≤ xs.length) : cutD xs (some k) none = xs.drop k.toNat := by
  obtain ⟨n, rfl⟩ := Int.eq_ofNat_of_zero_le (a := _) h0
  unfold cutD
  rw [HT.sIx_none, HT.sIx_nat, Nat.min_eq_left (by omega), Int.toNat_natCast, List.take_of_length_le (by simp)]
theorem cut_row_lo {S : List Stp} {k : Int} (h0 : 0 ≤ k) (h1 : k ≤ S.length) : pCut (rowD S) none (some k) = some (rowD (S.take k.toNat)) := by
  show some (PyData.tuple (cutD (S.map tupI) none (some k))) = _
  rw [cut_lo h0 (by simpa using h1), ← List.map_take]; rfl
theorem cut_row_hi {S : List Stp} {k : Int} (h0 : 0 ≤ k) (h1 : k ≤ S.length) : pCut (rowD S) (some k) none = some (rowD (S.drop k.toNat)) := by
  show some (PyData.tuple (cutD (S.map tupI) (some k) none)) = _
  rw [cut_hi h0 (by simpa using h1), ← List.map_drop]; rfl
theorem pAdd_row {S T : List Stp} (h : S.length + T.length ≤ LIM) : pAdd (rowD S) (rowD T) = some (rowD (S ++ T)) := by
  show pAdd (.tuple (S.map tupI)) (.tuple (T.map tupI)) = some (.tuple ((S ++ T).map tupI))
  rw [pAdd_tup (by simpa using h), List.map_append]
theorem asg_env {f : M PyData} {g : TM} {d : PyData} {ρ ρ1 ρ2 : Pu.Env} (h : f ρ = .ok d ρ1) (hg : g d ρ1 = some ρ2) : sAsg f g ρ = .nx ρ2 := by simp only [sAsg, sE, h, hg]
theorem cut_ok {fa : M PyData} {fl fh : M (Option Int)} {a d : PyData} {l h : Option Int} {ρ ρ1 ρ2 ρ3 : Pu.Env} (ha : fa ρ = .ok a ρ1) (hl : fl ρ1 = .ok l ρ2) (hh : fh ρ2 = .ok h ρ3) (e : pCut a l h = some d) : fCut fa fl fh ρ = .ok d ρ3 := by simp only [fCut, M.bind, ha, hl, hh, M.lift, e]
theorem o_ok {fa : M PyData} {i : Int} {ρ ρ1 : Pu.Env} (h : fa ρ = .ok (.int i) ρ1) : fO fa ρ = .ok (some i) ρ1 := by simp only [fO, M.bind, h, M.lift, asI]
theorem seq_rt {a b : SM} {d : PyData} {ρ ρ1 : Pu.Env} (h : a ρ = .rt d ρ1) : sSeq a b ρ = .rt d ρ1 := by unfold sSeq; rw [h]
/-- the row that is drawn: what matters is that it is one -/
theorem law_row_ok {ws : List Int} (hW : okW ws) (w : Drw) (ha : okD w) {most : Nat} (hm : most ≤ 100) : ∃ S w', m__law_row w [tupI ws, .int most] = .ok (rowD S) w' ∧ (∀ s ∈ S, okS ws s) ∧ S.length ≤ most ∧ okD w' := by
  have hw := hW.wpos
  have hl : ws.length ≤ 1000 := by have := hW.few; omega
  have sl : (stepsL ws).length = sizeN ws := steps_len ws
  have sp : 0 < (stepsL ws).length := by rw [sl]; exact fold_pos ws hw
  have s4 : (stepsL ws).length ≤ 400 := by rw [sl]; exact sizeN_le hW
  have mem : ∀ s ∈ stepsL ws, okS ws s := fun s h => mem_steps.mp h
  -- the draws ahead
  obtain ⟨cnt, w1, e1, c0, c1, o1⟩ := taken w (most + 1) (by omega) (by omega) ha
  obtain ⟨unit, w2, um, e2, o2⟩ := pick_ok w1 tupI (stepsL ws) (d := .list ((stepsL ws).map tupI)) (.inl rfl) sp (by omega) o1
  obtain ⟨kind, w3, e3, k0, k1, o3⟩ := taken w2 3 (by omega) (by omega) o2
  have hu := mem unit um
  let St : PyData := .list ((stepsL ws).map tupI)
  let e0 (w : Drw) : Pu.Env := [.par false w, .dat (tupI ws), .dat (.int most), .un, .un, .un, .un, .un, .un, .un]
  let eA (w : Drw) : Pu.Env := [.par false w, .dat (tupI ws), .dat (.int most), .dat St, .un, .un, .un, .un, .un, .un]
  let eB (w : Drw) : Pu.Env := [.par false w, .dat (tupI ws), .dat (.int most), .dat St, .dat (.int cnt), .dat (tupI unit), .un, .un, .un, .un]
  let eC (w : Drw) : Pu.Env := [.par false w, .dat (tupI ws), .dat (.int most), .dat St, .dat (.int cnt), .dat (tupI unit), .dat (.int kind), .un, .un, .un]
  have p1 : sAsg (fCall m__law_steps (fCons (fV 1) (fNil))) (gN 3) (e0 w) = .nx (eA w) := asg_ok (call_ok rfl (law_steps_ok hW))
  have p2 : sAsg (f1 kTup (fCons (fCallW 0 m__law_taken (fCons (f2 pAdd (fV 2) (fC (.int 1))) (fNil))) (fCons (fCallW 0 m__law_pick (fCons (fV 3) (fNil))) (fNil)))) (gT [gN 4, gN 5]) (eA w) = .nx (eB w2) :=
    asg_env (op1 (cons_ok (callW_ok (ρ1 := eA w) rfl rfl rfl e1) (cons_ok (callW_ok (ρ1 := eA w1) rfl rfl rfl e2) rfl)) (kTup_2 _ _)) rfl
  have p3 : sAsg (fCallW 0 m__law_taken (fCons (fC (.int 3)) (fNil))) (gN 6) (eB w2) = .nx (eC w3) := asg_ok (callW_ok (ρ1 := eB w2) rfl rfl rfl e3)
  have cn : cnt.toNat ≤ most := by omega
  have rg : ∀ w, fRng1 (fCons (fV 4) (fNil)) (eC w) = .ok ((List.range cnt.toNat).map fun i : Nat => PyData.int i) (eC w) := fun w => lift1 (as := [.int cnt]) rfl (asRng1_i c0 (by omega))
  have fin : ∀ {S : List Stp} {w' : Drw} {r : Pu.Env}, (∀ s ∈ S, okS ws s) → S.length ≤ most → okD w' → g__law_row (e0 w) = .rt (rowD S) (.par false w' :: r) → ∃ S w', m__law_row w [tupI ws, .int most] = .ok (rowD S) w' ∧ (∀ s ∈ S, okS ws s) ∧ S.length ≤ most ∧ okD w' := fun a b c d => ⟨_, _, runW_rt (g := g__law_row) d, a, b, c⟩
  by_cases hk : kind = 0
  · obtain ⟨zs, w4, e4, l4, q4, o4⟩ := lc_draw (fun i : Nat => PyData.int i) tupI (okS ws) eC (g := gN 9) (e := fCallW 0 m__law_pick (fCons (fV 3) (fNil))) (vs := [9]) o3 (rg w3) (fun _ => rfl) (by rw [List.length_range]; unfold LIM; omega) fun i _ v ov => by
      obtain ⟨s, v', sm, ev, ov'⟩ := pick_ok v tupI (stepsL ws) (d := St) (.inl rfl) sp (by omega) ov
      exact ⟨s, v', (eC v).set 9 (.dat (.int i)), (eC v').set 9 (.dat (.int i)), rfl, callW_ok (ρ1 := (eC v).set 9 (.dat (.int i))) rfl rfl rfl ev, mem s sm, ov', rfl⟩
    rw [List.length_range] at l4
    refine fin q4 (by omega) o4 (seq_nx p1 (seq_nx p2 (seq_nx p3 (seq_rt (if_yes (ρ1 := eC w3) (tb_ok (op2 rfl rfl ?_)) (ret_ok (op1 (cons_ok e4 rfl) (pTuple_l _))))))))
    rw [pEq_int, decide_eq_true hk]
  · have p4 : sIf (fTB (f2 pEq (fV 6) (fC (.int 0)))) (sRet (f1 pTuple (fCons (fLc (fRng1 (fCons (fV 4) (fNil))) (gN 9) (fYes) (fCallW 0 m__law_pick (fCons (fV 3) (fNil))) [9]) (fNil)))) (sNil) (eC w3) = .nx (eC w3) :=
      if_no (ρ1 := eC w3) (tb_ok (op2 rfl rfl (by rw [pEq_int, decide_eq_false hk]))) rfl
    obtain ⟨zs, w4, e4, l4, q4, o4⟩ := lc_draw (fun i : Nat => PyData.int i) tupI (okS ws) eC (g := gN 9) (e := fCall m__law_times (fCons (fV 1) (fCons (fV 5) (fCons (f2 pAdd (fC (.int 1)) (fCallW 0 m__law_taken (fCons (f2 pAdd (fC (.int 1)) (fCallW 0 m__law_taken (fCons (fC (.int 3)) (fNil)))) (fNil)))) (fNil))))) (vs := [9]) o3 (rg w3) (fun _ => rfl) (by rw [List.length_range]; unfold LIM; omega) fun i _ v ov => by
      obtain ⟨a, v1, ea, a0, a1, ov1⟩ := taken v 3 (by omega) (by omega) ov
      obtain ⟨b, v2, eb, b0, b1, ov2⟩ := taken v1 (1 + a) (by omega) (by omega) ov1
      exact ⟨timesS ws unit (1 + b), v2, (eC v).set 9 (.dat (.int i)), (eC v2).set 9 (.dat (.int i)), rfl,
        call_ok (as := [tupI ws, tupI unit, .int (1 + b)]) (cons_ok rfl (cons_ok rfl (cons_ok (op2 rfl (callW_ok (ρ1 := (eC v1).set 9 (.dat (.int i))) rfl (cons_ok (op2 rfl (callW_ok (ρ1 := (eC v).set 9 (.dat (.int i))) rfl rfl rfl ea) rfl) rfl) rfl eb) rfl) rfl))) (law_times_ok hw hl hu.len ⟨by omega, by omega⟩), times_okS hw hu.len, ov2, rfl⟩
    rw [List.length_range] at l4
    let eD (w : Drw) : Pu.Env := [.par false w, .dat (tupI ws), .dat (.int most), .dat St, .dat (.int cnt), .dat (tupI unit), .dat (.int kind), .dat (rowD zs), .un, .un]
    have p5 : sAsg (f1 pTuple (fCons (fLc (fRng1 (fCons (fV 4) (fNil))) (gN 9) (fYes) (fCall m__law_times (fCons (fV 1) (fCons (fV 5) (fCons (f2 pAdd (fC (.int 1)) (fCallW 0 m__law_taken (fCons (f2 pAdd (fC (.int 1)) (fCallW 0 m__law_taken (fCons (fC (.int 3)) (fNil)))) (fNil)))) (fNil))))) [9]) (fNil))) (gN 7) (eC w3) = .nx (eD w4) :=
      asg_ok (ρ1 := eC w4) (op1 (cons_ok e4 rfl) (pTuple_l _))
    by_cases hb : kind = 1 ∨ cnt = 0
    · refine fin q4 (by omega) o4 (seq_nx p1 (seq_nx p2 (seq_nx p3 (seq_nx p4 (seq_nx p5 (seq_rt (if_yes (ρ1 := eD w4) ?_ (ret_ok rfl))))))))
      by_cases h1 : kind = 1
      · exact or_yes (tb_ok (op2 rfl rfl (by rw [pEq_int, decide_eq_true h1])))
      · exact or_no (ρ1 := eD w4) (tb_ok (op2 rfl rfl (by rw [pEq_int, decide_eq_false h1]))) (tb_ok (op2 rfl rfl (by rw [pEq_int, decide_eq_true (hb.resolve_left h1)])))
    · have p6 : sIf (fOr (fTB (f2 pEq (fV 6) (fC (.int 1)))) (fTB (f2 pEq (fV 4) (fC (.int 0))))) (sRet (fV 7)) (sNil) (eD w4) = .nx (eD w4) :=
        if_no (ρ1 := eD w4) (or_no (ρ1 := eD w4) (tb_ok (op2 rfl rfl (by rw [pEq_int, decide_eq_false fun h => hb (.inl h)]))) (tb_ok (op2 rfl rfl (by rw [pEq_int, decide_eq_false fun h => hb (.inr h)])))) rfl
      have cp : cnt ≠ 0 := fun h => hb (.inr h)
      obtain ⟨at_, w5, e5, t0, t1, o5⟩ := taken w4 cnt (by omega) (by omega) o4
      obtain ⟨s, w6, sm, e6, o6⟩ := pick_ok w5 tupI (stepsL ws) (d := St) (.inl rfl) sp (by omega) o5
      let eE (w : Drw) : Pu.Env := [.par false w, .dat (tupI ws), .dat (.int most), .dat St, .dat (.int cnt), .dat (tupI unit), .dat (.int kind), .dat (rowD zs), .dat (.int at_), .un]
      have p7 : sAsg (fCallW 0 m__law_taken (fCons (fV 4) (fNil))) (gN 8) (eD w4) = .nx (eE w5) := asg_ok (callW_ok (i := 0) (fs := fCons (fV 4) fNil) (as := [.int cnt]) (ρ1 := eD w4) rfl rfl rfl e5)
      have zl : zs.length = cnt.toNat := l4
      have c1 := cut_row_lo (S := zs) (k := at_) t0 (by omega)
      have c2 := cut_row_hi (S := zs) (k := at_ + 1) (by omega) (by omega)
      have a1 : pAdd (rowD (zs.take at_.toNat)) (.tuple [tupI s]) = some (rowD (zs.take at_.toNat ++ [s])) := pAdd_row (T := [s]) (by simp; unfold LIM; omega)
      have a2 : pAdd (rowD (zs.take at_.toNat ++ [s])) (rowD (zs.drop (at_ + 1).toNat)) = some (rowD ((zs.take at_.toNat ++ [s]) ++ zs.drop (at_ + 1).toNat)) := pAdd_row (by simp; unfold LIM; omega)
      refine fin (S := (zs.take at_.toNat ++ [s]) ++ zs.drop (at_ + 1).toNat) ?_ (by simp; omega) o6 (seq_nx p1 (seq_nx p2 (seq_nx p3 (seq_nx p4 (seq_nx p5 (seq_nx p6 (seq_nx p7 (ret_ok (ρ1 := eE w6) (op2 (op2 (cut_ok (ρ3 := eE w5) rfl rfl (o_ok rfl) c1) (op1 (cons_ok (callW_ok (ρ1 := eE w5) rfl rfl rfl e6) rfl) (kTup_1 _)) a1) (cut_ok (ρ3 := eE w6) rfl (o_ok (op2 rfl rfl rfl)) rfl c2) a2)))))))))
      intro x hx
      simp only [List.mem_append, List.mem_singleton] at hx
      rcases hx with (hx | rfl) | hx
      · exact q4 x (List.mem_of_mem_take hx)
      · exact mem _ sm
      · exact q4 x (List.mem_of_mem_drop hx)
end Pu
end TS7

section TS8
set_option Elab.async false
set_option linter.all false
set_option maxRecDepth 100000
set_option maxHeartbeats 410000
namespace Pu
open L2 PySem Cm
theorem pEq_refl {d : PyData} (p : d.plain = true) (h : d.depth ≤ 32) : pEq d d = some (.bool true) := by
  unfold pEq
  rw [if_pos (by simp [p, h]), PySem.SeqAt.eqv_refl_plain d p]
theorem pNe_refl {d : PyData} (p : d.plain = true) (h : d.depth ≤ 32) : pNe d d = some (.bool false) := by
  unfold pNe
  rw [if_pos (by simp [p, h]), PySem.SeqAt.eqv_refl_plain d p]; rfl
/-! ### _law_alike of a value and itself -/
inductive Good : Nat → PyData → Prop
  | int (j : Nat) (i : Int) : Good (j + 1) (.int i)
  | bl (j : Nat) (b : Bool) : Good (j + 1) (.bool b)
  | non (j : Nat) : Good (j + 1) .none
  | lst {j : Nat} {xs : List PyData} : xs.length ≤ LIM → (∀ x ∈ xs, Good j x) → Good (j + 1) (.list xs)
  | tup {j : Nat} {xs : List PyData} : xs.length ≤ LIM → (∀ x ∈ xs, Good j x) → Good (j + 1) (.tuple xs)
theorem op1p {g : PyData → PyData} {fa : M PyData} {a : PyData} {ρ ρ1 : Pu.Env} (ha : fa ρ = .ok a ρ1) : f1 (fun d => some (g d)) fa ρ = .ok (g a) ρ1 := by simp only [f1, M.bind, ha, M.lift]
theorem andV_yes {fa fb : M PyData} {ρ ρ1 ρ2 : Pu.Env} {d : PyData} (h : fa ρ = .ok (.bool true) ρ1) (k : fb ρ1 = .ok d ρ2) : fAndV fa fb ρ = .ok d ρ2 := by
  simp only [fAndV, M.bind, tb_ok h, if_true]; exact k
theorem andV_no {fa fb : M PyData} {ρ ρ1 : Pu.Env} (h : fa ρ = .ok (.bool false) ρ1) : fAndV fa fb ρ = .ok (.bool false) ρ1 := by
  simp only [fAndV, M.bind, tb_ok h, Bool.false_eq_true, if_false, M.pure]
theorem pEq_bool (a b : Bool) : pEq (.bool a) (.bool b) = some (.bool (a == b)) := by cases a <;> cases b <;> rfl
theorem pNe_bool (a b : Bool) : pNe (.bool a) (.bool b) = some (.bool (!(a == b))) := by cases a <;> cases b <;> rfl
theorem alike_seq {m : List PyData → Rf} {xs : List PyData} (d : PyData) (hd : (isIn .tuple d || isIn .list d) = true) (hl : pLen [d] = some (.int xs.length)) (hi : ∀ i : Nat, pIx d (.int i) = xs[i]?) (hn : xs.length ≤ 1000000) (h : ∀ x ∈ xs, m [x, x] = .ok (.bool true)) : runF 3 (g__law_alike m) [d, d] = .ok (.bool true) := by
  let e0 : Pu.Env := [.dat d, .dat d, .un]
  have hb : ∀ b : Bool, (b == b) = true := fun b => by cases b <;> rfl
  have t1 : fT (f1 (fun d => some (.bool (isIn .tuple d || isIn .list d))) (fV 1)) e0 = .ok true e0 := t_ok (op1 rfl (congrArg (fun b => some (PyData.bool b)) hd))
  have t0 : fT (f1 (fun d => some (.bool (isIn .tuple d || isIn .list d))) (fV 0)) e0 = .ok true e0 := t_ok (op1 rfl (congrArg (fun b => some (PyData.bool b)) hd))
  have lc := lc_filter (fun i : Nat => PyData.int i) (fun _ => false) (fun i : Nat => PyData.int i) (fl := fRng1 (fCons (f1 pLen (fCons (fV 1) (fNil))) (fNil))) (g := gN 2) (t := fNot (fT (fCall m (fCons (f2 pIx (fV 0) (fV 2)) (fCons (f2 pIx (fV 1) (fV 2)) (fNil)))))) (e := fV 2) (vs := [2]) (ρ := e0) (ρ0 := e0) (ρ' := e0) (xs := List.range xs.length)
    (lift1 (as := [.int xs.length]) (cons_ok (op1 rfl hl) rfl) (asRng1_nat hn)) rfl rfl (by rw [List.length_range]; exact hn) fun i hi' => by
      have hi' := List.mem_range.mp hi'
      have ex : xs[i]? = some xs[i] := List.getElem?_eq_getElem hi'
      refine ⟨e0.set 2 (.dat (.int i)), e0.set 2 (.dat (.int i)), rfl, ?_, by simp; rfl⟩
      exact not_ok (b := true) (t_ok (call_ok (as := [xs[i], xs[i]]) (cons_ok (op2 rfl rfl ((hi i).trans ex)) (cons_ok (op2 rfl rfl ((hi i).trans ex)) rfl)) (h _ (List.getElem_mem hi'))))
  rw [List.filter_eq_nil_iff.mpr (by simp)] at lc
  have lens : f2 pNe (f1 pLen (fCons (fV 0) (fNil))) (f1 pLen (fCons (fV 1) (fNil))) e0 = .ok (.bool false) e0 := op2 (op1 (cons_ok rfl rfl) hl) (op1 (cons_ok rfl rfl) hl) (by rw [pNe_int]; simp)
  have kinds : f2 pNe (f1 (fun d => some (.bool (isIn .list d))) (fV 0)) (f1 (fun d => some (.bool (isIn .list d))) (fV 1)) e0 = .ok (.bool false) e0 := op2 (op1p rfl) (op1p rfl) (by rw [pNe_bool, hb]; rfl)
  exact run_rt (g := g__law_alike m) (seq_rt (if_yes (ρ1 := e0) t1 (seq_nx (if_no (ρ1 := e0) (or_no (ρ1 := e0) (not_ok (b := true) t0) (tb_ok kinds)) rfl) (seq_nx (if_no (ρ1 := e0) (tb_ok lens) rfl) (ret_ok (op2 lc rfl rfl))))))
theorem alike_refl : ∀ {j : Nat} {d : PyData}, Good j d → m__law_alike j [d, d] = .ok (.bool true)
  | _, _, .int j i => by
    let e0 : Pu.Env := [.dat (.int i), .dat (.int i), .un]
    refine run_rt (g := g__law_alike _) (ρ := e0) (seq_nx (ρ1 := e0) rfl (seq_nx (ρ1 := e0) rfl (ret_ok (andV_yes (ρ1 := e0) rfl (andV_yes (ρ1 := e0) rfl (op2 rfl rfl ?_))))))
    rw [pEq_int, decide_eq_true rfl]
  | _, _, .bl j b => by cases b <;> rfl
  | _, _, .non j => rfl
  | _, _, .lst hl h => alike_seq _ rfl rfl (fun i => atI_nat _ i) hl fun x hx => alike_refl (h x hx)
  | _, _, .tup hl h => alike_seq _ rfl rfl (fun i => atI_nat _ i) hl fun x hx => alike_refl (h x hx)
theorem good_tupI {j : Nat} {s : Stp} (h : s.length ≤ LIM) : Good (j + 2) (tupI s) := .tup (by simpa using h) fun x hx => by
  obtain ⟨i, _, rfl⟩ := List.mem_map.mp hx
  exact .int j i
theorem good_tups {j : Nat} {S : List Stp} (h : S.length ≤ LIM) (hs : ∀ s ∈ S, s.length ≤ LIM) : Good (j + 3) (.tuple (S.map tupI)) := .tup (by simpa using h) fun x hx => by
  obtain ⟨s, hm, rfl⟩ := List.mem_map.mp hx
  exact good_tupI (hs s hm)
end Pu
end TS8

section TS9
set_option Elab.async false
set_option linter.all false
set_option maxRecDepth 100000
set_option maxHeartbeats 410000
namespace Pu
open L2 PySem Cm
/-! ### dicts with steps for keys -/
def dgt {α : Type} (k : Stp) : List (Stp × α) → Option α
  | [] => none
  | p :: r => if p.1 = k then some p.2 else dgt k r
def dpt {α : Type} (k : Stp) (v : α) (D : List (Stp × α)) : List (Stp × α) := if k ∈ D.map (·.1) then D.map (fun p => if p.1 = k then (p.1, v) else p) else D ++ [(k, v)]
def dicP {α : Type} (f : α → PyData) (D : List (Stp × α)) : List (PyData × PyData) := D.map fun p => (tupI p.1, f p.2)
abbrev kys {α : Type} (D : List (Stp × α)) : List Stp := D.map (·.1)
theorem keyL_ints : ∀ k : List Int, keyL (k.map .int) = some (k.map .inl)
  | [] => rfl
  | i :: k => by
    show keyL (.int i :: k.map .int) = _
    unfold keyL
    rw [keyL_ints k]; rfl
theorem keyT_tupI (k : Stp) : keyT (tupI k) = some (k.map .inl) := keyL_ints k
theorem inl_inj : ∀ {a b : Stp}, (a.map Sum.inl : List Key) = b.map Sum.inl → a = b
  | [], [], _ => rfl
  | x :: a, y :: b, h => by
    obtain ⟨h1, h2⟩ := List.cons.inj h
    rw [Sum.inl.inj h1, inl_inj h2]
  | [], _ :: _, h => nomatch h
  | _ :: _, [], h => nomatch h
theorem key_eq {a k : Stp} : (keyT (tupI a) = some (k.map .inl)) ↔ a = k := by
  rw [keyT_tupI]
  exact ⟨fun h => inl_inj (Option.some.inj h), fun h => by rw [h]⟩
variable {α : Type} {f : α → PyData}
theorem dGet_dic (k : Stp) : ∀ D : List (Stp × α), dGet (k.map .inl) (dicP f D) = (dgt k D).map f
  | [] => rfl
  | p :: r => by
    show dGet _ ((tupI p.1, f p.2) :: dicP f r) = _
    unfold dGet dgt
    by_cases h : p.1 = k
    · rw [if_pos h, if_pos (key_eq.mpr h)]; rfl
    · rw [if_neg h, if_neg fun e => h (key_eq.mp e)]
      exact dGet_dic k r
theorem hasK_dic (k : Stp) (D : List (Stp × α)) : hasK (k.map .inl) (dicP f D) = decide (k ∈ kys D) := by
  unfold hasK dicP
  rw [List.any_map]
  apply Bool.eq_iff_iff.mpr
  rw [List.any_eq_true, decide_eq_true_eq, List.mem_map]
  constructor
  · rintro ⟨p, hp, e⟩
    exact ⟨p, hp, key_eq.mp (of_decide_eq_true e)⟩
  · rintro ⟨p, hp, e⟩
    exact ⟨p, hp, decide_eq_true (key_eq.mpr e)⟩
theorem dPut_dic (k : Stp) (v : α) (D : List (Stp × α)) : dPut (tupI k) (k.map .inl) (f v) (dicP f D) = dicP f (dpt k v D) := by
  unfold dPut dpt
  rw [hasK_dic]
  by_cases h : k ∈ kys D
  · rw [if_pos (decide_eq_true h), if_pos h]
    unfold dicP
    simp only [List.map_map]
    apply List.map_congr_left
    intro p _
    show (if keyT (tupI p.1) = _ then _ else _) = (fun p : Stp × α => (tupI p.1, f p.2)) (if p.1 = k then (p.1, v) else p)
    by_cases e : p.1 = k
    · rw [if_pos e, if_pos (key_eq.mpr e)]
    · rw [if_neg e, if_neg fun z => e (key_eq.mp z)]
  · rw [if_neg (fun e => h (of_decide_eq_true e)), if_neg h]
    unfold dicP
    rw [List.map_append]; rfl
theorem dgt_append (k : Stp) : ∀ {D E : List (Stp × α)}, dgt k (D ++ E) = match dgt k D with | some v => some v | none => dgt k E
  | [], E => rfl
  | p :: D, E => by
    show (if p.1 = k then some p.2 else dgt k (D ++ E)) = match (if p.1 = k then some p.2 else dgt k D) with | some v => some v | none => dgt k E
    by_cases h : p.1 = k
    · rw [if_pos h, if_pos h]
    · rw [if_neg h, if_neg h]; exact dgt_append k
theorem dgt_none {k : Stp} : ∀ {D : List (Stp × α)}, dgt k D = none ↔ k ∉ kys D
  | [] => by simp [dgt]
  | p :: D => by
    unfold dgt
    by_cases h : p.1 = k
    · simp [h]
    · rw [if_neg h, dgt_none]
      simp [h, Ne.symm h]
theorem dgt_mem {k : Stp} {v : α} : ∀ {D : List (Stp × α)}, dgt k D = some v → (k, v) ∈ D
  | p :: D, h => by
    unfold dgt at h
    by_cases e : p.1 = k
    · rw [if_pos e] at h
      cases h
      subst e
      exact List.mem_cons_self
    · rw [if_neg e] at h
      exact List.mem_cons_of_mem _ (dgt_mem h)
theorem mem_dgt {k : Stp} {v : α} : ∀ {D : List (Stp × α)}, (kys D).Nodup → (k, v) ∈ D → dgt k D = some v
  | p :: D, nd, h => by
    have ⟨n1, n2⟩ := List.nodup_cons.mp nd
    unfold dgt
    by_cases e : p.1 = k
    · rw [if_pos e]
      cases h with
      | head => rfl
      | tail _ h => exact absurd (List.mem_map.mpr ⟨_, h, e.symm⟩) n1
    · rw [if_neg e]
      cases h with
      | head => exact absurd rfl e
      | tail _ h => exact mem_dgt n2 h
theorem kys_dpt (k : Stp) (v : α) (D : List (Stp × α)) : kys (dpt k v D) = if k ∈ kys D then kys D else kys D ++ [k] := by
  unfold dpt kys
  split
  · rw [List.map_map]
    apply List.map_congr_left
    intro p _
    show (if p.1 = k then (p.1, v) else p).1 = p.1
    split <;> rfl
  · rw [List.map_append]; rfl
theorem dpt_nodup {k : Stp} {v : α} {D : List (Stp × α)} (h : (kys D).Nodup) : (kys (dpt k v D)).Nodup := by
  rw [kys_dpt]
  split
  · exact h
  · rename_i n
    rw [List.nodup_append]
    exact ⟨h, List.nodup_cons.mpr ⟨List.not_mem_nil, List.nodup_nil⟩, fun a ha b hb => by
      cases List.mem_singleton.mp hb
      rintro rfl
      exact n ha⟩
theorem mem_kys_dpt {k g : Stp} {v : α} {D : List (Stp × α)} : g ∈ kys (dpt k v D) ↔ g ∈ kys D ∨ g = k := by
  rw [kys_dpt]
  split
  · rename_i h
    exact ⟨.inl, fun h' => h'.elim id fun e => e ▸ h⟩
  · rw [List.mem_append, List.mem_singleton]
theorem dpt_len {k : Stp} {v : α} {D : List (Stp × α)} : (dpt k v D).length ≤ D.length + 1 := by
  unfold dpt
  split
  · rw [List.length_map]; omega
  · rw [List.length_append]; exact Nat.le_refl _
theorem dgt_map (k g : Stp) (v : α) : ∀ D : List (Stp × α), dgt g (D.map fun p => if p.1 = k then (p.1, v) else p) = if g = k ∧ k ∈ kys D then some v else dgt g D
  | [] => by simp [dgt]
  | p :: D => by
    rw [List.map_cons]
    show (if (if p.1 = k then (p.1, v) else p).1 = g then some (if p.1 = k then (p.1, v) else p).2 else dgt g (D.map fun p => if p.1 = k then (p.1, v) else p)) = if _ then _ else if p.1 = g then some p.2 else dgt g D
    rw [dgt_map k g v D]
    by_cases e : p.1 = k
    · rw [if_pos e]
      by_cases z : p.1 = g
      · rw [if_pos z, if_pos ⟨z ▸ e, by rw [← e]; exact List.mem_cons_self⟩]
      · rw [if_neg z, if_neg (fun h => z (e.trans h.1.symm)), if_neg (fun h => z (e.trans h.1.symm)), if_neg z]
    · rw [if_neg e]
      by_cases z : p.1 = g
      · rw [if_pos z, if_neg (fun h => e (z.trans h.1)), if_pos z]
      · rw [if_neg z, if_neg z]
        by_cases w : g = k ∧ k ∈ kys D
        · rw [if_pos w, if_pos ⟨w.1, List.mem_cons_of_mem _ w.2⟩]
        · rw [if_neg w, if_neg fun h => w ⟨h.1, (List.mem_cons.mp h.2).resolve_left fun q => e q.symm⟩]
theorem dgt_dpt (k g : Stp) (v : α) (D : List (Stp × α)) : dgt g (dpt k v D) = if g = k then some v else dgt g D := by
  unfold dpt
  split
  · rename_i h
    rw [dgt_map]
    by_cases e : g = k
    · rw [if_pos ⟨e, h⟩, if_pos e]
    · rw [if_neg fun z => e z.1, if_neg e]
  · rename_i h
    rw [dgt_append]
    by_cases e : g = k
    · rw [if_pos e, e, dgt_none.mpr h]
      show (if k = k then some v else none) = _
      rw [if_pos rfl]
    · rw [if_neg e]
      cases dgt g D with
      | some _ => rfl
      | none =>
        show (if k = g then some v else none) = none
        rw [if_neg (Ne.symm e)]
theorem dpt_new {k : Stp} {v : α} {D : List (Stp × α)} (h : k ∉ kys D) : dpt k v D = D ++ [(k, v)] := if_neg h
/-! ### the dict's constructs -/
abbrev dicD (f : α → PyData) (D : List (Stp × α)) : PyData := .dict (dicP f D)
theorem slot_dat {ρ : Pu.Env} {i : Nat} {D : List (Stp × α)} (h : ρ[i]? = some (.dat (dicD f D))) : slotD ρ i = some (dicP f D) := by unfold slotD; rw [h]
theorem slot_own {ρ : Pu.Env} {i : Nat} {D : List (Stp × α)} (h : ρ[i]? = some (.own (dicD f D))) : slotD ρ i = some (dicP f D) := by unfold slotD; rw [h]
theorem dix_ok {i : Nat} {fk : M PyData} {k : Stp} {v : α} {ρ : Pu.Env} {D : List (Stp × α)} (hk : fk ρ = .ok (tupI k) ρ) (hs : slotD ρ i = some (dicP f D)) (hv : dgt k D = some v) : fDIx i fk ρ = .ok (f v) ρ := by
  unfold fDIx needD
  simp only [hs, M.bind, hk, kDIx, keyT_tupI, dGet_dic, hv, Option.map_some]
theorem dnotin_ok {i : Nat} {fk : M PyData} {k : Stp} {ρ : Pu.Env} {D : List (Stp × α)} (hk : fk ρ = .ok (tupI k) ρ) (hs : slotD ρ i = some (dicP f D)) : fDNotIn i fk ρ = .ok (!(dgt k D).isSome) ρ := by
  unfold fDNotIn needD
  simp only [M.bind, hk, hs, kDNotIn, keyT_tupI, dGet_dic, Option.isSome_map]
theorem dget2_ok {i : Nat} {fk fx : M PyData} {k : Stp} {x : α} {ρ : Pu.Env} {D : List (Stp × α)} (hk : fk ρ = .ok (tupI k) ρ) (hx : fx ρ = .ok (f x) ρ) (hs : slotD ρ i = some (dicP f D)) : fDGet2 i fk fx ρ = .ok (f ((dgt k D).getD x)) ρ := by
  unfold fDGet2 needD
  simp only [M.bind, hk, hx, hs, kDGet, keyT_tupI, dGet_dic]
  cases dgt k D <;> rfl
theorem xget1_ok {fd fk : M PyData} {k : Stp} {ρ : Pu.Env} {D : List (Stp × α)} (hd : fd ρ = .ok (dicD f D) ρ) (hk : fk ρ = .ok (tupI k) ρ) : fXGet1 fd fk ρ = .ok (((dgt k D).map f).getD .none) ρ := by
  unfold fXGet1
  simp only [f1, M.bind, hd, hk, M.lift, isDi, gD1, keyT_tupI, dGet_dic]
theorem dput_ok {i : Nat} {fk fv : M PyData} {k : Stp} {v : α} {ρ : Pu.Env} {D : List (Stp × α)} (hk : fk ρ = .ok (tupI k) ρ) (hv : fv ρ = .ok (f v) ρ) (hs : ρ[i]? = some (.own (dicD f D))) (hn : D.length < LIM) : sDPut i fk fv ρ = .nx (ρ.set i (.own (dicD f (dpt k v D)))) := by
  have hl : (dicP f D).length < LIM := by unfold dicP; rw [List.length_map]; exact hn
  unfold sDPut sE needD
  simp only [hv, slot_own hs, hk, hs, keyT_tupI, if_pos hl, dPut_dic]
theorem dcL_copy {i j : Nat} {ρ : Pu.Env} {D : List (Stp × α)} (nd : (kys D).Nodup) (hn : D.length ≤ LIM) (hs : ∀ k : Stp, ((ρ.set j (.dat (tupI k))) : Pu.Env)[i]? = some (.dat (dicD f D))) (hj : ∀ k : Stp, fV j (ρ.set j (.dat (tupI k))) = .ok (tupI k) (ρ.set j (.dat (tupI k)))) (hw : ∀ k : Stp, wipeE (ρ.set j (.dat (tupI k))) [j] = ρ) :
    ∀ {P R : List (Stp × α)}, D = P ++ R → fDcL (gN j) fYes (fV j) (fDIx i (fV j)) [j] ((dicP f R).map (·.1)) (dicP f P) ρ = .ok (dicP f D) ρ
  | P, [], e => by rw [e, List.append_nil]; rfl
  | P, p :: R, e => by
    have h1 : dgt p.1 D = some p.2 := mem_dgt nd (by rw [e]; exact List.mem_append_right _ List.mem_cons_self)
    have h2 : p.1 ∉ kys P := by
      rw [e] at nd
      unfold kys at nd
      rw [List.map_append, List.nodup_append] at nd
      exact fun h => nd.2.2 _ h p.1 List.mem_cons_self rfl
    have hl : (dicP f P).length < LIM := by
      rw [e, List.length_append, List.length_cons] at hn
      unfold dicP
      rw [List.length_map]
      omega
    show fDcL (gN j) fYes (fV j) (fDIx i (fV j)) [j] (tupI p.1 :: (dicP f R).map (·.1)) (dicP f P) ρ = _
    have g : gN j (tupI p.1) ρ = some (ρ.set j (.dat (tupI p.1))) := rfl
    have t : fYes (ρ.set j (.dat (tupI p.1))) = .ok true (ρ.set j (.dat (tupI p.1))) := rfl
    unfold fDcL
    simp only [g, t, hj, dix_ok (hj p.1) (slot_dat (hs p.1)) h1, keyT_tupI, if_pos hl, hw, dPut_dic, dpt_new h2]
    exact dcL_copy nd hn hs hj hw (by rw [e, List.append_assoc]; rfl)
theorem dc_copy {i j : Nat} {ρ : Pu.Env} {D : List (Stp × α)} (nd : (kys D).Nodup) (hn : D.length ≤ LIM) (hi : ρ[i]? = some (.dat (dicD f D))) (hs : ∀ k : Stp, ((ρ.set j (.dat (tupI k))) : Pu.Env)[i]? = some (.dat (dicD f D))) (hj : ∀ k : Stp, fV j (ρ.set j (.dat (tupI k))) = .ok (tupI k) (ρ.set j (.dat (tupI k)))) (hw : ∀ k : Stp, wipeE (ρ.set j (.dat (tupI k))) [j] = ρ) (hρ : wipeE ρ [j] = ρ) :
    fDc i (gN j) fYes (fV j) (fDIx i (fV j)) [j] ρ = .ok (dicD f D) ρ := by
  unfold fDc
  simp only [hi, hρ]
  rw [show ([] : List (PyData × PyData)) = dicP f ([] : List (Stp × α)) from rfl, dcL_copy (P := []) nd hn hs hj hw rfl]
  show R.ok _ (wipeE ρ [j]) = _
  rw [hρ]
theorem forD_ok {i : Nat} {g : TM} {b : SM} {ρ ρ1 : Pu.Env} {D : List (Stp × α)} (hi : ρ[i]? = some (.dat (dicD f D))) (h : sForL g b (D.map fun p => tupI p.1) ρ = .nx ρ1) : sForD i g b ρ = .nx ρ1 := by
  unfold sForD
  simp only [hi]
  rw [show (dicP f D).map (·.1) = D.map fun p => tupI p.1 by unfold dicP; rw [List.map_map]; rfl, h]
end Pu
end TS9

section TS10
set_option Elab.async false
set_option linter.all false
set_option maxRecDepth 100000
set_option maxHeartbeats 410000
namespace Pu
open L2 PySem Cm
/-! ### walks by place, by what was walked -/
theorem forL_idx (I : Nat → Pu.Env → Prop) (f : Nat → PyData) {g : TM} {b : SM} {n : Nat} (h : ∀ i ρ, i < n → I i ρ → ∃ ρ1 ρ2, g (f i) ρ = some ρ1 ∧ b ρ1 = .nx ρ2 ∧ I (i + 1) ρ2) {ρ : Pu.Env} (h0 : I 0 ρ) : ∃ ρ', sForL g b ((List.range n).map f) ρ = .nx ρ' ∧ I n ρ' := by
  have key : ∀ m k ρ, k + m = n → I k ρ → ∃ ρ', sForL g b ((List.range' k m).map f) ρ = .nx ρ' ∧ I n ρ' := by
    intro m
    induction m with
    | zero =>
      intro k ρ e hk
      have e : k = n := e
      subst e
      exact ⟨ρ, rfl, hk⟩
    | succ m ih =>
      intro k ρ e hk
      obtain ⟨ρ1, ρ2, e1, e2, h2⟩ := h k ρ (by omega) hk
      obtain ⟨ρ', e3, h3⟩ := ih (k + 1) ρ2 (by omega) h2
      refine ⟨ρ', ?_, h3⟩
      rw [List.range'_succ, List.map_cons]
      unfold sForL
      simp only [e1, e2, e3]
  rw [List.range_eq_range']
  exact key n 0 ρ (Nat.zero_add n) h0
theorem forL_pre {β : Type} (I : List β → Pu.Env → Prop) (f : β → PyData) {g : TM} {b : SM} {xs : List β} (h : ∀ pre x post ρ, xs = pre ++ x :: post → I pre ρ → ∃ ρ1 ρ2, g (f x) ρ = some ρ1 ∧ b ρ1 = .nx ρ2 ∧ I (pre ++ [x]) ρ2) {ρ : Pu.Env} (h0 : I [] ρ) : ∃ ρ', sForL g b (xs.map f) ρ = .nx ρ' ∧ I xs ρ' := by
  have key : ∀ post pre ρ, xs = pre ++ post → I pre ρ → ∃ ρ', sForL g b (post.map f) ρ = .nx ρ' ∧ I xs ρ' := by
    intro post
    induction post with
    | nil =>
      intro pre ρ e hp
      rw [List.append_nil] at e
      subst e
      exact ⟨ρ, rfl, hp⟩
    | cons x post ih =>
      intro pre ρ e hp
      obtain ⟨ρ1, ρ2, e1, e2, h2⟩ := h pre x post ρ e hp
      obtain ⟨ρ', e3, h3⟩ := ih (pre ++ [x]) ρ2 (by rw [e, List.append_assoc]; rfl) h2
      refine ⟨ρ', ?_, h3⟩
      rw [List.map_cons]
      unfold sForL
      simp only [e1, e2, e3]
  exact key xs [] ρ rfl h0
/-! ### lots_with -/
theorem star_ok {fa : M PyData} {fr : M (List PyData)} {a : PyData} {xs r : List PyData} {ρ ρ1 ρ2 : Pu.Env} (ha : fa ρ = .ok a ρ1) (hx : asSeq a = some xs) (hr : fr ρ1 = .ok r ρ2) : fStar fa fr ρ = .ok (xs ++ r) ρ2 := by simp only [fStar, M.bind, ha, M.lift, hx, hr, M.pure]
theorem or_ok {c d : M Bool} {a b : Bool} {ρ ρ1 ρ2 : Pu.Env} (h : c ρ = .ok a ρ1) (k : a = false → d ρ1 = .ok b ρ2) (e : a = true → b = true ∧ ρ2 = ρ1) : fOr c d ρ = .ok b ρ2 := by
  cases a with
  | false => exact or_no h (k rfl)
  | true => obtain ⟨rfl, rfl⟩ := e rfl; exact or_yes h
def lwStep (ws : List Int) (s : Stp) (p : Int) (M : List (Stp × Stp)) (q : Stp × Stp) : List (Stp × Stp) :=
  match dgt (addS ws q.1 s) M with
  | none => dpt (addS ws q.1 s) (p :: q.2) M
  | some m => if (p :: q.2).length ≤ m.length then dpt (addS ws q.1 s) (p :: q.2) M else M
def lw (ws : List Int) (s : Stp) (p : Int) (D : List (Stp × Stp)) : List (Stp × Stp) := D.foldl (lwStep ws s p) (dpt s [p] D)
theorem lwStep_none {ws : List Int} {s : Stp} {p : Int} {M : List (Stp × Stp)} {q : Stp × Stp} (e : dgt (addS ws q.1 s) M = none) : lwStep ws s p M q = dpt (addS ws q.1 s) (p :: q.2) M := by unfold lwStep; rw [e]
theorem lwStep_yes {ws : List Int} {s : Stp} {p : Int} {M : List (Stp × Stp)} {q : Stp × Stp} {m : Stp} (e : dgt (addS ws q.1 s) M = some m) (c : (p :: q.2).length ≤ m.length) : lwStep ws s p M q = dpt (addS ws q.1 s) (p :: q.2) M := by unfold lwStep; rw [e]; exact if_pos c
theorem lwStep_no {ws : List Int} {s : Stp} {p : Int} {M : List (Stp × Stp)} {q : Stp × Stp} {m : Stp} (e : dgt (addS ws q.1 s) M = some m) (c : ¬ (p :: q.2).length ≤ m.length) : lwStep ws s p M q = M := by unfold lwStep; rw [e]; exact if_neg c
structure KeysOk {α : Type} (ws : List Int) (D : List (Stp × α)) : Prop where
  nd : (kys D).Nodup
  ok : ∀ k ∈ kys D, okS ws k
theorem KeysOk.len {α : Type} {ws : List Int} (hW : okW ws) {D : List (Stp × α)} (h : KeysOk ws D) : D.length ≤ 400 := by
  have := nodup_len (D := stepsL ws) h.nd fun k hk => mem_steps.mpr (h.ok k hk)
  rw [steps_len, List.length_map] at this
  exact Nat.le_trans this (sizeN_le hW)
theorem KeysOk.put {α : Type} {ws : List Int} {D : List (Stp × α)} (h : KeysOk ws D) {k : Stp} {v : α} (hk : okS ws k) : KeysOk ws (dpt k v D) := ⟨dpt_nodup h.nd, fun g hg => (mem_kys_dpt.mp hg).elim (h.ok g) fun e => e ▸ hk⟩
theorem KeysOk.step {ws : List Int} (hW : okW ws) {s : Stp} (hs : okS ws s) {p : Int} {M : List (Stp × Stp)} (h : KeysOk ws M) {q : Stp × Stp} (hq : okS ws q.1) : KeysOk ws (lwStep ws s p M q) := by
  have a := okS_add hW.wpos hq hs
  unfold lwStep
  split
  · exact h.put a
  · split
    · exact h.put a
    · exact h
theorem KeysOk.fold {ws : List Int} (hW : okW ws) {s : Stp} (hs : okS ws s) {p : Int} : ∀ {L M : List (Stp × Stp)}, KeysOk ws M → (∀ q ∈ L, okS ws q.1) → KeysOk ws (L.foldl (lwStep ws s p) M)
  | [], _, h, _ => h
  | q :: L, M, h, hq => KeysOk.fold (L := L) (M := lwStep ws s p M q) hW hs (h.step hW hs (hq q List.mem_cons_self)) fun x hx => hq x (List.mem_cons_of_mem _ hx)
theorem KeysOk.mem {α : Type} {ws : List Int} {D : List (Stp × α)} (h : KeysOk ws D) {q : Stp × α} (hq : q ∈ D) : okS ws q.1 := h.ok _ (List.mem_map.mpr ⟨q, hq, rfl⟩)
theorem KeysOk.lw {ws : List Int} (hW : okW ws) {s : Stp} (hs : okS ws s) {p : Int} {D : List (Stp × Stp)} (h : KeysOk ws D) : KeysOk ws (lw ws s p D) := (h.put hs).fold hW hs fun _ hq => h.mem hq
theorem lots_with_ok {ws : List Int} (hW : okW ws) {s : Stp} (hs : okS ws s) {p : Int} {D : List (Stp × Stp)} (h : KeysOk ws D) (hl : ∀ q ∈ D, q.2.length ≤ 1000) : m_lots_with [tupI ws, dicD tupI D, .int p, tupI s] = .ok (dicD tupI (lw ws s p D)) := by
  have hn : ∀ {E : List (Stp × Stp)}, KeysOk ws E → E.length < LIM := fun k => Nat.lt_of_le_of_lt (k.len hW) (by unfold LIM; decide)
  obtain ⟨ρ', e, ⟨x, y, z, e', k⟩⟩ := forL_map (fun (M : List (Stp × Stp)) ρ => ∃ x y z, ρ = [.dat (tupI ws), .dat (dicD tupI D), .dat (.int p), .dat (tupI s), .own (dicD tupI M), x, y, z] ∧ KeysOk ws M) (fun q : Stp × Stp => tupI q.1) (lwStep ws s p) (g := gN 5)
    (b := sSeq (sAsg (fCall m_add_steps (fCons (fV 0) (fCons (fV 5) (fCons (fV 3) (fNil))))) (gN 6)) (sSeq (sAsg (f1 kTup (fCons (fV 2) (fStar (fDIx 1 (fV 5)) (fNil)))) (gN 7)) (sIf (fOr (fDNotIn 4 (fV 6)) (fTB (f2 pLe (f1 pLen (fCons (fV 7) (fNil))) (f1 pLen (fCons (fDIx 4 (fV 6)) (fNil)))))) (sDPut 4 (fV 6) (fV 7)) (sNil))))
    (xs := D) (a := dpt s [p] D) (ρ := [.dat (tupI ws), .dat (dicD tupI D), .dat (.int p), .dat (tupI s), .own (dicD tupI (dpt s [p] D)), .un, .un, .un])
    (fun M ρ q hq ⟨x, y, z, e, k⟩ => by
      subst e
      have oq := h.mem hq
      have kt : kTup (PyData.int p :: (q.2.map .int ++ [])) = some (tupI (p :: q.2)) := by
        rw [List.append_nil]
        exact if_pos (by have := hl q hq; rw [List.length_cons, List.length_map]; unfold LIM; omega)
      let g := addS ws q.1 s
      let ρ0 : Pu.Env := [.dat (tupI ws), .dat (dicD tupI D), .dat (.int p), .dat (tupI s), .own (dicD tupI M), .dat (tupI q.1), .dat (tupI g), .dat (tupI (p :: q.2))]
      refine ⟨[.dat (tupI ws), .dat (dicD tupI D), .dat (.int p), .dat (tupI s), .own (dicD tupI M), .dat (tupI q.1), y, z], [.dat (tupI ws), .dat (dicD tupI D), .dat (.int p), .dat (tupI s), .own (dicD tupI (lwStep ws s p M q)), .dat (tupI q.1), .dat (tupI g), .dat (tupI (p :: q.2))], rfl, ?_, _, _, _, rfl, k.step hW hs oq⟩
      refine seq_nx (asg_ok (call_ok (cons_ok rfl (cons_ok rfl (cons_ok rfl rfl))) (add_steps_ok hW.wpos hW.lim oq.len hs.len))) ?_
      refine seq_nx (asg_ok (op1 (cons_ok rfl (star_ok (dix_ok (f := tupI) (k := q.1) (v := q.2) rfl (slot_dat rfl) (mem_dgt h.nd hq)) rfl rfl)) kt)) ?_
      show sIf _ _ _ ρ0 = _
      have n0 : fDNotIn 4 (fV 6) ρ0 = .ok (!(dgt g M).isSome) ρ0 := dnotin_ok (f := tupI) (k := g) rfl (slot_own rfl)
      have put : sDPut 4 (fV 6) (fV 7) ρ0 = .nx (ρ0.set 4 (.own (dicD tupI (dpt g (p :: q.2) M)))) := dput_ok (f := tupI) (k := g) (v := p :: q.2) rfl rfl rfl (hn k)
      cases em : dgt g M with
      | none =>
        rw [em] at n0
        rw [lwStep_none em]
        exact if_yes (or_yes n0) put
      | some m =>
        rw [em] at n0
        have cmp : fTB (f2 pLe (f1 pLen (fCons (fV 7) (fNil))) (f1 pLen (fCons (fDIx 4 (fV 6)) (fNil)))) ρ0 = .ok (decide (((p :: q.2).length : Int) ≤ (m.length : Int))) ρ0 :=
          tb_ok (op2 (op1 (cons_ok rfl rfl) (pLen_tupI _)) (op1 (cons_ok (dix_ok (f := tupI) (k := g) (v := m) rfl (slot_own rfl) em) rfl) (pLen_tupI _)) rfl)
        by_cases c : (p :: q.2).length ≤ m.length
        · rw [decide_eq_true (Int.ofNat_le.mpr c)] at cmp
          rw [lwStep_yes em c]
          exact if_yes (or_no n0 cmp) put
        · rw [decide_eq_false fun z => c (Int.ofNat_le.mp z)] at cmp
          rw [lwStep_no em c]
          exact if_no (or_no n0 cmp) rfl) ⟨_, _, _, rfl, h.put hs⟩
  subst e'
  have c0 : fDc 1 (gN 5) fYes (fV 5) (fDIx 1 (fV 5)) [5] [.dat (tupI ws), .dat (dicD tupI D), .dat (.int p), .dat (tupI s), .un, .un, .un, .un] = .ok (dicD tupI D) [.dat (tupI ws), .dat (dicD tupI D), .dat (.int p), .dat (tupI s), .un, .un, .un, .un] := dc_copy (f := tupI) h.nd (Nat.le_of_lt (hn h)) rfl (fun _ => rfl) (fun _ => rfl) (fun _ => rfl) rfl
  exact run_rt (g := g_lots_with) (seq_nx (own_ok c0) (seq_nx (dput_ok (f := tupI) (k := s) (v := [p]) (D := D) rfl rfl rfl (hn h)) (seq_nx (forD_ok (f := tupI) (D := D) rfl e) (ret_ok rfl))))
end Pu
end TS10

section TS11
set_option Elab.async false
set_option linter.all false
set_option maxRecDepth 100000
set_option maxHeartbeats 410000
namespace Pu
open L2 PySem Cm
/-! ### what lots_with leaves at a goal -/
theorem fold_miss {ws : List Int} {s : Stp} {p : Int} {g : Stp} : ∀ {L M : List (Stp × Stp)}, (∀ q ∈ L, addS ws q.1 s ≠ g) → dgt g (L.foldl (lwStep ws s p) M) = dgt g M
  | [], _, _ => rfl
  | q :: L, M, h => by
    rw [List.foldl_cons, fold_miss fun x hx => h x (List.mem_cons_of_mem _ hx)]
    have n := Ne.symm (h q List.mem_cons_self)
    cases e : dgt (addS ws q.1 s) M with
    | none => rw [lwStep_none e, dgt_dpt, if_neg n]
    | some m =>
      by_cases c : (p :: q.2).length ≤ m.length
      · rw [lwStep_yes e c, dgt_dpt, if_neg n]
      · rw [lwStep_no e c]
def win1 (c : Stp) : Option Stp → Stp
  | none => c
  | some m => if c.length ≤ m.length then c else m
theorem step_hit {ws : List Int} {s : Stp} {p : Int} {M : List (Stp × Stp)} {q : Stp × Stp} : dgt (addS ws q.1 s) (lwStep ws s p M q) = some (win1 (p :: q.2) (dgt (addS ws q.1 s) M)) := by
  cases e : dgt (addS ws q.1 s) M with
  | none => rw [lwStep_none e, dgt_dpt, if_pos rfl]; rfl
  | some m =>
    unfold win1
    by_cases c : (p :: q.2).length ≤ m.length
    · rw [lwStep_yes e c, dgt_dpt, if_pos rfl]; dsimp only; rw [if_pos c]
    · rw [lwStep_no e c, e]; dsimp only; rw [if_neg c]
theorem fold_hit {ws : List Int} {s : Stp} (hs : okS ws s) {p : Int} {q : Stp × Stp} : ∀ {L M : List (Stp × Stp)}, (kys L).Nodup → (∀ x ∈ L, okS ws x.1) → q ∈ L → dgt (addS ws q.1 s) (L.foldl (lwStep ws s p) M) = some (win1 (p :: q.2) (dgt (addS ws q.1 s) M))
  | x :: L, M, nd, ok, hq => by
    have ⟨n1, n2⟩ := List.nodup_cons.mp nd
    have okL : ∀ y ∈ L, okS ws y.1 := fun y hy => ok y (List.mem_cons_of_mem _ hy)
    rw [List.foldl_cons]
    cases hq with
    | head =>
      rw [fold_miss (g := addS ws q.1 s), step_hit]
      intro y hy e
      exact n1 (List.mem_map.mpr ⟨y, hy, addS_cancel (okL y hy) (ok q List.mem_cons_self) hs e⟩)
    | tail _ hq =>
      rw [fold_hit hs n2 okL hq]
      have n : addS ws q.1 s ≠ addS ws x.1 s := fun e => n1 (List.mem_map.mpr ⟨q, hq, addS_cancel (okL q hq) (ok x List.mem_cons_self) hs e⟩)
      congr 2
      cases e : dgt (addS ws x.1 s) M with
      | none => rw [lwStep_none e, dgt_dpt, if_neg n]
      | some m =>
        by_cases c : (p :: x.2).length ≤ m.length
        · rw [lwStep_yes e c, dgt_dpt, if_neg n]
        · rw [lwStep_no e c]
/-! ### lots from a place on; the order of lots -/
def Inc (p n : Int) (m : Stp) : Prop := m.Pairwise (· < ·) ∧ ∀ i ∈ m, p ≤ i ∧ i < n
def atS (S : List Stp) (i : Int) : Stp := S.getD i.toNat []
def totL (ws : List Int) (S : List Stp) (m : Stp) : Stp := totS ws (m.map (atS S))
structure Cand (ws : List Int) (S : List Stp) (p : Int) (g m : Stp) : Prop where
  ne : m ≠ []
  inc : Inc p S.length m
  tot : totL ws S m = g
def leP (l m : Stp) : Prop := l.length < m.length ∨ (l.length = m.length ∧ l ≤ m)
def Best (ws : List Int) (S : List Stp) (p : Int) (D : List (Stp × Stp)) : Prop := ∀ g, match dgt g D with
  | some l => Cand ws S p g l ∧ ∀ m, Cand ws S p g m → leP l m
  | none => ∀ m, ¬ Cand ws S p g m
theorem Inc.weak {p n : Int} {m : Stp} (h : Inc (p + 1) n m) : Inc p n m := ⟨h.1, fun i hi => by have := h.2 i hi; omega⟩
theorem Inc.cons {p n : Int} {m : Stp} (h : Inc (p + 1) n m) (hp : p < n) : Inc p n (p :: m) := ⟨List.pairwise_cons.mpr ⟨fun i hi => by have := h.2 i hi; omega, h.1⟩, fun i hi => (List.mem_cons.mp hi).elim (fun e => by omega) fun h' => by have := h.2 i h'; omega⟩
theorem Inc.nil {p n : Int} : Inc p n [] := ⟨List.Pairwise.nil, fun _ h => absurd h List.not_mem_nil⟩
theorem Inc.cases {p n : Int} : ∀ {m : Stp}, Inc p n m → Inc (p + 1) n m ∨ ∃ r, m = p :: r ∧ Inc (p + 1) n r
  | [], _ => .inl .nil
  | i :: r, h => by
    obtain ⟨h1, h2⟩ := List.pairwise_cons.mp h.1
    have hi := h.2 i List.mem_cons_self
    by_cases e : i = p
    · subst e
      exact .inr ⟨r, rfl, h2, fun j hj => by have := h1 j hj; have := h.2 j (List.mem_cons_of_mem _ hj); omega⟩
    · refine .inl ⟨h.1, fun j hj => ?_⟩
      have hj' := h.2 j hj
      rcases List.mem_cons.mp hj with z | z
      · omega
      · have := h1 j z; omega
variable {ws : List Int} {S : List Stp}
theorem atS_ok (hS : ∀ s ∈ S, okS ws s) {i : Int} (h0 : 0 ≤ i) (h1 : i < S.length) : okS ws (atS S i) := by
  unfold atS
  have h : i.toNat < S.length := by omega
  rw [show S.getD i.toNat [] = S[i.toNat] by simp [h]]
  exact hS _ (List.getElem_mem h)
theorem ats_ok (hS : ∀ s ∈ S, okS ws s) {p : Int} (hp : 0 ≤ p) {m : Stp} (h : Inc p S.length m) : ∀ s ∈ m.map (atS S), okS ws s := fun s hs => by
  obtain ⟨i, hi, rfl⟩ := List.mem_map.mp hs
  have := h.2 i hi
  exact atS_ok hS (by omega) (by omega)
theorem totL_ok (hW : okW ws) (hS : ∀ s ∈ S, okS ws s) {p : Int} (hp : 0 ≤ p) {m : Stp} (h : Inc p S.length m) : okS ws (totL ws S m) := okS_tot hW.wpos (ats_ok hS hp h)
theorem totL_cons (hW : okW ws) (hS : ∀ s ∈ S, okS ws s) {p : Int} (hp : 0 ≤ p) (hn : p < S.length) {m : Stp} (h : Inc (p + 1) S.length m) : totL ws S (p :: m) = addS ws (totL ws S m) (atS S p) := by
  unfold totL
  rw [List.map_cons, totS_cons hW.wpos (atS_ok hS hp hn) (ats_ok hS (by omega) h)]
  exact addS_comm (atS_ok hS hp hn) (totL_ok hW hS (by omega) h)
theorem totL_one (hW : okW ws) (hS : ∀ s ∈ S, okS ws s) {p : Int} (hp : 0 ≤ p) (hn : p < S.length) : totL ws S [p] = atS S p := by
  rw [totL_cons hW hS hp hn .nil]
  exact zero_addS hW.wpos (atS_ok hS hp hn)
theorem lex_lt {a b : Int} (h : a < b) (x y : Stp) : (a :: x) ≤ (b :: y) := List.cons_le_cons_iff.mpr (.inl h)
theorem lex_cons {a : Int} {x y : Stp} (h : x ≤ y) : (a :: x) ≤ (a :: y) := List.cons_le_cons_iff.mpr (.inr ⟨rfl, h⟩)
theorem leP_cons {p : Int} {x y : Stp} (h : leP x y) : leP (p :: x) (p :: y) := h.elim (fun z => .inl (Nat.succ_lt_succ z)) fun z => .inr ⟨congrArg Nat.succ z.1, lex_cons z.2⟩
/-- a lot that begins at p comes ahead of one as long or longer that begins later -/
theorem leP_late {p n : Int} {x m : Stp} (hm : Inc (p + 1) n m) (hne : m ≠ []) (hl : (p :: x).length ≤ m.length) : leP (p :: x) m := by
  rcases Nat.lt_or_ge (p :: x).length m.length with z | z
  · exact .inl z
  · refine .inr ⟨Nat.le_antisymm hl z, ?_⟩
    cases m with
    | nil => exact absurd rfl hne
    | cons i m => exact lex_lt (by have := hm.2 i List.mem_cons_self; omega) _ _
theorem leP_one {p n : Int} {m : Stp} (hm : Inc p n m) (hne : m ≠ []) : leP [p] m := by
  rcases hm.cases with h | ⟨r, rfl, h⟩
  · exact leP_late h hne (by cases m with | nil => exact absurd rfl hne | cons i m => exact Nat.succ_le_succ (Nat.zero_le _))
  · cases r with
    | nil => exact .inr ⟨rfl, List.le_refl _⟩
    | cons j r => exact .inl (by simp)
theorem leP_len {x y : Stp} (h : leP x y) : x.length ≤ y.length := h.elim Nat.le_of_lt fun z => Nat.le_of_eq z.1
theorem best_step (hW : okW ws) (hS : ∀ s ∈ S, okS ws s) {p : Int} (hp : 0 ≤ p) (hn : p < S.length) {D : List (Stp × Stp)} (k : KeysOk ws D) (b : Best ws S (p + 1) D) : Best ws S p (lw ws (atS S p) p D) := by
  have hs := atS_ok hS hp hn
  intro g
  have one : g = atS S p → Cand ws S p g [p] := fun e => ⟨(fun z => nomatch z), Inc.nil.cons hn, (totL_one hW hS hp hn).trans e.symm⟩
  -- a candidate's two kinds
  have kinds : ∀ m, Cand ws S p g m → Cand ws S (p + 1) g m ∨ (g = atS S p ∧ m = [p]) ∨ ∃ r h, m = p :: r ∧ Cand ws S (p + 1) h r ∧ addS ws h (atS S p) = g := by
    intro m c
    rcases c.inc.cases with h | ⟨r, rfl, h⟩
    · exact .inl ⟨c.ne, h, c.tot⟩
    · cases r with
      | nil => exact .inr (.inl ⟨c.tot.symm.trans (totL_one hW hS hp hn), rfl⟩)
      | cons j r => exact .inr (.inr ⟨j :: r, _, rfl, ⟨(fun z => nomatch z), h, rfl⟩, (totL_cons hW hS hp hn h).symm.trans c.tot⟩)
  have up : ∀ {h r}, Cand ws S (p + 1) h r → addS ws h (atS S p) = g → Cand ws S p g (p :: r) := fun {h r} c e => ⟨(fun z => nomatch z), c.inc.cons hn, (totL_cons hW hS hp hn c.inc).trans (c.tot.symm ▸ e)⟩
  have m0 : dgt g (dpt (atS S p) [p] D) = if g = atS S p then some [p] else dgt g D := dgt_dpt _ _ _ _
  by_cases hit : ∃ q ∈ D, addS ws q.1 (atS S p) = g
  · obtain ⟨q, hq, e⟩ := hit
    have got : dgt g (lw ws (atS S p) p D) = some (win1 (p :: q.2) (if g = atS S p then some [p] else dgt g D)) := by
      rw [← m0, ← e]
      exact fold_hit hs k.nd (fun x hx => k.mem hx) hq
    have bq := b q.1
    rw [mem_dgt k.nd hq] at bq
    obtain ⟨cq, lq⟩ := bq
    have same : ∀ {h r}, Cand ws S (p + 1) h r → addS ws h (atS S p) = g → leP (p :: q.2) (p :: r) := fun {h r} c e' => by
      have : h = q.1 := addS_cancel (c.tot ▸ totL_ok hW hS (by omega) c.inc) (k.mem hq) hs (e'.trans e.symm)
      exact leP_cons (lq r (this ▸ c))
    rw [got]
    by_cases z : g = atS S p
    · rw [if_pos z]
      have : win1 (p :: q.2) (some [p]) = [p] := if_neg (by
        have := cq.ne
        cases h : q.2 with
        | nil => exact absurd h this
        | cons j r => simp)
      dsimp only
      rw [this]
      exact ⟨one z, fun m c => leP_one c.inc c.ne⟩
    · rw [if_neg z]
      have bg := b g
      cases eg : dgt g D with
      | none =>
        rw [eg] at bg
        refine ⟨up cq e, fun m c => ?_⟩
        rcases kinds m c with h | ⟨h, _⟩ | ⟨r, h, rfl, c', e'⟩
        · exact absurd h (bg m)
        · exact absurd h z
        · exact same c' e'
      | some l =>
        rw [eg] at bg
        obtain ⟨cl, ll⟩ := bg
        dsimp only [win1]
        by_cases w : (p :: q.2).length ≤ l.length
        · rw [if_pos w]
          refine ⟨up cq e, fun m c => ?_⟩
          rcases kinds m c with h | ⟨h, _⟩ | ⟨r, h, rfl, c', e'⟩
          · exact leP_late h.inc h.ne (Nat.le_trans w (leP_len (ll m h)))
          · exact absurd h z
          · exact same c' e'
        · rw [if_neg w]
          refine ⟨⟨cl.ne, cl.inc.weak, cl.tot⟩, fun m c => ?_⟩
          rcases kinds m c with h | ⟨h, _⟩ | ⟨r, h, rfl, c', e'⟩
          · exact ll m h
          · exact absurd h z
          · exact .inl (Nat.lt_of_lt_of_le (Nat.lt_of_not_le w) (leP_len (same c' e')))
  · have miss : ∀ q ∈ D, addS ws q.1 (atS S p) ≠ g := fun q hq e => hit ⟨q, hq, e⟩
    have got : dgt g (lw ws (atS S p) p D) = if g = atS S p then some [p] else dgt g D := (fold_miss miss).trans m0
    have no : ∀ {h r}, Cand ws S (p + 1) h r → addS ws h (atS S p) ≠ g := fun {h r} c e => by
      have bh := b h
      cases eh : dgt h D with
      | none => rw [eh] at bh; exact bh r c
      | some l => exact miss _ (dgt_mem eh) e
    rw [got]
    by_cases z : g = atS S p
    · rw [if_pos z]
      exact ⟨one z, fun m c => leP_one c.inc c.ne⟩
    · rw [if_neg z]
      have bg := b g
      cases eg : dgt g D with
      | none =>
        rw [eg] at bg
        intro m c
        rcases kinds m c with h | ⟨h, _⟩ | ⟨r, h, rfl, c', e'⟩
        · exact bg m h
        · exact z h
        · exact no c' e'
      | some l =>
        rw [eg] at bg
        obtain ⟨cl, ll⟩ := bg
        refine ⟨⟨cl.ne, cl.inc.weak, cl.tot⟩, fun m c => ?_⟩
        rcases kinds m c with h | ⟨h, _⟩ | ⟨r, h, rfl, c', e'⟩
        · exact ll m h
        · exact absurd h z
        · exact absurd e' (no c')
/-! ### smallest_lots -/
def sml (ws : List Int) (S : List Stp) : Nat → List (Stp × Stp)
  | 0 => []
  | k + 1 => lw ws (atS S ((S.length : Int) - 1 - k)) ((S.length : Int) - 1 - k) (sml ws S k)
theorem inc_len : ∀ {p n : Int} {m : Stp}, Inc p n m → (m.length : Int) ≤ max (n - p) 0
  | p, n, [], _ => by simp; omega
  | p, n, i :: m, h => by
    obtain ⟨h1, h2⟩ := List.pairwise_cons.mp h.1
    have hi := h.2 i List.mem_cons_self
    have := inc_len (p := i + 1) (n := n) (m := m) ⟨h2, fun j hj => by have := h1 j hj; have := h.2 j (List.mem_cons_of_mem _ hj); omega⟩
    rw [List.length_cons]
    omega
theorem sml_ok (hW : okW ws) (hS : ∀ s ∈ S, okS ws s) : ∀ {k : Nat}, k ≤ S.length → KeysOk ws (sml ws S k) ∧ Best ws S ((S.length : Int) - k) (sml ws S k)
  | 0, _ => ⟨⟨List.nodup_nil, fun _ h => absurd h List.not_mem_nil⟩, fun g => by
    show ∀ m, ¬ Cand ws S _ g m
    intro m c
    cases m with
    | nil => exact c.ne rfl
    | cons i m => have := c.inc.2 i List.mem_cons_self; omega⟩
  | k + 1, h => by
    obtain ⟨k1, b1⟩ := sml_ok hW hS (k := k) (by omega)
    have e : ((S.length : Int) - 1 - k) + 1 = (S.length : Int) - k := by omega
    have e' : (S.length : Int) - (k + 1 : Nat) = (S.length : Int) - 1 - k := by omega
    have hp : 0 ≤ (S.length : Int) - 1 - k := by omega
    have hn : (S.length : Int) - 1 - k < S.length := by omega
    refine ⟨k1.lw hW (atS_ok hS hp hn), ?_⟩
    rw [e']
    exact best_step hW hS hp hn k1 (e ▸ b1)
theorem best_len {p : Int} (hp : 0 ≤ p) {D : List (Stp × Stp)} (k : KeysOk ws D) (b : Best ws S p D) : ∀ q ∈ D, q.2.length ≤ S.length := fun q hq => by
  have bq := b q.1
  rw [mem_dgt k.nd hq] at bq
  have := inc_len bq.1.inc
  omega
theorem pIx_row {i : Int} (h0 : 0 ≤ i) (h1 : i < S.length) : pIx (rowD S) (.int i) = some (tupI (atS S i)) := by
  obtain ⟨j, rfl⟩ := Int.eq_ofNat_of_zero_le (a := _) h0
  have hj : j < S.length := by omega
  show atI (S.map tupI) (j : Int) = _
  rw [atI_nat, List.getElem?_map, List.getElem?_eq_getElem hj]
  unfold atS
  show some (tupI S[j]) = some (tupI (S.getD ((j : Int)).toNat []))
  rw [Int.toNat_natCast]
  simp [hj]
theorem smallest_lots_ok (hW : okW ws) (hS : ∀ s ∈ S, okS ws s) (hn : S.length ≤ 40) : m_smallest_lots [tupI ws, rowD S] = .ok (dicD tupI (sml ws S S.length)) := by
  obtain ⟨ρ', e, ⟨x, hx⟩⟩ := forL_idx (fun k ρ => ∃ x, ρ = [.dat (tupI ws), .dat (rowD S), .dat (dicD tupI (sml ws S k)), x]) (fun i => PyData.int ((S.length : Int) - 1 - i)) (n := S.length) (g := gN 3)
    (b := sAsg (fCall m_lots_with (fCons (fV 0) (fCons (fV 2) (fCons (fV 3) (fCons (f2 pIx (fV 1) (fV 3)) (fNil)))))) (gN 2))
    (fun k ρ hk ⟨x, e⟩ => by
      subst e
      obtain ⟨k1, b1⟩ := sml_ok hW hS (k := k) (by omega)
      have hp : 0 ≤ (S.length : Int) - 1 - k := by omega
      have hq : (S.length : Int) - 1 - k < S.length := by omega
      refine ⟨[.dat (tupI ws), .dat (rowD S), .dat (dicD tupI (sml ws S k)), .dat (.int ((S.length : Int) - 1 - k))], [.dat (tupI ws), .dat (rowD S), .dat (dicD tupI (sml ws S (k + 1))), .dat (.int ((S.length : Int) - 1 - k))], rfl, ?_, _, rfl⟩
      exact asg_ok (call_ok (cons_ok rfl (cons_ok rfl (cons_ok rfl (cons_ok (op2 rfl rfl (pIx_row hp hq)) rfl)))) (lots_with_ok hW (atS_ok hS hp hq) k1 fun q hq => Nat.le_trans (best_len (by omega) k1 b1 q hq) (by omega))))
    (ρ := [.dat (tupI ws), .dat (rowD S), .dat (.dict []), .un]) ⟨_, rfl⟩
  subst hx
  have rv : asRev1 [.int S.length] = some ((List.range S.length).map fun i : Nat => PyData.int ((S.length : Int) - 1 - i)) := if_pos ⟨by omega, by omega⟩
  exact run_rt (g := g_smallest_lots) (seq_nx (asg_ok rfl) (seq_nx (for_ok (lift1 (as := [.int S.length]) (cons_ok (op1 (cons_ok rfl rfl) (pLen_rowD S)) rfl) rv) e) (ret_ok rfl)))
theorem best_all (hW : okW ws) (hS : ∀ s ∈ S, okS ws s) : KeysOk ws (sml ws S S.length) ∧ Best ws S 0 (sml ws S S.length) := by
  obtain ⟨k, b⟩ := sml_ok hW hS (Nat.le_refl S.length)
  exact ⟨k, by rwa [Int.sub_self] at b⟩
end Pu
end TS11

section TS12
set_option Elab.async false
set_option linter.all false
set_option maxRecDepth 100000
set_option maxHeartbeats 410000
namespace Pu
open L2 PySem Cm
/-! ### steps and lots as data -/
theorem ints_plain : ∀ k : Stp, PyData.plainAll (k.map .int) = true
  | [] => by unfold PyData.plainAll; rfl
  | i :: k => by
    show PyData.plainAll (.int i :: k.map .int) = true
    unfold PyData.plainAll PyData.plain
    rw [ints_plain k]; rfl
theorem tupI_plain (k : Stp) : (tupI k).plain = true := by unfold tupI PyData.plain; exact ints_plain k
theorem ints_depth : ∀ k : Stp, PyData.depthAll (k.map .int) = 0
  | [] => by unfold PyData.depthAll; rfl
  | i :: k => by
    show PyData.depthAll (.int i :: k.map .int) = 0
    unfold PyData.depthAll PyData.depth
    rw [ints_depth k]; rfl
theorem tupI_depth (k : Stp) : (tupI k).depth = 1 := by unfold tupI PyData.depth; rw [ints_depth]
theorem tups_plain : ∀ ks : List Stp, PyData.plainAll (ks.map tupI) = true
  | [] => by unfold PyData.plainAll; rfl
  | i :: k => by
    show PyData.plainAll (tupI i :: k.map tupI) = true
    unfold PyData.plainAll
    rw [tups_plain k, tupI_plain]; rfl
theorem tups_depth : ∀ ks : List Stp, PyData.depthAll (ks.map tupI) ≤ 1
  | [] => by unfold PyData.depthAll; exact Nat.zero_le _
  | i :: k => by
    show PyData.depthAll (tupI i :: k.map tupI) ≤ 1
    unfold PyData.depthAll
    rw [tupI_depth]
    exact Nat.max_le.mpr ⟨Nat.le_refl _, tups_depth k⟩
theorem ints_alike : ∀ a b : Stp, PySem.W.alikeAll (a.map .int) (b.map .int) = true
  | i :: a, j :: b => by
    show PySem.W.alikeAll (.int i :: a.map .int) (.int j :: b.map .int) = true
    unfold PySem.W.alikeAll PySem.W.alike
    rw [ints_alike a b]; rfl
  | [], b => by unfold PySem.W.alikeAll; rfl
  | i :: a, [] => by show PySem.W.alikeAll (.int i :: a.map .int) [] = true; unfold PySem.W.alikeAll; rfl
theorem tupI_alike (a b : Stp) : PySem.W.alike (tupI a) (tupI b) = true := by unfold tupI PySem.W.alike; exact ints_alike a b
theorem ints_eqv : ∀ a b : Stp, PyData.eqvAll (a.map .int) (b.map .int) = decide (a = b)
  | [], [] => by unfold PyData.eqvAll; rfl
  | i :: a, j :: b => by
    show PyData.eqvAll (.int i :: a.map .int) (.int j :: b.map .int) = _
    unfold PyData.eqvAll PyData.eqv
    rw [ints_eqv a b]
    apply Bool.eq_iff_iff.mpr
    simp
  | [], j :: b => by simp [PyData.eqvAll]
  | i :: a, [] => by simp [PyData.eqvAll]
theorem tupI_eqv (a b : Stp) : PyData.eqv (tupI a) (tupI b) = decide (a = b) := by unfold tupI PyData.eqv; exact ints_eqv a b
theorem tups_eqv : ∀ a b : List Stp, PyData.eqvAll (a.map tupI) (b.map tupI) = decide (a = b)
  | [], [] => by unfold PyData.eqvAll; rfl
  | i :: a, j :: b => by
    show PyData.eqvAll (tupI i :: a.map tupI) (tupI j :: b.map tupI) = _
    unfold PyData.eqvAll
    rw [tups_eqv a b, tupI_eqv]
    apply Bool.eq_iff_iff.mpr
    simp
  | [], j :: b => by simp [PyData.eqvAll]
  | i :: a, [] => by simp [PyData.eqvAll]
theorem pEq_tupI (a b : Stp) : pEq (tupI a) (tupI b) = some (.bool (decide (a = b))) := by
  unfold pEq
  rw [if_pos (by simp [tupI_plain, tupI_depth]), tupI_eqv]
theorem lst_ok (a : List Stp) : (PyData.list (a.map tupI)).plain = true ∧ (PyData.list (a.map tupI)).depth ≤ 32 := by
  refine ⟨by unfold PyData.plain; exact tups_plain a, ?_⟩
  have := tups_depth a
  unfold PyData.depth
  omega
theorem pNe_lst (a b : List Stp) : pNe (.list (a.map tupI)) (.list (b.map tupI)) = some (.bool (!decide (a = b))) := by
  unfold pNe
  rw [if_pos (by simp [lst_ok a, lst_ok b])]
  unfold PyData.eqv
  rw [tups_eqv]
theorem row_ok (a : List Stp) : (rowD a).plain = true ∧ (rowD a).depth ≤ 32 := by
  refine ⟨by unfold rowD PyData.plain; exact tups_plain a, ?_⟩
  have := tups_depth a
  unfold rowD PyData.depth
  omega
theorem pNe_row (a b : List Stp) : pNe (rowD a) (rowD b) = some (.bool (!decide (a = b))) := by
  unfold pNe
  rw [if_pos (by simp [row_ok a, row_ok b])]
  unfold rowD PyData.eqv
  rw [tups_eqv]
theorem anyEq_tups (a : Stp) (ks : List Stp) : anyEq (tupI a) (ks.map tupI) = decide (a ∈ ks) := by
  unfold anyEq
  rw [List.any_map]
  apply Bool.eq_iff_iff.mpr
  rw [List.any_eq_true, decide_eq_true_eq]
  constructor
  · rintro ⟨x, hx, e⟩
    have : x = a := of_decide_eq_true ((tupI_eqv x a).symm.trans e)
    exact this ▸ hx
  · intro h
    exact ⟨a, h, (tupI_eqv a a).trans (decide_eq_true rfl)⟩
theorem pNotIn_tups (a : Stp) (ks : List Stp) : pNotIn (tupI a) (.list (ks.map tupI)) = some (.bool (!decide (a ∈ ks))) := by
  show (if okIn (tupI a) (ks.map tupI) = true then some (PyData.bool (!anyEq (tupI a) (ks.map tupI))) else none) = _
  rw [if_pos (by simp [okIn, tups_plain, tupI_plain, tupI_depth]), anyEq_tups]
theorem okSort_tups {ks : List Stp} (hn : ks.length ≤ LIM) (hne : ∀ k ∈ ks, k ≠ []) : okSort (ks.map tupI) = true := by
  unfold okSort
  rw [Bool.and_eq_true, Bool.and_eq_true, Bool.and_eq_true]
  refine ⟨⟨⟨?_, ?_⟩, ?_⟩, decide_eq_true (by rwa [List.length_map])⟩
  · unfold alikeL
    simp [tupI_alike]
  · refine (Bool.or_eq_true _ _).mpr (.inl ?_)
    rw [List.all_map, List.all_eq_true]
    intro k hk
    cases k with
    | nil => exact absurd rfl (hne _ hk)
    | cons i k => rfl
  · simp [tupI_plain, tupI_depth]
/-! pairs of a lot's length and itself -/
def prD (l : Stp) : PyData := .tuple [.int l.length, tupI l]
instance leP_dec (a b : Stp) : Decidable (leP a b) := by unfold leP; exact inferInstance
def leB (a b : Stp) : Bool := decide (leP a b)
theorem pr_alike (a b : Stp) : PySem.W.alike (prD a) (prD b) = true := by
  unfold prD
  simp [PySem.W.alike, PySem.W.alikeAll, tupI_alike]
theorem pr_plain (a : Stp) : (prD a).plain = true := by
  unfold prD
  simp [PyData.plain, PyData.plainAll, tupI_plain]
theorem pr_depth (a : Stp) : (prD a).depth ≤ 2 := by
  unfold prD
  simp [PyData.depth, PyData.depthAll, tupI_depth]
theorem int_alike (i j : Int) : PySem.W.alike (.int i) (.int j) = true := by simp [PySem.W.alike]
theorem int_eqv (i j : Int) : PyData.eqv (.int i) (.int j) = decide (i = j) := by
  apply Bool.eq_iff_iff.mpr
  simp [PyData.eqv]
theorem dataLe_pr (a b : Stp) : PySem.W.dataLe false id (prD a) (prD b) = leB a b := by
  show (!PySem.W.dataLt (prD b) (prD a)) = decide (leP a b)
  unfold prD
  rw [PySem.W.dataLt_pair (int_alike _ _) (tupI_alike _ _), int_eqv, tupI_eqv, PySem.W.dataLt_int, show PySem.W.dataLt (tupI b) (tupI a) = decide (b < a) from PySem.W.dataLt_ints b a]
  rcases Nat.lt_trichotomy a.length b.length with h | h | h
  · rw [if_neg (by simp; omega), decide_eq_false (show ¬ ((b.length : Int) < a.length) by omega), decide_eq_true (show leP a b from .inl h)]; rfl
  · rw [if_pos (by simp; omega)]
    by_cases e : b = a
    · rw [if_pos (decide_eq_true e), decide_eq_true (show leP a b from .inr ⟨h, e ▸ List.le_refl _⟩)]; rfl
    · rw [if_neg (by simp [e])]
      by_cases z : b < a
      · rw [decide_eq_true z, decide_eq_false (show ¬ leP a b from fun q => q.elim (fun q => by omega) fun q => q.2 z)]; rfl
      · rw [decide_eq_false z, decide_eq_true (show leP a b from .inr ⟨h, List.not_lt.mp z⟩)]; rfl
  · rw [if_neg (by simp; omega), decide_eq_true (show (b.length : Int) < a.length by omega), decide_eq_false (show ¬ leP a b from fun q => q.elim (fun q => by omega) fun q => by omega)]; rfl
theorem okSort_prs {ls : List Stp} (hn : ls.length ≤ LIM) : okSort (ls.map prD) = true := by
  unfold okSort
  rw [Bool.and_eq_true, Bool.and_eq_true, Bool.and_eq_true]
  refine ⟨⟨⟨?_, ?_⟩, ?_⟩, decide_eq_true (by rwa [List.length_map])⟩
  · unfold alikeL
    simp [pr_alike]
  · refine (Bool.or_eq_true _ _).mpr (.inl ?_)
    rw [List.all_map, List.all_eq_true]
    intro k hk
    rfl
  · rw [List.all_map, List.all_eq_true]
    intro k hk
    have := pr_depth k
    show (_ && _) = true
    rw [pr_plain, decide_eq_true (by omega)]; rfl
theorem putIn_map {α β : Type} {le : α → α → Bool} {le' : β → β → Bool} (f : α → β) (h : ∀ a b, le' (f a) (f b) = le a b) (a : α) : ∀ l : List α, putIn le' (f a) (l.map f) = (putIn le a l).map f
  | [] => rfl
  | b :: l => by
    show (if le' (f a) (f b) then f a :: f b :: l.map f else f b :: putIn le' (f a) (l.map f)) = (if le a b then a :: b :: l else b :: putIn le a l).map f
    rw [h, putIn_map f h]
    split <;> rfl
theorem isort_map {α β : Type} {le : α → α → Bool} {le' : β → β → Bool} (f : α → β) (h : ∀ a b, le' (f a) (f b) = le a b) : ∀ l : List α, isort le' (l.map f) = (isort le l).map f
  | [] => rfl
  | a :: l => by
    show putIn le' (f a) (isort le' (l.map f)) = (putIn le a (isort le l)).map f
    rw [isort_map f h, putIn_map f h]
theorem isort_mem {α : Type} {le : α → α → Bool} {x : α} : ∀ {l : List α}, x ∈ isort le l ↔ x ∈ l
  | [] => Iff.rfl
  | a :: l => by
    show x ∈ putIn le a (isort le l) ↔ _
    rw [putIn_mem, isort_mem, List.mem_cons]
theorem isort_len {α : Type} {le : α → α → Bool} : ∀ l : List α, (isort le l).length = l.length
  | [] => rfl
  | a :: l => by
    have key : ∀ m : List α, (putIn le a m).length = m.length + 1 := by
      intro m
      induction m with
      | nil => rfl
      | cons b m ih =>
        unfold putIn
        split
        · rfl
        · rw [List.length_cons, ih]; rfl
    show (putIn le a (isort le l)).length = _
    rw [key, isort_len l]; rfl
theorem leP_trans {a b c : Stp} (h : leP a b) (k : leP b c) : leP a c := by
  rcases h with h | h <;> rcases k with k | k
  · exact .inl (Nat.lt_trans h k)
  · exact .inl (k.1 ▸ h)
  · exact .inl (h.1.symm ▸ k)
  · exact .inr ⟨h.1.trans k.1, List.le_trans h.2 k.2⟩
theorem leP_total (a b : Stp) : leP a b ∨ leP b a := by
  rcases Nat.lt_trichotomy a.length b.length with h | h | h
  · exact .inl (.inl h)
  · exact (List.le_total a b).elim (fun z => .inl (.inr ⟨h, z⟩)) fun z => .inr (.inr ⟨h.symm, z⟩)
  · exact .inr (.inl h)
theorem leP_anti {a b : Stp} (h : leP a b) (k : leP b a) : a = b := by
  rcases h with h | h <;> rcases k with k | k
  · omega
  · omega
  · omega
  · exact List.le_antisymm h.2 k.2
theorem leB_le : PySem.W.TotalLe leB := ⟨fun a b c h k => decide_eq_true (leP_trans (of_decide_eq_true h) (of_decide_eq_true k)), fun a b => (leP_total a b).imp decide_eq_true decide_eq_true⟩
theorem sortD_prs (ls : List Stp) : sortD (ls.map prD) = (isort leB ls).map prD := isort_map prD dataLe_pr ls
/-- the least stands first -/
theorem isort_least {ls : List Stp} {l : Stp} (hl : l ∈ ls) (h : ∀ m ∈ ls, leP l m) : ∃ r, isort leB ls = l :: r := by
  cases e : isort leB ls with
  | nil => exact absurd (e ▸ isort_mem.mpr hl) List.not_mem_nil
  | cons x r =>
    have p := isort_pw leB_le ls
    rw [e] at p
    have hx : x ∈ ls := isort_mem.mp (e ▸ List.mem_cons_self)
    have hl' : l ∈ x :: r := e ▸ isort_mem.mpr hl
    have : x = l := by
      rcases List.mem_cons.mp hl' with z | z
      · exact z.symm
      · exact leP_anti (of_decide_eq_true ((List.pairwise_cons.mp p).1 l z)) (h x hx)
    exact ⟨r, by rw [this]⟩
end Pu
end TS12

section TS13
set_option Elab.async false
set_option linter.all false
set_option maxRecDepth 100000
set_option maxHeartbeats 410000
namespace Pu
open L2 PySem Cm
/-! ### the lots of a row -/
theorem inc_snoc {k : Int} {m : Stp} (hk : 0 ≤ k) (h : Inc 0 k m) : Inc 0 (k + 1) (m ++ [k]) := by
  refine ⟨List.pairwise_append.mpr ⟨h.1, List.pairwise_cons.mpr ⟨fun _ z => absurd z List.not_mem_nil, List.Pairwise.nil⟩, fun a ha b hb => ?_⟩, fun i hi => ?_⟩
  · cases List.mem_singleton.mp hb
    exact (h.2 a ha).2
  · rcases List.mem_append.mp hi with z | z
    · have := h.2 i z; omega
    · cases List.mem_singleton.mp z; omega
theorem inc_last {k : Int} {l : Stp} (h : Inc 0 (k + 1) l) : Inc 0 k l ∨ ∃ m, l = m ++ [k] ∧ Inc 0 k m := by
  rcases List.eq_nil_or_concat l with rfl | ⟨m, j, rfl⟩
  · exact .inl .nil
  · obtain ⟨h1, h2⟩ := h
    rw [List.concat_eq_append] at *
    obtain ⟨p1, _, p3⟩ := List.pairwise_append.mp h1
    have hj := h2 j (List.mem_append_right _ List.mem_cons_self)
    have hm : ∀ i ∈ m, i < j := fun i hi => p3 i hi j List.mem_cons_self
    by_cases e : j = k
    · subst e
      exact .inr ⟨m, rfl, p1, fun i hi => ⟨(h2 i (List.mem_append_left _ hi)).1, hm i hi⟩⟩
    · refine .inl ⟨h1, fun i hi => ⟨(h2 i hi).1, ?_⟩⟩
      rcases List.mem_append.mp hi with z | z
      · have := hm i z; omega
      · cases List.mem_singleton.mp z; omega
theorem mem_lots : ∀ {n : Nat} {l : Stp}, l ∈ lotsL n ↔ Inc 0 n l
  | 0, l => by
    show l ∈ [[]] ↔ _
    rw [List.mem_singleton]
    constructor
    · rintro rfl; exact .nil
    · intro h
      cases l with
      | nil => rfl
      | cons i l => have := h.2 i List.mem_cons_self; omega
  | n + 1, l => by
    rw [lotsL, List.mem_append, List.mem_map, mem_lots (n := n)]
    constructor
    · rintro (h | ⟨m, h, rfl⟩)
      · exact ⟨h.1, fun i hi => by have := h.2 i hi; omega⟩
      · exact inc_snoc (Int.natCast_nonneg n) (mem_lots.mp h)
    · intro h
      have h : Inc 0 ((n : Int) + 1) l := h
      rcases inc_last h with z | ⟨m, rfl, z⟩
      · exact .inl z
      · exact .inr ⟨m, mem_lots.mpr z, rfl⟩
variable {ws : List Int} {S : List Stp}
theorem totL_snoc {m : Stp} {k : Int} : totL ws S (m ++ [k]) = addS ws (totL ws S m) (atS S k) := by
  unfold totL
  rw [List.map_append]
  exact totS_snoc ws _ _
theorem totL_nil : totL ws S [] = zeroS ws := rfl
theorem Inc.upto {p n n' : Int} {m : Stp} (h : Inc p n m) (hn : n ≤ n') : Inc p n' m := ⟨h.1, fun i hi => by have := h.2 i hi; omega⟩
/-! ### count_lots -/
def cwStep (ws : List Int) (s : Stp) (M : List (Stp × Int)) (q : Stp × Int) : List (Stp × Int) := dpt (addS ws q.1 s) ((dgt (addS ws q.1 s) M).getD 0 + q.2) M
def cw (ws : List Int) (s : Stp) (D : List (Stp × Int)) : List (Stp × Int) := D.foldl (cwStep ws s) D
theorem cw_keys (hW : okW ws) {s : Stp} (hs : okS ws s) : ∀ {L M : List (Stp × Int)}, KeysOk ws M → (∀ q ∈ L, okS ws q.1) → KeysOk ws (L.foldl (cwStep ws s) M)
  | [], _, h, _ => h
  | q :: L, M, h, hq => cw_keys (L := L) (M := cwStep ws s M q) hW hs (h.put (okS_add hW.wpos (hq q List.mem_cons_self) hs)) fun x hx => hq x (List.mem_cons_of_mem _ hx)
def cnt (g : Stp) (D : List (Stp × Int)) : Int := (dgt g D).getD 0
theorem cw_miss {s g : Stp} : ∀ {L M : List (Stp × Int)}, (∀ q ∈ L, addS ws q.1 s ≠ g) → cnt g (L.foldl (cwStep ws s) M) = cnt g M
  | [], _, _ => rfl
  | q :: L, M, h => by
    rw [List.foldl_cons, cw_miss fun x hx => h x (List.mem_cons_of_mem _ hx)]
    unfold cnt cwStep
    rw [dgt_dpt, if_neg (Ne.symm (h q List.mem_cons_self))]
theorem cw_hit {s : Stp} (hs : okS ws s) {q : Stp × Int} : ∀ {L M : List (Stp × Int)}, (kys L).Nodup → (∀ x ∈ L, okS ws x.1) → q ∈ L → cnt (addS ws q.1 s) (L.foldl (cwStep ws s) M) = cnt (addS ws q.1 s) M + q.2
  | x :: L, M, nd, ok, hq => by
    have ⟨n1, n2⟩ := List.nodup_cons.mp nd
    have okL : ∀ y ∈ L, okS ws y.1 := fun y hy => ok y (List.mem_cons_of_mem _ hy)
    rw [List.foldl_cons]
    cases hq with
    | head =>
      rw [cw_miss (g := addS ws q.1 s)]
      · unfold cnt cwStep
        rw [dgt_dpt, if_pos rfl]; rfl
      · intro y hy e
        exact n1 (List.mem_map.mpr ⟨y, hy, addS_cancel (okL y hy) (ok q List.mem_cons_self) hs e⟩)
    | tail _ hq =>
      rw [cw_hit hs n2 okL hq]
      have n : addS ws q.1 s ≠ addS ws x.1 s := fun e => n1 (List.mem_map.mpr ⟨q, hq, addS_cancel (okL q hq) (ok x List.mem_cons_self) hs e⟩)
      congr 1
      unfold cnt cwStep
      rw [dgt_dpt, if_neg n]
theorem counts_with_ok (hW : okW ws) {s : Stp} (hs : okS ws s) {D : List (Stp × Int)} (h : KeysOk ws D) : m_counts_with [tupI ws, dicD .int D, tupI s] = .ok (dicD .int (cw ws s D)) := by
  have hn : ∀ {E : List (Stp × Int)}, KeysOk ws E → E.length < LIM := fun k => Nat.lt_of_le_of_lt (k.len hW) (by unfold LIM; decide)
  obtain ⟨ρ', e, ⟨x, y, e', k⟩⟩ := forL_map (fun (M : List (Stp × Int)) ρ => ∃ x y, ρ = [.dat (tupI ws), .dat (dicD .int D), .dat (tupI s), .own (dicD .int M), x, y] ∧ KeysOk ws M) (fun q : Stp × Int => tupI q.1) (cwStep ws s) (g := gN 4)
    (b := sSeq (sAsg (fCall m_add_steps (fCons (fV 0) (fCons (fV 4) (fCons (fV 2) (fNil))))) (gN 5)) (sDPut 3 (fV 5) (f2 pAdd (fDGet2 3 (fV 5) (fC (.int 0))) (fDIx 1 (fV 4)))))
    (xs := D) (a := D) (ρ := [.dat (tupI ws), .dat (dicD .int D), .dat (tupI s), .own (dicD .int D), .un, .un])
    (fun M ρ q hq ⟨x, y, e, k⟩ => by
      subst e
      have oq := h.mem hq
      let g := addS ws q.1 s
      let ρ0 : Pu.Env := [.dat (tupI ws), .dat (dicD .int D), .dat (tupI s), .own (dicD .int M), .dat (tupI q.1), .dat (tupI g)]
      refine ⟨[.dat (tupI ws), .dat (dicD .int D), .dat (tupI s), .own (dicD .int M), .dat (tupI q.1), y], [.dat (tupI ws), .dat (dicD .int D), .dat (tupI s), .own (dicD .int (cwStep ws s M q)), .dat (tupI q.1), .dat (tupI g)], rfl, ?_, _, _, rfl, k.put (okS_add hW.wpos oq hs)⟩
      refine seq_nx (asg_ok (call_ok (cons_ok rfl (cons_ok rfl (cons_ok rfl rfl))) (add_steps_ok hW.wpos hW.lim oq.len hs.len))) ?_
      have v : f2 pAdd (fDGet2 3 (fV 5) (fC (.int 0))) (fDIx 1 (fV 4)) ρ0 = .ok (.int ((dgt g M).getD 0 + q.2)) ρ0 := op2 (dget2_ok (f := .int) (k := g) (x := 0) (D := M) rfl rfl (slot_own rfl)) (dix_ok (f := .int) (k := q.1) (v := q.2) (D := D) rfl (slot_dat rfl) (mem_dgt h.nd hq)) rfl
      exact dput_ok (f := PyData.int) (k := g) (v := (dgt g M).getD 0 + q.2) (D := M) (ρ := ρ0) rfl v rfl (hn k)) ⟨_, _, rfl, h⟩
  subst e'
  have c0 : fDc 1 (gN 4) fYes (fV 4) (fDIx 1 (fV 4)) [4] [.dat (tupI ws), .dat (dicD .int D), .dat (tupI s), .un, .un, .un] = .ok (dicD .int D) [.dat (tupI ws), .dat (dicD .int D), .dat (tupI s), .un, .un, .un] := dc_copy (f := PyData.int) h.nd (Nat.le_of_lt (hn h)) rfl (fun _ => rfl) (fun _ => rfl) (fun _ => rfl) rfl
  exact run_rt (g := g_counts_with) (seq_nx (own_ok c0) (seq_nx (forD_ok (f := PyData.int) (D := D) rfl e) (ret_ok rfl)))
def Counts (ws : List Int) (S : List Stp) (k : Nat) (D : List (Stp × Int)) : Prop := ∀ g, cnt g D = ((lotsL k).countP fun l => decide (totL ws S l = g) : Nat)
theorem counts_step (hW : okW ws) (hS : ∀ s ∈ S, okS ws s) {k : Nat} (hk : k < S.length) {D : List (Stp × Int)} (K : KeysOk ws D) (c : Counts ws S k D) : Counts ws S (k + 1) (cw ws (atS S k) D) := by
  have hs : okS ws (atS S k) := atS_ok hS (Int.natCast_nonneg k) (by omega)
  have okl : ∀ l ∈ lotsL k, okS ws (totL ws S l) := fun l hl => totL_ok hW hS (Int.le_refl 0) ((mem_lots.mp hl).upto (by omega))
  intro g
  have two : (lotsL (k + 1)).countP (fun l => decide (totL ws S l = g)) = (lotsL k).countP (fun l => decide (totL ws S l = g)) + (lotsL k).countP fun l => decide (addS ws (totL ws S l) (atS S k) = g) := by
    rw [lotsL, List.countP_append, List.countP_map]
    congr 1
    apply List.countP_congr
    intro l hl
    show decide (totL ws S (l ++ [(k : Int)]) = g) = true ↔ _
    rw [totL_snoc]
  rw [two, Int.natCast_add, ← c g]
  by_cases hit : ∃ q ∈ D, addS ws q.1 (atS S k) = g
  · obtain ⟨q, hq, e⟩ := hit
    have got := cw_hit (M := D) hs K.nd (fun x hx => K.mem hx) hq
    rw [e] at got
    show cnt g (D.foldl _ D) = _
    rw [got]
    congr 1
    have cq := c q.1
    unfold cnt at cq
    rw [mem_dgt K.nd hq] at cq
    show (some q.2).getD 0 = _
    rw [cq]
    congr 1
    apply List.countP_congr
    intro l hl
    rw [decide_eq_true_eq, decide_eq_true_eq]
    exact ⟨fun z => z ▸ e, fun z => addS_cancel (okl l hl) (K.mem hq) hs (z.trans e.symm)⟩
  · have got := cw_miss (M := D) (L := D) (s := atS S k) (g := g) fun q hq e => hit ⟨q, hq, e⟩
    show cnt g (D.foldl _ D) = _
    rw [got]
    have : (lotsL k).countP (fun l => decide (addS ws (totL ws S l) (atS S k) = g)) = 0 := by
      rw [List.countP_eq_zero]
      intro l hl e
      have e := of_decide_eq_true e
      have cl := c (totL ws S l)
      have pos : 0 < (lotsL k).countP (fun m => decide (totL ws S m = totL ws S l)) := List.countP_pos_iff.mpr ⟨l, hl, decide_eq_true rfl⟩
      unfold cnt at cl
      cases ed : dgt (totL ws S l) D with
      | none => rw [ed] at cl; change (0 : Int) = _ at cl; omega
      | some v => exact hit ⟨_, dgt_mem ed, e⟩
    rw [this]; omega
def cwAll (ws : List Int) (S : List Stp) : Nat → List (Stp × Int)
  | 0 => [(zeroS ws, 1)]
  | k + 1 => cw ws (atS S k) (cwAll ws S k)
theorem counts_all (hW : okW ws) (hS : ∀ s ∈ S, okS ws s) : ∀ {k : Nat}, k ≤ S.length → KeysOk ws (cwAll ws S k) ∧ Counts ws S k (cwAll ws S k)
  | 0, _ => ⟨⟨List.nodup_cons.mpr ⟨List.not_mem_nil, List.nodup_nil⟩, fun k hk => by cases List.mem_singleton.mp hk; exact okS_zero hW.wpos⟩, fun g => by
    show ((if zeroS ws = g then some (1 : Int) else none).getD 0) = (([[]] : List Stp).countP fun l => decide (totL ws S l = g) : Nat)
    by_cases e : zeroS ws = g
    · rw [if_pos e, List.countP_cons_of_pos (p := fun l => decide (totL ws S l = g)) (decide_eq_true (show totL ws S [] = g from e))]; rfl
    · rw [if_neg e, List.countP_cons_of_neg (p := fun l => decide (totL ws S l = g)) (a := ([] : Stp)) (fun z => e (show totL ws S [] = g from of_decide_eq_true z))]; rfl⟩
  | k + 1, h => by
    obtain ⟨K, c⟩ := counts_all hW hS (k := k) (by omega)
    exact ⟨cw_keys hW (atS_ok hS (Int.natCast_nonneg k) (by omega)) K fun _ hq => K.mem hq, counts_step hW hS h K c⟩
theorem at_pre {pre post : List Stp} {s : Stp} : atS (pre ++ s :: post) (pre.length : Nat) = s := by
  unfold atS
  rw [Int.toNat_natCast]
  simp
theorem count_lots_ok {rz : Rz} (hW : okW ws) (hS : ∀ s ∈ S, okS ws s) (hn : S.length ≤ 40) {g : Stp} (hg : okS ws g) : m_count_lots rz [tupI ws, rowD S, tupI g] = .ok (.int ((lotsL S.length).countP fun l => decide (totL ws S l = g) : Nat)) := by
  have few : ws.length ≤ 1000 := by have := hW.few; omega
  obtain ⟨ρ', e, ⟨x, hx⟩⟩ := forL_pre (fun (pre : List Stp) ρ => ∃ x, ρ = [.dat (tupI ws), .dat (rowD S), .dat (tupI g), .dat (dicD .int (cwAll ws S pre.length)), x]) tupI (xs := S) (g := gN 4)
    (b := sAsg (fCall m_counts_with (fCons (fV 0) (fCons (fV 3) (fCons (fV 4) (fNil))))) (gN 3))
    (fun pre s post ρ es ⟨x, e⟩ => by
      subst e
      have lt : pre.length < S.length := by rw [es, List.length_append, List.length_cons]; omega
      have a : atS S pre.length = s := by rw [es]; exact at_pre
      obtain ⟨K, _⟩ := counts_all hW hS (k := pre.length) (by omega)
      refine ⟨[.dat (tupI ws), .dat (rowD S), .dat (tupI g), .dat (dicD .int (cwAll ws S pre.length)), .dat (tupI s)], [.dat (tupI ws), .dat (rowD S), .dat (tupI g), .dat (dicD .int (cw ws (atS S pre.length) (cwAll ws S pre.length))), .dat (tupI s)], rfl, ?_, .dat (tupI s), by rw [List.length_append]; rfl⟩
      rw [a]
      exact asg_ok (call_ok (cons_ok rfl (cons_ok rfl (cons_ok rfl rfl))) (counts_with_ok hW (hS s (by rw [es]; exact List.mem_append_right _ List.mem_cons_self)) K)))
    (ρ := [.dat (tupI ws), .dat (rowD S), .dat (tupI g), .dat (dicD .int [(zeroS ws, 1)]), .un]) ⟨_, rfl⟩
  subst hx
  obtain ⟨K, c⟩ := counts_all hW hS (Nat.le_refl S.length)
  have last := dget2_ok (f := PyData.int) (k := g) (x := 0) (D := cwAll ws S S.length) (i := 3) (fk := fV 2) (fx := fC (.int 0)) (ρ := [.dat (tupI ws), .dat (rowD S), .dat (tupI g), .dat (dicD .int (cwAll ws S S.length)), x]) rfl rfl (slot_dat rfl)
  rw [show (dgt g (cwAll ws S S.length)).getD 0 = _ from c g] at last
  have pair : gPair (tupI (zeroS ws)) (.int 1) = some (dicD .int [(zeroS ws, 1)]) := by
    unfold gPair
    rw [keyT_tupI]; rfl
  exact run_rt (g := g_count_lots rz) (seq_nx (drop_ok (call_ok (cons_ok rfl rfl) (check_wheels_ok hW))) (seq_nx (drop_ok (call_ok (cons_ok rfl (cons_ok rfl rfl)) (check_row_ok hS hn))) (seq_nx (drop_ok (call_ok (cons_ok rfl (cons_ok rfl rfl)) (check_step_ok hg)))
    (seq_nx (asg_ok (op2 (call_ok (cons_ok rfl rfl) (home_step_ok few)) rfl pair)) (seq_nx (for_ok (ds := S.map tupI) rfl e) (ret_ok last))))))
end Pu
end TS13

section TS14
set_option Elab.async false
set_option linter.all false
set_option maxRecDepth 100000
set_option maxHeartbeats 410000
namespace Pu
open L2 PySem Cm
/-! ### the sums -/
theorem srt_same {a b : List Stp} (ha : a.Nodup) (hb : b.Nodup) (h : ∀ x, x ∈ a ↔ x ∈ b) : srt a = srt b := srt_perm ((List.perm_ext_iff_of_nodup ha hb).mpr h)
theorem srt_mem {ks : List Stp} {x : Stp} : x ∈ srt ks ↔ x ∈ ks := isort_mem
variable {ws : List Int} {S : List Stp}
def nonE (ws : List Int) (S : List Stp) (n : Nat) : List Stp := ((lotsL n).filter fun l => decide (0 < l.length)).map (totL ws S)
def sumsOf (ws : List Int) (S : List Stp) (n : Nat) : List Stp := srt (uniq (nonE ws S n))
theorem mem_nonE {n : Nat} {x : Stp} : x ∈ nonE ws S n ↔ ∃ l, l ≠ [] ∧ Inc 0 n l ∧ totL ws S l = x := by
  unfold nonE
  rw [List.mem_map]
  constructor
  · rintro ⟨l, hl, e⟩
    obtain ⟨h1, h2⟩ := List.mem_filter.mp hl
    exact ⟨l, List.length_pos_iff.mp (of_decide_eq_true h2), mem_lots.mp h1, e⟩
  · rintro ⟨l, h1, h2, e⟩
    exact ⟨l, List.mem_filter.mpr ⟨mem_lots.mpr h2, decide_eq_true (List.length_pos_iff.mpr h1)⟩, e⟩
theorem mem_sums {n : Nat} {x : Stp} : x ∈ sumsOf ws S n ↔ ∃ l, l ≠ [] ∧ Inc 0 n l ∧ totL ws S l = x := by
  unfold sumsOf
  rw [srt_mem, mem_uniq, mem_nonE]
theorem sums_ok (hW : okW ws) (hS : ∀ s ∈ S, okS ws s) {n : Nat} (hn : n ≤ S.length) {x : Stp} (h : x ∈ sumsOf ws S n) : okS ws x := by
  obtain ⟨l, _, i, rfl⟩ := mem_sums.mp h
  exact totL_ok hW hS (Int.le_refl 0) (i.upto (by omega))
theorem sums_succ (hW : okW ws) (hS : ∀ s ∈ S, okS ws s) {k : Nat} (hk : k < S.length) {x : Stp} : x ∈ sumsOf ws S (k + 1) ↔ x ∈ sumsOf ws S k ∨ x = atS S k ∨ ∃ y ∈ sumsOf ws S k, addS ws y (atS S k) = x := by
  rw [mem_sums]
  have hs : okS ws (atS S k) := atS_ok hS (Int.natCast_nonneg k) (by omega)
  constructor
  · rintro ⟨l, ne, h, e⟩
    have h : Inc 0 ((k : Int) + 1) l := h
    rcases inc_last h with z | ⟨m, rfl, z⟩
    · exact .inl (mem_sums.mpr ⟨l, ne, z, e⟩)
    · rw [totL_snoc] at e
      cases m with
      | nil => rw [totL_nil, zero_addS hW.wpos hs] at e; exact .inr (.inl e.symm)
      | cons i m => exact .inr (.inr ⟨_, mem_sums.mpr ⟨i :: m, fun z => (nomatch z), z, rfl⟩, e⟩)
  · rintro (h | rfl | ⟨y, h, e⟩)
    · obtain ⟨l, ne, h, e⟩ := mem_sums.mp h
      exact ⟨l, ne, h.upto (by omega), e⟩
    · exact ⟨[] ++ [(k : Int)], fun z => (nomatch z), inc_snoc (Int.natCast_nonneg k) .nil, by rw [totL_snoc, totL_nil, zero_addS hW.wpos hs]⟩
    · obtain ⟨l, ne, i, t⟩ := mem_sums.mp h
      exact ⟨l ++ [(k : Int)], by simp, inc_snoc (Int.natCast_nonneg k) i, by rw [totL_snoc, t, e]⟩
theorem okS_ne (hW : okW ws) {s : Stp} (h : okS ws s) : s ≠ [] := by
  rintro rfl
  have h1 := h.len
  have h2 := hW.pos
  rw [List.length_nil] at h1
  omega
theorem ok_few (hW : okW ws) {ks : List Stp} (nd : ks.Nodup) (h : ∀ k ∈ ks, okS ws k) : ks.length ≤ sizeN ws := by
  have := nodup_len (D := stepsL ws) nd fun k hk => mem_steps.mpr (h k hk)
  rwa [steps_len] at this
theorem set_ok {fa : M PyData} {ks : List Stp} {ρ ρ1 : Pu.Env} (h : fa ρ = .ok (.list (ks.map tupI)) ρ1) (hn : (uniq ks).length < 63) : fSet fa ρ = .ok ks ρ1 := by
  have p : pSet (.list (ks.map tupI)) = some ks := by
    show (tupsOf (ks.map tupI)).bind _ = _
    rw [tupsOf_map]
    exact if_pos hn
  simp only [fSet, M.bind, h, M.lift, p]
theorem gSortSet_ok (hW : okW ws) {ks : List Stp} (h : ∀ k ∈ ks, okS ws k) : gSortSet ks = some (.list ((srt (uniq ks)).map tupI)) := by
  have hk : ∀ k ∈ uniq ks, okS ws k := fun k z => h k (mem_uniq.mp z)
  exact if_pos (okSort_tups (Nat.le_trans (ok_few hW (nodup_uniq ks) hk) (Nat.le_trans (sizeN_le hW) (by unfold LIM; decide))) fun k z => okS_ne hW (hk k z))
theorem sums_len (hW : okW ws) (hS : ∀ s ∈ S, okS ws s) {n : Nat} (hn : n ≤ S.length) : (sumsOf ws S n).length ≤ sizeN ws := by
  unfold sumsOf srt
  rw [isort_len]
  exact ok_few hW (nodup_uniq _) fun k z => sums_ok hW hS hn (srt_mem.mpr z)
theorem law_sums_ok (hW : okW ws) (h63 : sizeN ws < 63) (hS : ∀ s ∈ S, okS ws s) {d : PyData} (hd : asSeq d = some (S.map tupI)) : m__law_sums [tupI ws, d] = .ok (.list ((sumsOf ws S S.length).map tupI)) := by
  have few : ws.length ≤ 1000 := by have := hW.few; omega
  have L400 : sizeN ws ≤ 400 := sizeN_le hW
  obtain ⟨ρ', e, ⟨x, hx⟩⟩ := forL_pre (fun (pre : List Stp) ρ => ∃ x, ρ = [.dat (tupI ws), .dat d, .dat (.list ((sumsOf ws S pre.length).map tupI)), x, .un]) tupI (xs := S) (g := gN 3)
    (b := sAsg (f1 gSortSet (fSet (f2 pAdd (f2 pAdd (fV 2) (f1 kLst (fCons (fV 3) (fNil)))) (fLc (fSeq (fV 2)) (gN 4) (fYes) (fCall m__law_added (fCons (fV 0) (fCons (fV 4) (fCons (fV 3) (fNil))))) [4])))) (gN 2))
    (fun pre s post ρ es ⟨x, e⟩ => by
      subst e
      have lt : pre.length < S.length := by rw [es, List.length_append, List.length_cons]; omega
      have a : atS S pre.length = s := by rw [es]; exact at_pre
      have hs : okS ws s := hS s (by rw [es]; exact List.mem_append_right _ List.mem_cons_self)
      have okF : ∀ x ∈ sumsOf ws S pre.length, okS ws x := fun x hx => sums_ok hW hS (by omega) hx
      have lF := sums_len hW hS (Nat.le_of_lt lt)
      let F := sumsOf ws S pre.length
      let ks := (F ++ [s]) ++ F.map fun y => addS ws y s
      let ρ0 : Pu.Env := [.dat (tupI ws), .dat d, .dat (.list (F.map tupI)), .dat (tupI s), .un]
      have okK : ∀ k ∈ ks, okS ws k := fun k hk => by
        rcases List.mem_append.mp hk with z | z
        · rcases List.mem_append.mp z with z | z
          · exact okF k z
          · exact List.mem_singleton.mp z ▸ hs
        · obtain ⟨y, hy, rfl⟩ := List.mem_map.mp z
          exact okS_add hW.wpos (okF y hy) hs
      have lc := lc_map tupI (fun y => tupI (addS ws y s)) (fl := fSeq (fV 2)) (g := gN 4) (e := fCall m__law_added (fCons (fV 0) (fCons (fV 4) (fCons (fV 3) (fNil))))) (vs := [4]) (ρ := ρ0) (ρ0 := ρ0) (ρ' := ρ0) (xs := F) rfl rfl rfl (by show (sumsOf ws S pre.length).length ≤ LIM; unfold LIM; omega) fun y hy =>
        ⟨[.dat (tupI ws), .dat d, .dat (.list (F.map tupI)), .dat (tupI s), .dat (tupI y)], [.dat (tupI ws), .dat d, .dat (.list (F.map tupI)), .dat (tupI s), .dat (tupI y)], rfl, call_ok (cons_ok rfl (cons_ok rfl (cons_ok rfl rfl))) (law_added_ok hW.wpos few (okF y hy).len hs.len), rfl⟩
      have p1 : pAdd (.list (F.map tupI)) (.list [tupI s]) = some (.list (F.map tupI ++ [tupI s])) := pAdd_lst (by rw [List.length_map]; show (sumsOf ws S pre.length).length + 1 ≤ LIM; unfold LIM; omega)
      have p2 : pAdd (.list (F.map tupI ++ [tupI s])) (.list (F.map fun y => tupI (addS ws y s))) = some (.list (ks.map tupI)) := by
        rw [pAdd_lst (by rw [List.length_append, List.length_map, List.length_map]; show (sumsOf ws S pre.length).length + 1 + (sumsOf ws S pre.length).length ≤ LIM; unfold LIM; omega)]
        show some (PyData.list _) = some (.list (((F ++ [s]) ++ F.map fun y => addS ws y s).map tupI))
        rw [List.map_append, List.map_append, List.map_map]; rfl
      have st := set_ok (op2 (op2 (g := pAdd) (fa := fV 2) (fb := f1 kLst (fCons (fV 3) (fNil))) (ρ := ρ0) (ρ1 := ρ0) (ρ2 := ρ0) rfl rfl p1) lc p2) (Nat.lt_of_le_of_lt (ok_few hW (nodup_uniq ks) fun k z => okK k (mem_uniq.mp z)) h63)
      have same : srt (uniq ks) = sumsOf ws S (pre.length + 1) := by
        refine srt_same (nodup_uniq _) (nodup_uniq _) fun x => ?_
        have h2 := sums_succ hW hS lt (x := x)
        rw [a] at h2
        rw [show x ∈ uniq (nonE ws S (pre.length + 1)) ↔ x ∈ sumsOf ws S (pre.length + 1) from srt_mem.symm, h2, mem_uniq]
        show x ∈ (F ++ [s]) ++ F.map (fun y => addS ws y s) ↔ _
        rw [List.mem_append, List.mem_append, List.mem_singleton, List.mem_map, or_assoc]
      have gs := gSortSet_ok hW okK
      rw [same] at gs
      exact ⟨ρ0, [.dat (tupI ws), .dat d, .dat (.list ((sumsOf ws S (pre.length + 1)).map tupI)), .dat (tupI s), .un], rfl, asg_ok (op1 st gs), .dat (tupI s), by rw [List.length_append]; rfl⟩)
    (ρ := [.dat (tupI ws), .dat d, .dat (.list []), .un, .un]) ⟨_, rfl⟩
  subst hx
  have sq : fSeq (fV 1) [.dat (tupI ws), .dat d, .dat (.list []), .un, .un] = .ok (S.map tupI) [.dat (tupI ws), .dat d, .dat (.list []), .un, .un] := by
    show M.lift (asSeq d) _ = _
    rw [hd]; rfl
  exact run_rt (g := g__law_sums) (seq_nx (asg_ok (d := .list []) rfl) (seq_nx (for_ok sq e) (ret_ok rfl)))
/-! ### the program's sums, never_home, home_lot, smallest_lot -/
theorem key_iff (hW : okW ws) (hS : ∀ s ∈ S, okS ws s) {x : Stp} : x ∈ kys (sml ws S S.length) ↔ x ∈ sumsOf ws S S.length := by
  obtain ⟨k, b⟩ := best_all hW hS
  have bx := b x
  rw [mem_sums]
  constructor
  · intro h
    cases e : dgt x (sml ws S S.length) with
    | none => exact absurd h (dgt_none.mp e)
    | some l => rw [e] at bx; exact ⟨l, bx.1.ne, bx.1.inc, bx.1.tot⟩
  · rintro ⟨l, ne, i, t⟩
    cases e : dgt x (sml ws S S.length) with
    | none => rw [e] at bx; exact absurd ⟨ne, i, t⟩ (bx l)
    | some l => exact List.mem_map.mpr ⟨_, dgt_mem e, rfl⟩
theorem dic_keys {α : Type} {f : α → PyData} (D : List (Stp × α)) : (dicP f D).map (·.1) = (kys D).map tupI := by
  unfold dicP kys
  rw [List.map_map, List.map_map]; rfl
theorem checks {rz : Rz} (hW : okW ws) (hS : ∀ s ∈ S, okS ws s) (hn : S.length ≤ 40) {ρ : Pu.Env} {o : Out} {b : SM} (h0 : fV 0 ρ = .ok (tupI ws) ρ) (h1 : fV 1 ρ = .ok (rowD S) ρ) (k : b ρ = o) :
    sSeq (sDrop (fCall (m_check_wheels rz) (fCons (fV 0) (fNil)))) (sSeq (sDrop (fCall (m_check_row rz) (fCons (fV 0) (fCons (fV 1) (fNil))))) b) ρ = o :=
  seq_nx (drop_ok (call_ok (cons_ok h0 rfl) (check_wheels_ok hW))) (seq_nx (drop_ok (call_ok (cons_ok h0 (cons_ok h1 rfl)) (check_row_ok hS hn))) k)
theorem sums_prog {rz : Rz} (hW : okW ws) (hS : ∀ s ∈ S, okS ws s) (hn : S.length ≤ 40) : m_sums rz [tupI ws, rowD S] = .ok (.tuple ((sumsOf ws S S.length).map tupI)) := by
  obtain ⟨k, b⟩ := best_all hW hS
  have ps : pSorted [dicD tupI (sml ws S S.length)] = some (.list ((sumsOf ws S S.length).map tupI)) := by
    show (if okSort ((dicP tupI (sml ws S S.length)).map (·.1)) = true then some (PyData.list (sortD ((dicP tupI (sml ws S S.length)).map (·.1)))) else none) = _
    rw [dic_keys, sortD_tups, if_pos (okSort_tups (by have := k.len hW; unfold kys; rw [List.length_map]; unfold LIM; omega) fun x hx => okS_ne hW (k.ok x hx))]
    rw [srt_same k.nd (nodup_uniq (nonE ws S S.length)) fun x => (key_iff hW hS).trans srt_mem]; rfl
  exact run_rt (g := g_sums rz) (checks hW hS hn rfl rfl (ret_ok (op1 (cons_ok (op1 (cons_ok (call_ok (cons_ok rfl (cons_ok rfl rfl)) (smallest_lots_ok hW hS hn)) rfl) ps) rfl) (pTuple_l _))))
theorem never_prog {rz : Rz} (hW : okW ws) (hS : ∀ s ∈ S, okS ws s) (hn : S.length ≤ 40) : m_never_home rz [tupI ws, rowD S] = .ok (.bool (!decide (zeroS ws ∈ sumsOf ws S S.length))) := by
  have few : ws.length ≤ 1000 := by have := hW.few; omega
  have g : gNin (tupI (zeroS ws)) (dicD tupI (sml ws S S.length)) = some (.bool (!decide (zeroS ws ∈ sumsOf ws S S.length))) := by
    unfold gNin
    rw [keyT_tupI]
    show some (PyData.bool !(dGet ((zeroS ws).map .inl) (dicP tupI (sml ws S S.length))).isSome) = _
    rw [dGet_dic, Option.isSome_map]
    congr 3
    apply Bool.eq_iff_iff.mpr
    rw [decide_eq_true_eq, ← key_iff hW hS]
    cases e : dgt (zeroS ws) (sml ws S S.length) with
    | none => exact ⟨fun z => (nomatch z), fun z => absurd z (dgt_none.mp e)⟩
    | some l => exact ⟨fun _ => List.mem_map.mpr ⟨_, dgt_mem e, rfl⟩, fun _ => rfl⟩
  have xn : fXNin (fCall m_home_step (fCons (fV 0) (fNil))) (fCall m_smallest_lots (fCons (fV 0) (fCons (fV 1) (fNil)))) [.dat (tupI ws), .dat (rowD S)] = .ok (.bool (!decide (zeroS ws ∈ sumsOf ws S S.length))) [.dat (tupI ws), .dat (rowD S)] := by
    have h1 : fCall m_home_step (fCons (fV 0) (fNil)) [.dat (tupI ws), .dat (rowD S)] = .ok (tupI (zeroS ws)) [.dat (tupI ws), .dat (rowD S)] := call_ok (cons_ok rfl rfl) (home_step_ok few)
    have h2 : fCall m_smallest_lots (fCons (fV 0) (fCons (fV 1) (fNil))) [.dat (tupI ws), .dat (rowD S)] = .ok (dicD tupI (sml ws S S.length)) [.dat (tupI ws), .dat (rowD S)] := call_ok (cons_ok rfl (cons_ok rfl rfl)) (smallest_lots_ok hW hS hn)
    simp only [fXNin, f1, M.bind, h1, h2, M.lift, isDi, g]
  exact run_rt (g := g_never_home rz) (checks hW hS hn rfl rfl (ret_ok xn))
theorem home_lot_prog {rz : Rz} (hW : okW ws) (hS : ∀ s ∈ S, okS ws s) (hn : S.length ≤ 40) : m_home_lot rz [tupI ws, rowD S] = .ok (((dgt (zeroS ws) (sml ws S S.length)).map tupI).getD .none) := by
  have few : ws.length ≤ 1000 := by have := hW.few; omega
  exact run_rt (g := g_home_lot rz) (checks hW hS hn rfl rfl (ret_ok (xget1_ok (f := tupI) (k := zeroS ws) (call_ok (cons_ok rfl (cons_ok rfl rfl)) (smallest_lots_ok hW hS hn)) (call_ok (cons_ok rfl rfl) (home_step_ok few)))))
theorem smallest_lot_prog {rz : Rz} (hW : okW ws) (hS : ∀ s ∈ S, okS ws s) (hn : S.length ≤ 40) {g : Stp} (hg : okS ws g) : m_smallest_lot rz [tupI ws, rowD S, tupI g] = .ok (((dgt g (sml ws S S.length)).map tupI).getD .none) :=
  run_rt (g := g_smallest_lot rz) (checks hW hS hn rfl rfl (seq_nx (drop_ok (call_ok (cons_ok rfl (cons_ok rfl rfl)) (check_step_ok hg))) (ret_ok (xget1_ok (f := tupI) (k := g) (call_ok (cons_ok rfl (cons_ok rfl rfl)) (smallest_lots_ok hW hS hn)) rfl))))
end Pu
end TS14

section TS15
set_option Elab.async false
set_option linter.all false
set_option maxRecDepth 100000
set_option maxHeartbeats 410000
namespace Pu
open L2 PySem Cm
/-! ### multiples of a step, its order -/
def mulS (ws : List Int) (s : Stp) : Nat → Stp
  | 0 => zeroS ws
  | n + 1 => addS ws (mulS ws s n) s
theorem mulS_ok {ws : List Int} (hw : ∀ w ∈ ws, 0 < w) {s : Stp} (h : okS ws s) : ∀ n, okS ws (mulS ws s n)
  | 0 => okS_zero hw
  | n + 1 => okS_add hw (mulS_ok hw h n) h
theorem mulS_one {ws : List Int} (hw : ∀ w ∈ ws, 0 < w) {s : Stp} (h : okS ws s) : mulS ws s 1 = s := zero_addS hw h
theorem times_zero : ∀ {ws s : List Int}, s.length = ws.length → timesS ws s 0 = zeroS ws
  | [], [], _ => rfl
  | w :: ws, x :: s, e => by
    rw [timesS_cons, times_zero (Nat.succ.inj e), Int.mul_zero, Int.zero_emod]; rfl
theorem times_succ (n : Int) : ∀ {ws s : List Int}, s.length = ws.length → timesS ws s (n + 1) = addS ws (timesS ws s n) s
  | [], [], _ => rfl
  | w :: ws, x :: s, e => by
    rw [timesS_cons, timesS_cons, times_succ n (Nat.succ.inj e)]
    show _ = (x * n % w + x) % w :: _
    rw [Int.emod_add_emod, Int.mul_add, Int.mul_one]
theorem times_mul {ws : List Int} {s : Stp} (h : okS ws s) : ∀ n : Nat, timesS ws s n = mulS ws s n
  | 0 => times_zero h.len
  | n + 1 => by
    show timesS ws s ((n : Int) + 1) = addS ws (mulS ws s n) s
    rw [times_succ n h.len, times_mul h n]
theorem mulS_add {ws : List Int} (hw : ∀ w ∈ ws, 0 < w) {s : Stp} (h : okS ws s) (i : Nat) : ∀ j, mulS ws s (i + j) = addS ws (mulS ws s i) (mulS ws s j)
  | 0 => (addS_zero (mulS_ok hw h i)).symm
  | j + 1 => by
    show addS ws (mulS ws s (i + j)) s = addS ws _ (addS ws (mulS ws s j) s)
    rw [mulS_add hw h i j, addS_assoc (mulS_ok hw h i) (mulS_ok hw h j) h]
theorem times_dvd (n : Int) : ∀ {ws s : List Int}, s.length = ws.length → (∀ w ∈ ws, w ∣ n) → timesS ws s n = zeroS ws
  | [], [], _, _ => rfl
  | w :: ws, x :: s, e, h => by
    rw [timesS_cons, times_dvd n (Nat.succ.inj e) fun v hv => h v (List.mem_cons_of_mem _ hv)]
    have d : w ∣ x * n := Int.dvd_trans (h w List.mem_cons_self) (Int.dvd_mul_left x n)
    rw [Int.emod_eq_zero_of_dvd d]; rfl
theorem dvd_size : ∀ {ws : List Int}, (∀ w ∈ ws, 0 ≤ w) → ∀ w ∈ ws, w ∣ (sizeN ws : Int)
  | v :: ws, h, w, hw => by
    have e : sizeN (v :: ws) = v.toNat * sizeN ws := by
      unfold sizeN
      rw [List.map_cons, List.foldl_cons, foldl_mul, Nat.one_mul]
    have hv : ((v.toNat : Nat) : Int) = v := Int.toNat_of_nonneg (h v List.mem_cons_self)
    rw [e, Int.natCast_mul, hv]
    rcases List.mem_cons.mp hw with (e1 | h1)
    · rw [e1]; exact Int.dvd_mul_right v _
    · exact Int.dvd_trans (dvd_size (fun u hu => h u (List.mem_cons_of_mem _ hu)) w h1) (Int.dvd_mul_left v _)
def isOrd (ws : List Int) (s : Stp) (n : Nat) : Prop := 1 ≤ n ∧ mulS ws s n = zeroS ws ∧ ∀ i, 1 ≤ i → i < n → mulS ws s i ≠ zeroS ws
theorem least_of {p : Nat → Prop} : ∀ {n : Nat}, 1 ≤ n → p n → ∃ m, 1 ≤ m ∧ m ≤ n ∧ p m ∧ ∀ i, 1 ≤ i → i < m → ¬ p i := by
  intro n
  refine Nat.strongRecOn n fun n ih => ?_
  · intro h1 hp
    by_cases e : ∃ i, 1 ≤ i ∧ i < n ∧ p i
    · obtain ⟨i, a, b, c⟩ := e
      obtain ⟨m, m1, m2, m3, m4⟩ := ih i b a c
      exact ⟨m, m1, by omega, m3, m4⟩
    · exact ⟨n, h1, Nat.le_refl _, hp, fun i a b c => e ⟨i, a, b, c⟩⟩
theorem ord_ex {ws : List Int} (hW : okW ws) {s : Stp} (h : okS ws s) : ∃ n, isOrd ws s n ∧ n ≤ sizeN ws := by
  have pos : 1 ≤ sizeN ws := fold_pos ws fun w hw => hW.wpos w hw
  have z : mulS ws s (sizeN ws) = zeroS ws := by
    rw [← times_mul h]
    exact times_dvd _ h.len (dvd_size fun w hw => Int.le_of_lt (hW.wpos w hw))
  obtain ⟨m, m1, m2, m3, m4⟩ := least_of (p := fun n => mulS ws s n = zeroS ws) pos z
  exact ⟨m, ⟨m1, m3, m4⟩, m2⟩
/-- the multiples below the order are unlike -/
theorem mul_inj {ws : List Int} (hw : ∀ w ∈ ws, 0 < w) {s : Stp} (h : okS ws s) {n : Nat} (o : isOrd ws s n) {i j : Nat} (hi : i < n) (hj : j < n) (e : mulS ws s i = mulS ws s j) : i = j := by
  have key : ∀ {i j : Nat}, i < j → j < n → mulS ws s i = mulS ws s j → False := fun {i j} hij hj e => by
    have e1 : mulS ws s j = addS ws (mulS ws s (j - i)) (mulS ws s i) := by rw [← mulS_add hw h, show j - i + i = j by omega]
    have e2 : addS ws (zeroS ws) (mulS ws s i) = addS ws (mulS ws s (j - i)) (mulS ws s i) := (zero_addS hw (mulS_ok hw h i)).trans (e.trans e1)
    have e3 := addS_cancel (okS_zero hw) (mulS_ok hw h (j - i)) (mulS_ok hw h i) e2
    exact o.2.2 (j - i) (by omega) (by omega) e3.symm
  rcases Nat.lt_trichotomy i j with l | l | l
  · exact (key l hj e).elim
  · exact l
  · exact (key l hi e.symm).elim
theorem ord_one {ws : List Int} {s : Stp} {n m : Nat} (a : isOrd ws s n) (b : isOrd ws s m) : n = m := by
  rcases Nat.lt_trichotomy n m with l | l | l
  · exact absurd a.2.1 (b.2.2 n a.1 l)
  · exact l
  · exact absurd b.2.1 (a.2.2 m b.1 l)
end Pu
end TS15

section TS16
set_option Elab.async false
set_option linter.all false
set_option maxRecDepth 100000
set_option maxHeartbeats 410000
namespace Pu
open L2 PySem Cm
/-! ### while -/
theorem whl_ok (I : Nat → Pu.Env → Prop) {c : M Bool} {b : SM} {n : Nat} (go : ∀ k ρ, k < n → I k ρ → c ρ = .ok true ρ ∧ ∃ ρ2, b ρ = .nx ρ2 ∧ I (k + 1) ρ2) (stop : ∀ ρ, I n ρ → c ρ = .ok false ρ) : ∀ {m k fuel : Nat} {ρ : Pu.Env}, k + m = n → m < fuel → I k ρ → ∃ ρ', sWhl c b fuel ρ = .nx ρ' ∧ I n ρ'
  | 0, k, fuel + 1, ρ, e, _, h => by
    have e : k = n := e
    subst e
    refine ⟨ρ, ?_, h⟩
    unfold sWhl sE
    rw [stop ρ h]; rfl
  | m + 1, k, fuel + 1, ρ, e, hf, h => by
    obtain ⟨h1, ρ2, h2, h3⟩ := go k ρ (by omega) h
    obtain ⟨ρ', e3, h4⟩ := whl_ok I go stop (m := m) (k := k + 1) (fuel := fuel) (ρ := ρ2) (by omega) (by omega) h3
    refine ⟨ρ', ?_, h4⟩
    unfold sWhl sE
    rw [h1]
    show (match b ρ with | .nx ρ2 => sWhl c b fuel ρ2 | .ct ρ2 => sWhl c b fuel ρ2 | .bk ρ2 => .nx ρ2 | .rt d ρ2 => .rt d ρ2 | .exc e ρ2 => .exc e ρ2 | .no => .no) = _
    rw [h2]
    exact e3
theorem pNe_tupI (a b : Stp) : pNe (tupI a) (tupI b) = some (.bool (!decide (a = b))) := by
  unfold pNe
  rw [if_pos (by simp [tupI_plain, tupI_depth]), tupI_eqv]
variable {ws : List Int} {s : Stp}
theorem law_order_ok (hW : okW ws) (h : okS ws s) {n : Nat} (o : isOrd ws s n) (hn : n ≤ 400) : m__law_order [tupI ws, tupI s] = .ok (.int n) := by
  have few : ws.length ≤ 1000 := by have := hW.few; omega
  have c1 : ∀ ρ : Pu.Env, fV 0 ρ = .ok (tupI ws) ρ → fCall m__law_home (fCons (fV 0) (fNil)) ρ = .ok (tupI (zeroS ws)) ρ := fun ρ h0 => call_ok (cons_ok h0 rfl) (law_home_ok few)
  obtain ⟨ρ', e, hx⟩ := whl_ok (fun k ρ => ρ = [.dat (tupI ws), .dat (tupI s), .dat (.int ((k : Int) + 1)), .dat (tupI (mulS ws s (k + 1)))]) (n := n - 1)
    (c := fTB (f2 pNe (fV 3) (fCall m__law_home (fCons (fV 0) (fNil))))) (b := sPar [2, 3] (fCons (f2 pAdd (fV 2) (fC (.int 1))) (fCons (fCall m__law_added (fCons (fV 0) (fCons (fV 3) (fCons (fV 1) (fNil))))) (fNil))))
    (fun k ρ hk e => by
      subst e
      have ne : decide (mulS ws s (k + 1) = zeroS ws) = false := decide_eq_false (o.2.2 (k + 1) (by omega) (by omega))
      have t := pNe_tupI (mulS ws s (k + 1)) (zeroS ws)
      rw [ne] at t
      let r : Pu.Env := [.dat (tupI ws), .dat (tupI s), .dat (.int ((k : Int) + 1)), .dat (tupI (mulS ws s (k + 1)))]
      have a : fCall m__law_added (fCons (fV 0) (fCons (fV 3) (fCons (fV 1) (fNil)))) r = .ok (tupI (mulS ws s (k + 1 + 1))) r := call_ok (cons_ok (ρ1 := r) rfl (cons_ok (ρ1 := r) rfl (cons_ok (ρ1 := r) rfl rfl))) (law_added_ok hW.wpos few (mulS_ok hW.wpos h (k + 1)).len h.len)
      have p : (fCons (f2 pAdd (fV 2) (fC (.int 1))) (fCons (fCall m__law_added (fCons (fV 0) (fCons (fV 3) (fCons (fV 1) (fNil))))) (fNil))) r = .ok [.int ((k : Int) + 1 + 1), tupI (mulS ws s (k + 1 + 1))] r := cons_ok (ρ1 := r) (op2 (ρ1 := r) rfl rfl rfl) (cons_ok a rfl)
      refine ⟨tb_ok (op2 (ρ1 := r) rfl (c1 r rfl) t), _, ?_, rfl⟩
      show sPar [2, 3] _ r = _
      unfold sPar
      simp only [sE, p]
      rfl)
    (fun ρ e => by
      subst e
      have e1 : n - 1 + 1 = n := by have := o.1; omega
      have t := pNe_tupI (mulS ws s (n - 1 + 1)) (zeroS ws)
      rw [decide_eq_true (by rw [e1]; exact o.2.1)] at t
      exact tb_ok (op2 rfl (c1 _ rfl) t)) (m := n - 1) (k := 0) (fuel := 1000) (ρ := [.dat (tupI ws), .dat (tupI s), .dat (.int 1), .dat (tupI s)]) (by omega) (by omega) (by rw [mulS_one hW.wpos h]; rfl)
  subst hx
  have e1 : ((n - 1 : Nat) : Int) + 1 = n := by have := o.1; omega
  rw [e1] at e
  have p0 : sPar [2, 3] (fCons (fC (.int 1)) (fCons (fV 1) (fNil))) [.dat (tupI ws), .dat (tupI s), .un, .un] = .nx [.dat (tupI ws), .dat (tupI s), .dat (.int 1), .dat (tupI s)] := rfl
  exact run_rt (g := g__law_order) (seq_nx p0 (seq_nx e (ret_ok rfl)))
end Pu
end TS16

section TS17
set_option Elab.async false
set_option linter.all false
set_option maxRecDepth 100000
set_option maxHeartbeats 410000
namespace Pu
open L2 PySem Cm
variable {ws : List Int} {s : Stp}
/-! ### numbers_of_multiples -/
def numD (ws : List Int) (s : Stp) (k : Nat) : List (Stp × Int) := (List.range k).map fun i => (mulS ws s (i + 1), ((i : Int) + 1))
theorem numD_succ (k : Nat) : numD ws s (k + 1) = numD ws s k ++ [(mulS ws s (k + 1), (k : Int) + 1)] := by
  unfold numD
  rw [List.range_succ, List.map_append]; rfl
theorem numD_len (k : Nat) : (numD ws s k).length = k := by unfold numD; rw [List.length_map, List.length_range]
theorem mem_numD {k : Nat} {x : Stp} : x ∈ kys (numD ws s k) ↔ ∃ i, i < k ∧ mulS ws s (i + 1) = x := by
  unfold kys numD
  rw [List.map_map, List.mem_map]
  exact ⟨fun ⟨i, hi, e⟩ => ⟨i, List.mem_range.mp hi, e⟩, fun ⟨i, hi, e⟩ => ⟨i, List.mem_range.mpr hi, e⟩⟩
theorem numD_new (hW : okW ws) (h : okS ws s) {n : Nat} (o : isOrd ws s n) {k : Nat} (hk : k + 1 < n) : mulS ws s (k + 1) ∉ kys (numD ws s k) := fun m => by
  obtain ⟨i, hi, e⟩ := mem_numD.mp m
  have := mul_inj hW.wpos h o (by omega) hk e
  omega
theorem numD_nodup (hW : okW ws) (h : okS ws s) {n : Nat} (o : isOrd ws s n) : ∀ {k : Nat}, k < n → (kys (numD ws s k)).Nodup
  | 0, _ => List.nodup_nil
  | k + 1, hk => by
    have e : numD ws s (k + 1) = dpt (mulS ws s (k + 1)) ((k : Int) + 1) (numD ws s k) := by rw [numD_succ, dpt_new (numD_new hW h o hk)]
    rw [e]
    exact dpt_nodup (numD_nodup hW h o (by omega))
theorem numbers_ok (hW : okW ws) (h : okS ws s) {n : Nat} (o : isOrd ws s n) (hn : n ≤ 400) : m_numbers_of_multiples [tupI ws, tupI s] = .ok (dicD .int (numD ws s (n - 1))) := by
  have few : ws.length ≤ 1000 := by have := hW.few; omega
  obtain ⟨ρ', e, hx⟩ := whl_ok (fun k ρ => ρ = [.dat (tupI ws), .dat (tupI s), .dat (tupI (zeroS ws)), .own (dicD .int (numD ws s k)), .dat (tupI (mulS ws s (k + 1)))]) (n := n - 1)
    (c := fTB (f2 pNe (fV 4) (fV 2))) (b := sSeq (sDPut 3 (fV 4) (f2 pAdd (fDLen 3) (fC (.int 1)))) (sAsg (fCall m_add_steps (fCons (fV 0) (fCons (fV 4) (fCons (fV 1) (fNil))))) (gN 4)))
    (fun k ρ hk e => by
      subst e
      have ne : decide (mulS ws s (k + 1) = zeroS ws) = false := decide_eq_false (o.2.2 (k + 1) (by omega) (by omega))
      have t := pNe_tupI (mulS ws s (k + 1)) (zeroS ws)
      rw [ne] at t
      let r : Pu.Env := [.dat (tupI ws), .dat (tupI s), .dat (tupI (zeroS ws)), .own (dicD .int (numD ws s k)), .dat (tupI (mulS ws s (k + 1)))]
      let r2 : Pu.Env := [.dat (tupI ws), .dat (tupI s), .dat (tupI (zeroS ws)), .own (dicD .int (numD ws s (k + 1))), .dat (tupI (mulS ws s (k + 1)))]
      have len : (dicP PyData.int (numD ws s k)).length = k := by unfold dicP; rw [List.length_map, numD_len]
      have l1 : fDLen 3 r = .ok (.int k) r := by
        show R.ok (PyData.int ((dicP PyData.int (numD ws s k)).length : Nat)) r = _
        rw [len]
      have v : f2 pAdd (fDLen 3) (fC (.int 1)) r = .ok (.int ((k : Int) + 1)) r := op2 l1 rfl rfl
      have put : sDPut 3 (fV 4) (f2 pAdd (fDLen 3) (fC (.int 1))) r = .nx r2 := by
        have p := dput_ok (f := PyData.int) (i := 3) (k := mulS ws s (k + 1)) (v := (k : Int) + 1) (D := numD ws s k) (fk := fV 4) (ρ := r) rfl v rfl (by rw [numD_len]; unfold LIM; omega)
        rw [p, dpt_new (numD_new hW h o (by omega)), ← numD_succ]; rfl
      have a : fCall m_add_steps (fCons (fV 0) (fCons (fV 4) (fCons (fV 1) (fNil)))) r2 = .ok (tupI (mulS ws s (k + 1 + 1))) r2 := call_ok (cons_ok (ρ1 := r2) rfl (cons_ok (ρ1 := r2) rfl (cons_ok (ρ1 := r2) rfl rfl))) (add_steps_ok hW.wpos hW.lim (mulS_ok hW.wpos h (k + 1)).len h.len)
      exact ⟨tb_ok (op2 (ρ1 := r) rfl rfl t), _, seq_nx put (asg_ok a), rfl⟩)
    (fun ρ e => by
      subst e
      have e1 : n - 1 + 1 = n := by have := o.1; omega
      have t := pNe_tupI (mulS ws s (n - 1 + 1)) (zeroS ws)
      rw [decide_eq_true (by rw [e1]; exact o.2.1)] at t
      exact tb_ok (op2 rfl rfl t)) (m := n - 1) (k := 0) (fuel := 1000) (ρ := [.dat (tupI ws), .dat (tupI s), .dat (tupI (zeroS ws)), .own (.dict []), .dat (tupI s)]) (by omega) (by omega) (by rw [mulS_one hW.wpos h]; rfl)
  subst hx
  exact run_rt (g := g_numbers_of_multiples) (seq_nx (asg_ok (call_ok (cons_ok rfl rfl) (home_step_ok few))) (seq_nx (own_ok (d := .dict []) rfl) (seq_nx (asg_ok rfl) (seq_nx e (ret_ok rfl)))))
end Pu
end TS17

section TS18
set_option Elab.async false
set_option linter.all false
set_option maxRecDepth 100000
set_option maxHeartbeats 410000
namespace Pu
open L2 PySem Cm
variable {ws : List Int} {s : Stp}
/-! ### integers_below -/
def getAll (D : List (Stp × Int)) : List Stp → Option (List Int)
  | [] => some []
  | x :: S => match dgt x D, getAll D S with
    | some v, some vs => some (v :: vs)
    | _, _ => none
theorem getAll_cons (D : List (Stp × Int)) (x : Stp) (S : List Stp) : getAll D (x :: S) = match dgt x D, getAll D S with
    | some v, some vs => some (v :: vs)
    | _, _ => none := rfl
theorem bools_map : ∀ bs : List Bool, asBools (bs.map .bool) = some bs
  | [] => rfl
  | b :: bs => by
    show (asBools (bs.map .bool)).map (b :: ·) = _
    rw [bools_map bs]; rfl
theorem pAll_bools (bs : List Bool) : pAll [.list (bs.map .bool)] = some (.bool (bs.all id)) := by
  show (asBools (bs.map .bool)).map _ = _
  rw [bools_map]; rfl
theorem getAll_all {D : List (Stp × Int)} : ∀ {S : List Stp}, (getAll D S).isSome = S.all fun x => (dgt x D).isSome
  | [] => rfl
  | x :: S => by
    rw [List.all_cons, ← getAll_all (S := S), getAll_cons]
    cases dgt x D with
    | none => rfl
    | some v => cases getAll D S <;> rfl
theorem getAll_map {D : List (Stp × Int)} : ∀ {S : List Stp} {vs : List Int}, getAll D S = some vs → vs = S.map fun x => (dgt x D).getD 0
  | [], vs, h => by cases h; rfl
  | x :: S, vs, h => by
    unfold getAll at h
    cases e : dgt x D with
    | none => (rw [e] at h; cases h)
    | some v =>
      rw [e] at h
      cases e2 : getAll D S with
      | none => rw [e2] at h; cases h
      | some us =>
        rw [e2] at h
        cases h
        rw [List.map_cons, e, ← getAll_map e2]; rfl
theorem getAll_some {D : List (Stp × Int)} {S : List Stp} {vs : List Int} (h : getAll D S = some vs) : ∀ x ∈ S, (dgt x D).isSome = true := fun x hx => by
  have := getAll_all (D := D) (S := S)
  rw [h] at this
  exact List.all_eq_true.mp this.symm x hx
def optD (o : Option (List Int)) : PyData := (o.map tupI).getD .none
theorem din_ok {i : Nat} {fk : M PyData} {k : Stp} {ρ : Pu.Env} {D : List (Stp × Int)} (hk : fk ρ = .ok (tupI k) ρ) (hs : slotD ρ i = some (dicP .int D)) : fDIn i fk ρ = .ok (dgt k D).isSome ρ := by
  unfold fDIn needD
  simp only [M.bind, hk, hs, kDIn, keyT_tupI, dGet_dic, Option.isSome_map]
theorem integers_below_ok (hW : okW ws) (h : okS ws s) {n : Nat} (o : isOrd ws s n) (hn : n ≤ 400) {S : List Stp} (hS : S.length ≤ 1000) : m_integers_below [tupI ws, tupI s, rowD S] = .ok (optD (getAll (numD ws s (n - 1)) S)) := by
  let D := numD ws s (n - 1)
  let r : Pu.Env := [.dat (tupI ws), .dat (tupI s), .dat (rowD S), .dat (dicD .int D), .un]
  have lc1 : fLc (fSeq (fV 2)) (gN 4) fYes ((fDIn 3 (fV 4)).bind fun b => M.pure (.bool b)) [4] r = .ok (.list (S.map fun x => PyData.bool (dgt x D).isSome)) r := lc_map tupI (fun x => PyData.bool (dgt x D).isSome) (ρ := r) (ρ0 := r) (ρ' := r) rfl rfl rfl (by unfold LIM; omega) fun x hx => by
    let r1 : Pu.Env := [.dat (tupI ws), .dat (tupI s), .dat (rowD S), .dat (dicD .int D), .dat (tupI x)]
    have d1 : fDIn 3 (fV 4) r1 = .ok (dgt x D).isSome r1 := din_ok (k := x) rfl (slot_dat rfl)
    exact ⟨r1, r1, rfl, by simp only [M.bind, d1, M.pure], rfl⟩
  have al := pAll_bools (S.map fun x => (dgt x D).isSome)
  rw [List.map_map, List.all_map] at al
  have c : fT (f1 pAll (fCons (fLc (fSeq (fV 2)) (gN 4) fYes ((fDIn 3 (fV 4)).bind fun b => M.pure (.bool b)) [4]) (fNil))) r = .ok (getAll D S).isSome r := by
    rw [getAll_all]
    exact t_ok (op1 (cons_ok lc1 rfl) al)
  have c0 : fCall m_numbers_of_multiples (fCons (fV 0) (fCons (fV 1) (fNil))) [.dat (tupI ws), .dat (tupI s), .dat (rowD S), .un, .un] = .ok (dicD .int D) [.dat (tupI ws), .dat (tupI s), .dat (rowD S), .un, .un] := call_ok (cons_ok rfl (cons_ok rfl rfl)) (numbers_ok hW h o hn)
  cases e : getAll D S with
  | none =>
    rw [e] at c
    exact run_rt (g := g_integers_below) (seq_nx (asg_ok (i := 3) c0) (seq_rt (if_yes (not_ok (b := false) c) (ret_ok rfl))))
  | some vs =>
    rw [e] at c
    have lc2 : fLc (fSeq (fV 2)) (gN 4) fYes (fDIx 3 (fV 4)) [4] r = .ok (.list (S.map fun x => PyData.int ((dgt x D).getD 0))) r := lc_map tupI (fun x => PyData.int ((dgt x D).getD 0)) (ρ := r) (ρ0 := r) (ρ' := r) rfl rfl rfl (by unfold LIM; omega) fun x hx => by
      let r1 : Pu.Env := [.dat (tupI ws), .dat (tupI s), .dat (rowD S), .dat (dicD .int D), .dat (tupI x)]
      have sm := getAll_some e x hx
      cases ex : dgt x D with
      | none => rw [ex] at sm; cases sm
      | some v => exact ⟨r1, r1, rfl, dix_ok (f := PyData.int) (k := x) (v := v) (D := D) rfl (slot_dat rfl) ex, rfl⟩
    have tp : f1 pTuple (fCons (fLc (fSeq (fV 2)) (gN 4) fYes (fDIx 3 (fV 4)) [4]) (fNil)) r = .ok (optD (some vs)) r := by
      refine (op1 (g := pTuple) (cons_ok lc2 rfl) (pTuple_l _)).trans ?_
      rw [getAll_map e]
      show R.ok (PyData.tuple _) r = .ok (tupI _) r
      unfold tupI
      rw [List.map_map]; rfl
    exact run_rt (g := g_integers_below) (seq_nx (asg_ok (i := 3) c0) (seq_nx (if_no (not_ok (b := true) c) rfl) (ret_ok tp)))
end Pu
end TS18

section TS19
set_option Elab.async false
set_option linter.all false
set_option maxRecDepth 100000
set_option maxHeartbeats 410000
namespace Pu
open L2 PySem Cm
/-! ### orders by places -/
theorem times_zero_iff (n : Int) : ∀ {ws s : List Int}, s.length = ws.length → (timesS ws s n = zeroS ws ↔ ∀ p ∈ s.zip ws, p.2 ∣ p.1 * n)
  | [], [], _ => by simp [timesS, trip, zeroS]
  | w :: ws, x :: s, e => by
    rw [timesS_cons]
    show (x * n % w :: timesS ws s n = 0 :: zeroS ws) ↔ _
    rw [List.cons.injEq, times_zero_iff n (Nat.succ.inj e), List.zip_cons_cons, List.forall_mem_cons, Int.dvd_iff_emod_eq_zero]
theorem dvd_part {x w n : Nat} (hw : 0 < w) : w ∣ x * n ↔ w / Nat.gcd x w ∣ n := by
  have g0 : 0 < Nat.gcd x w := Nat.gcd_pos_of_pos_right x hw
  have ew : Nat.gcd x w * (w / Nat.gcd x w) = w := Nat.mul_div_cancel' (Nat.gcd_dvd_right x w)
  have ex : Nat.gcd x w * (x / Nat.gcd x w) = x := Nat.mul_div_cancel' (Nat.gcd_dvd_left x w)
  constructor
  · intro h
    have h2 : Nat.gcd x w * (w / Nat.gcd x w) ∣ Nat.gcd x w * (x / Nat.gcd x w * n) := by rw [ew, ← Nat.mul_assoc, ex]; exact h
    have h3 := Nat.dvd_of_mul_dvd_mul_left g0 h2
    exact (Nat.coprime_div_gcd_div_gcd g0).symm.dvd_of_dvd_mul_left h3
  · intro h
    have h2 : Nat.gcd x w * (w / Nat.gcd x w) ∣ x * n := Nat.mul_dvd_mul (Nat.gcd_dvd_left x w) h
    rwa [ew] at h2
end Pu
end TS19

section TS20
set_option Elab.async false
set_option linter.all false
set_option maxRecDepth 100000
set_option maxHeartbeats 410000
namespace Pu
open L2 PySem Cm
/-! ### the program's order -/
def ordF (T : Nat) (p : Int × Int) : Nat := Nat.lcm T (p.2 / ((Nat.gcd p.1.natAbs p.2.natAbs : Nat) : Int)).natAbs
theorem part_nat {x w : Int} (hx : 0 ≤ x) (hw : 0 < w) : (w / ((Nat.gcd x.natAbs w.natAbs : Nat) : Int)).natAbs = w.natAbs / Nat.gcd x.natAbs w.natAbs := by
  obtain ⟨a, rfl⟩ := Int.eq_ofNat_of_zero_le hx
  obtain ⟨b, rfl⟩ := Int.eq_ofNat_of_zero_le (Int.le_of_lt hw)
  rw [Int.natAbs_natCast, Int.natAbs_natCast, ← Int.natCast_ediv, Int.natAbs_natCast]
theorem foldl_lcm (ps : List (Int × Int)) : ∀ (T m : Nat), ps.foldl ordF T ∣ m ↔ T ∣ m ∧ ∀ p ∈ ps, (p.2 / ((Nat.gcd p.1.natAbs p.2.natAbs : Nat) : Int)).natAbs ∣ m := by
  induction ps with
  | nil => intro T m; simp
  | cons p ps ih =>
    intro T m
    rw [List.foldl_cons, ih, List.forall_mem_cons]
    unfold ordF
    rw [Nat.lcm_dvd_iff, and_assoc]
theorem okS_zip : ∀ {ws s : List Int}, okS ws s → ∀ p ∈ s.zip ws, 0 ≤ p.1 ∧ p.1 < p.2
  | w :: ws, x :: s, h, p, hp => by
    rw [List.zip_cons_cons] at hp
    rcases List.mem_cons.mp hp with (rfl | hp)
    · exact ⟨h.1, h.2.1⟩
    · exact okS_zip h.2.2 p hp
  | [], [], _, p, hp => absurd hp List.not_mem_nil
theorem part_dvd {p : Int × Int} (h0 : 0 ≤ p.1) (h1 : p.1 < p.2) (m : Nat) : (p.2 / ((Nat.gcd p.1.natAbs p.2.natAbs : Nat) : Int)).natAbs ∣ m ↔ p.2 ∣ p.1 * (m : Int) := by
  obtain ⟨x, w⟩ := p
  have hw : 0 < w := by show 0 < w; have h0 : 0 ≤ x := h0; have h1 : x < w := h1; omega
  rw [part_nat h0 hw]
  have h0 : 0 ≤ x := h0
  obtain ⟨a, rfl⟩ := Int.eq_ofNat_of_zero_le (a := x) h0
  obtain ⟨b, rfl⟩ := Int.eq_ofNat_of_zero_le (Int.le_of_lt hw)
  rw [Int.natAbs_natCast, Int.natAbs_natCast, ← dvd_part (by omega)]
  show _ ↔ ((b : Nat) : Int) ∣ ((a : Nat) : Int) * (m : Int)
  rw [← Int.natCast_mul, Int.natCast_dvd_natCast]
/-- what the fold comes to is the order -/
theorem fold_ord {ws : List Int} (hW : okW ws) {s : Stp} (h : okS ws s) {n : Nat} (o : isOrd ws s n) : (s.zip ws).foldl ordF 1 = n := by
  have key : ∀ m : Nat, (s.zip ws).foldl ordF 1 ∣ m ↔ mulS ws s m = zeroS ws := fun m => by
    rw [foldl_lcm, ← times_mul h, times_zero_iff _ h.len]
    constructor
    · rintro ⟨_, k⟩ p hp
      have ⟨a, b⟩ := okS_zip h p hp
      exact (part_dvd a b m).mp (k p hp)
    · intro k
      refine ⟨Nat.one_dvd _, fun p hp => ?_⟩
      have ⟨a, b⟩ := okS_zip h p hp
      exact (part_dvd a b m).mpr (k p hp)
  have d1 := (key n).mpr o.2.1
  have d2 := (key _).mp (Nat.dvd_refl _)
  have le := Nat.le_of_dvd (by have := o.1; omega) d1
  have pos : 1 ≤ (s.zip ws).foldl ordF 1 := Nat.pos_of_dvd_of_pos d1 (by have := o.1; omega)
  rcases Nat.lt_or_ge ((s.zip ws).foldl ordF 1) n with l | g
  · exact absurd d2 (o.2.2 _ pos l)
  · omega
theorem pGcd_int (i j : Int) : pGcd [.int i, .int j] = some (.int ((Nat.gcd i.natAbs j.natAbs : Nat) : Int)) := rfl
theorem gcd_b {x w : Int} (h0 : 0 ≤ x) (h1 : x < w) (hw : w ≤ 400) : 0 < ((Nat.gcd x.natAbs w.natAbs : Nat) : Int) ∧ ((Nat.gcd x.natAbs w.natAbs : Nat) : Int) < 1073741824 := by
  have p : 0 < Nat.gcd x.natAbs w.natAbs := Nat.gcd_pos_of_pos_right _ (by omega)
  have l : Nat.gcd x.natAbs w.natAbs ≤ w.natAbs := Nat.gcd_le_right _ (by omega)
  omega
theorem order_ok {rz : Rz} {ws : List Int} (hW : okW ws) {s : Stp} (h : okS ws s) {n : Nat} (o : isOrd ws s n) : m_order rz [tupI ws, tupI s] = .ok (.int n) := by
  have b400 : ∀ p ∈ s.zip ws, 0 ≤ p.1 ∧ p.1 < p.2 ∧ p.2 ≤ 400 := fun p hp => by
    have ⟨a, b⟩ := okS_zip h p hp
    exact ⟨a, b, (hW.lo p.2 (List.of_mem_zip hp).2).2⟩
  have div : ∀ p ∈ s.zip ws, ((Nat.gcd p.1.natAbs p.2.natAbs : Nat) : Int) * (p.2 / ((Nat.gcd p.1.natAbs p.2.natAbs : Nat) : Int)) = p.2 := fun p hp => Int.mul_ediv_cancel' (by
    have ⟨a, b, _⟩ := b400 p hp
    have d : ((Nat.gcd p.1.natAbs p.2.natAbs : Nat) : Int) ∣ ((p.2.natAbs : Nat) : Int) := Int.natCast_dvd_natCast.mpr (Nat.gcd_dvd_right _ _)
    rwa [show ((p.2.natAbs : Nat) : Int) = p.2 by omega] at d)
  -- every partial fold divides n
  have dvd : ∀ (pre post : List (Int × Int)), s.zip ws = pre ++ post → pre.foldl ordF 1 ∣ n := fun pre post e => by
    have := fold_ord hW h o
    rw [e, List.foldl_append] at this
    have d := (foldl_lcm post (pre.foldl ordF 1) n).mp (this ▸ Nat.dvd_refl _)
    exact d.1
  have n400 : n ≤ 400 := by
    obtain ⟨m, om, hm⟩ := ord_ex hW h
    rw [ord_one o om]
    exact Nat.le_trans hm (sizeN_le hW)
  obtain ⟨ρ', e, ⟨x, y, hx⟩⟩ := forL_pre (fun (pre : List (Int × Int)) ρ => ∃ x y, ρ = [.dat (tupI ws), .dat (tupI s), .dat (.int ((pre.foldl ordF 1 : Nat) : Int)), x, y]) (fun p : Int × Int => PyData.tuple [.int p.1, .int p.2]) (xs := s.zip ws) (g := gT [gN 3, gN 4])
    (b := sAsg (f1 pLcm (fCons (fV 2) (fCons (f2 pDiv (fV 4) (f1 pGcd (fCons (fV 3) (fCons (fV 4) (fNil))))) (fNil)))) (gN 2))
    (fun pre p post ρ es ⟨x, y, e⟩ => by
      subst e
      have hp : p ∈ s.zip ws := by rw [es]; exact List.mem_append_right _ List.mem_cons_self
      obtain ⟨b0, b1, b2⟩ := b400 p hp
      let r : Pu.Env := [.dat (tupI ws), .dat (tupI s), .dat (.int ((pre.foldl ordF 1 : Nat) : Int)), .dat (.int p.1), .dat (.int p.2)]
      have g := gcd_b b0 b1 b2
      have a : pre.foldl ordF 1 ≤ 400 := Nat.le_trans (Nat.le_of_dvd (by have := o.1; omega) (dvd pre (p :: post) es)) n400
      have q0 : 0 ≤ p.2 / ((Nat.gcd p.1.natAbs p.2.natAbs : Nat) : Int) := Int.ediv_nonneg (by omega) (by omega)
      have q1 : p.2 / ((Nat.gcd p.1.natAbs p.2.natAbs : Nat) : Int) ≤ p.2 := Int.ediv_le_self _ (by omega)
      have dv : pDiv (.int p.2) (.int ((Nat.gcd p.1.natAbs p.2.natAbs : Nat) : Int)) = some (.int (p.2 / ((Nat.gcd p.1.natAbs p.2.natAbs : Nat) : Int))) := if_pos g
      have lc : pLcm [.int ((pre.foldl ordF 1 : Nat) : Int), .int (p.2 / ((Nat.gcd p.1.natAbs p.2.natAbs : Nat) : Int))] = some (.int ((ordF (pre.foldl ordF 1) p : Nat) : Int)) := if_pos ⟨by rw [Int.natAbs_natCast]; omega, by omega⟩
      refine ⟨r, [.dat (tupI ws), .dat (tupI s), .dat (.int ((ordF (pre.foldl ordF 1) p : Nat) : Int)), .dat (.int p.1), .dat (.int p.2)], rfl, ?_, _, _, by rw [List.foldl_append]; rfl⟩
      exact asg_ok (ρ1 := r) (op1 (cons_ok (ρ1 := r) rfl (cons_ok (op2 (ρ1 := r) (ρ2 := r) rfl (op1 (cons_ok (ρ1 := r) rfl (cons_ok (ρ1 := r) rfl rfl)) (pGcd_int _ _)) dv) rfl)) lc))
    (ρ := [.dat (tupI ws), .dat (tupI s), .dat (.int 1), .un, .un]) ⟨_, _, rfl⟩
  subst hx
  have z : asZip2 [tupI s, tupI ws] = some ((s.zip ws).map fun p : Int × Int => PyData.tuple [.int p.1, .int p.2]) := by
    show some (List.zipWith _ _ _) = _
    rw [zip2_int, List.zip_map_left, List.map_map]; rfl
  have zz : fZip2 (fCons (fV 1) (fCons (fV 0) (fNil))) [.dat (tupI ws), .dat (tupI s), .dat (.int 1), .un, .un] = .ok ((s.zip ws).map fun p : Int × Int => PyData.tuple [.int p.1, .int p.2]) [.dat (tupI ws), .dat (tupI s), .dat (.int 1), .un, .un] := lift1 (as := [tupI s, tupI ws]) rfl z
  rw [fold_ord hW h o] at e
  exact run_rt (g := g_order rz) (seq_nx (drop_ok (call_ok (cons_ok rfl rfl) (check_wheels_ok hW))) (seq_nx (drop_ok (call_ok (cons_ok rfl (cons_ok rfl rfl)) (check_step_ok h))) (seq_nx (asg_ok (d := .int 1) rfl) (seq_nx (for_ok zz e) (ret_ok rfl)))))
/-! ### the order as a function -/
def ordN (ws : List Int) (s : Stp) : Nat := (s.zip ws).foldl ordF 1
theorem ordN_is {ws : List Int} (hW : okW ws) {s : Stp} (h : okS ws s) : isOrd ws s (ordN ws s) := by
  obtain ⟨n, o, _⟩ := ord_ex hW h
  unfold ordN
  rw [fold_ord hW h o]
  exact o
theorem ordN_le {ws : List Int} (hW : okW ws) {s : Stp} (h : okS ws s) : ordN ws s ≤ sizeN ws := by
  obtain ⟨n, o, hn⟩ := ord_ex hW h
  unfold ordN
  rw [fold_ord hW h o]
  exact hn
end Pu
end TS20

section TS21
set_option Elab.async false
set_option linter.all false
set_option maxRecDepth 100000
set_option maxHeartbeats 410000
namespace Pu
open L2 PySem Cm
/-! ### walks that end at the first hit -/
theorem forL_find {β : Type} (I : Pu.Env → Prop) (f : β → PyData) (res : β → Option PyData) {g : TM} {b : SM} : ∀ {xs : List β} {ρ : Pu.Env}, (∀ ρ x, x ∈ xs → I ρ → ∃ ρ1 ρ2, g (f x) ρ = some ρ1 ∧ ((res x = none ∧ b ρ1 = .nx ρ2 ∧ I ρ2) ∨ (∃ d, res x = some d ∧ b ρ1 = .rt d ρ2))) → I ρ →
    ∃ ρ', (xs.findSome? res = none ∧ sForL g b (xs.map f) ρ = .nx ρ' ∧ I ρ') ∨ (∃ d, xs.findSome? res = some d ∧ sForL g b (xs.map f) ρ = .rt d ρ')
  | [], ρ, _, i => ⟨ρ, .inl ⟨rfl, rfl, i⟩⟩
  | x :: xs, ρ, h, i => by
    obtain ⟨ρ1, ρ2, h1, ⟨c, h2, h3⟩ | ⟨d, c, h2⟩⟩ := h ρ x List.mem_cons_self i
    · obtain ⟨ρ', e⟩ := forL_find I f res (xs := xs) (fun ρ d m => h ρ d (List.mem_cons_of_mem _ m)) h3
      refine ⟨ρ', ?_⟩
      simp only [List.map_cons, sForL, h1, h2, List.findSome?_cons, c]
      exact e
    · exact ⟨ρ2, .inr ⟨d, by rw [List.findSome?_cons, c], by simp only [List.map_cons, sForL, h1, h2]⟩⟩
/-! ### told_integers -/
def toldI (ws : List Int) (s : Stp) (S : List Stp) : Option (List Int) := match getAll (numD ws s (ordN ws s - 1)) S with
  | some vs => if vs.sum < ordN ws s then some vs else none
  | none => none
theorem pSum_tupI (vs : List Int) : pSum [tupI vs] = some (.int vs.sum) := by
  show (asInts (vs.map .int)).map _ = _
  rw [asInts_map]; rfl
theorem isNone_tupI (vs : List Int) : isNone (tupI vs) = false := rfl
variable {ws : List Int} {s : Stp} {S : List Stp}
theorem told_ok {rz : Rz} (hW : okW ws) (h : okS ws s) (hS : S.length ≤ 1000) : m_told_integers rz [tupI ws, tupI s, rowD S] = .ok (optD (toldI ws s S)) := by
  have o := ordN_is hW h
  have n4 : ordN ws s ≤ 400 := Nat.le_trans (ordN_le hW h) (sizeN_le hW)
  let r0 : Pu.Env := [.dat (tupI ws), .dat (tupI s), .dat (rowD S), .un]
  have c0 : sAsg (fCall m_integers_below (fCons (fV 0) (fCons (fV 1) (fCons (fV 2) (fNil))))) (gN 3) r0 = .nx [.dat (tupI ws), .dat (tupI s), .dat (rowD S), .dat (optD (getAll (numD ws s (ordN ws s - 1)) S))] := asg_ok (call_ok (cons_ok (ρ1 := r0) rfl (cons_ok (ρ1 := r0) rfl (cons_ok (ρ1 := r0) rfl rfl))) (integers_below_ok hW h o n4 hS))
  unfold toldI
  cases e : getAll (numD ws s (ordN ws s - 1)) S with
  | none =>
    rw [e] at c0
    exact run_rt (g := g_told_integers rz) (seq_nx c0 (seq_rt (if_yes (or_yes (tb_ok rfl)) (ret_ok rfl))))
  | some vs =>
    rw [e] at c0
    let r1 : Pu.Env := [.dat (tupI ws), .dat (tupI s), .dat (rowD S), .dat (tupI vs)]
    have t1 : fTB (f2 pIs (fV 3) (fC .none)) r1 = .ok false r1 := tb_ok rfl
    have t2 : fTB (f2 pGe (f1 pSum (fCons (fV 3) (fNil))) (fCall (m_order rz) (fCons (fV 0) (fCons (fV 1) (fNil))))) r1 = .ok (decide ((ordN ws s : Int) ≤ vs.sum)) r1 := tb_ok (op2 (op1 (cons_ok (ρ1 := r1) rfl rfl) (pSum_tupI vs)) (call_ok (cons_ok (ρ1 := r1) rfl (cons_ok (ρ1 := r1) rfl rfl)) (order_ok hW h o)) rfl)
    by_cases l : vs.sum < ordN ws s
    · rw [decide_eq_false (by omega)] at t2
      dsimp only
      rw [if_pos l]
      exact run_rt (g := g_told_integers rz) (seq_nx c0 (seq_nx (if_no (or_no t1 t2) rfl) (ret_ok rfl)))
    · rw [decide_eq_true (by omega)] at t2
      dsimp only
      rw [if_neg l]
      exact run_rt (g := g_told_integers rz) (seq_nx c0 (seq_rt (if_yes (or_no t1 t2) (ret_ok rfl))))
/-! ### find_teller, teller -/
def pairT (p : Stp × List Int) : PyData := .tuple [tupI p.1, tupI p.2]
def foundP (ws : List Int) (S : List Stp) (most : Int) (s : Stp) : Option (Stp × List Int) := match toldI ws s S with
  | some vs => if vs.sum ≤ most then some (s, vs) else none
  | none => none
def findV (ws : List Int) (S : List Stp) (most : Int) : Option (Stp × List Int) := (stepsL ws).findSome? (foundP ws S most)
def optP (o : Option (Stp × List Int)) : PyData := (o.map pairT).getD .none
theorem findSome_map {α β γ : Type} (f : α → Option β) (h : β → γ) : ∀ xs : List α, xs.findSome? (fun x => (f x).map h) = (xs.findSome? f).map h
  | [] => rfl
  | x :: xs => by
    rw [List.findSome?_cons, List.findSome?_cons]
    cases f x with
    | none => exact findSome_map f h xs
    | some b => rfl
theorem find_teller_ok {rz : Rz} (hW : okW ws) (hS : S.length ≤ 1000) (most : Int) : m_find_teller rz [tupI ws, rowD S, .int most] = .ok (optP (findV ws S most)) := by
  let r0 : Pu.Env := [.dat (tupI ws), .dat (rowD S), .dat (.int most), .un, .un]
  have body : ∀ ρ s, s ∈ stepsL ws → (∃ x y, ρ = [.dat (tupI ws), .dat (rowD S), .dat (.int most), x, y]) → ∃ ρ1 ρ2, gN 3 (tupI s) ρ = some ρ1 ∧ (((foundP ws S most s).map pairT = none ∧ (sSeq (sAsg (fCall (m_told_integers rz) (fCons (fV 0) (fCons (fV 3) (fCons (fV 1) (fNil))))) (gN 4)) (sIf (fAnd (fTB (f2 pIsNot (fV 4) (fC .none))) (fTB (f2 pLe (f1 pSum (fCons (fV 4) (fNil))) (fV 2)))) (sRet (f1 kTup (fCons (fV 3) (fCons (fV 4) (fNil))))) (sNil))) ρ1 = .nx ρ2 ∧ (∃ x y, ρ2 = [.dat (tupI ws), .dat (rowD S), .dat (.int most), x, y])) ∨ (∃ d, (foundP ws S most s).map pairT = some d ∧ (sSeq (sAsg (fCall (m_told_integers rz) (fCons (fV 0) (fCons (fV 3) (fCons (fV 1) (fNil))))) (gN 4)) (sIf (fAnd (fTB (f2 pIsNot (fV 4) (fC .none))) (fTB (f2 pLe (f1 pSum (fCons (fV 4) (fNil))) (fV 2)))) (sRet (f1 kTup (fCons (fV 3) (fCons (fV 4) (fNil))))) (sNil))) ρ1 = .rt d ρ2)) := fun ρ s hs ⟨x, y, e⟩ => by
    subst e
    let r1 : Pu.Env := [.dat (tupI ws), .dat (rowD S), .dat (.int most), .dat (tupI s), y]
    let r2 : Pu.Env := [.dat (tupI ws), .dat (rowD S), .dat (.int most), .dat (tupI s), .dat (optD (toldI ws s S))]
    have c0 : sAsg (fCall (m_told_integers rz) (fCons (fV 0) (fCons (fV 3) (fCons (fV 1) (fNil))))) (gN 4) r1 = .nx r2 := asg_ok (call_ok (cons_ok (ρ1 := r1) rfl (cons_ok (ρ1 := r1) rfl (cons_ok (ρ1 := r1) rfl rfl))) (told_ok hW (mem_steps.mp hs) hS))
    refine ⟨r1, r2, rfl, ?_⟩
    cases e : toldI ws s S with
    | none =>
      have c0 : _ = Out.nx [.dat (tupI ws), .dat (rowD S), .dat (.int most), .dat (tupI s), .dat (optD (toldI ws s S))] := c0
      rw [e] at c0
      refine .inl ⟨by unfold foundP; rw [e]; rfl, ?_, _, _, rfl⟩
      rw [seq_nx c0 rfl]
      show sIf _ _ _ _ = Out.nx [.dat (tupI ws), .dat (rowD S), .dat (.int most), .dat (tupI s), .dat (optD (toldI ws s S))]
      rw [e]
      exact if_no (and_no (tb_ok rfl)) rfl
    | some vs =>
      have c0 : _ = Out.nx [.dat (tupI ws), .dat (rowD S), .dat (.int most), .dat (tupI s), .dat (optD (toldI ws s S))] := c0
      rw [e] at c0
      let r3 : Pu.Env := [.dat (tupI ws), .dat (rowD S), .dat (.int most), .dat (tupI s), .dat (tupI vs)]
      have er : r2 = r3 := by show [Sl.dat (tupI ws), .dat (rowD S), .dat (.int most), .dat (tupI s), .dat (optD (toldI ws s S))] = _; rw [e]; rfl
      have t1 : fTB (f2 pIsNot (fV 4) (fC .none)) r3 = .ok true r3 := tb_ok rfl
      have t2 : fTB (f2 pLe (f1 pSum (fCons (fV 4) (fNil))) (fV 2)) r3 = .ok (decide (vs.sum ≤ most)) r3 := tb_ok (op2 (op1 (cons_ok (ρ1 := r3) rfl rfl) (pSum_tupI vs)) (ρ2 := r3) rfl rfl)
      by_cases l : vs.sum ≤ most
      · rw [decide_eq_true l] at t2
        refine .inr ⟨pairT (s, vs), by unfold foundP; rw [e]; dsimp only; rw [if_pos l]; rfl, ?_⟩
        rw [er]
        exact seq_nx c0 (if_yes (and_yes t1 t2) (ret_ok rfl))
      · rw [decide_eq_false l] at t2
        refine .inl ⟨by unfold foundP; rw [e]; dsimp only; rw [if_neg l]; rfl, ?_, _, _, rfl⟩
        rw [er]
        exact seq_nx c0 (if_no (and_yes t1 t2) rfl)
  obtain ⟨ρ', h⟩ := forL_find (fun ρ => ∃ x y, ρ = [.dat (tupI ws), .dat (rowD S), .dat (.int most), x, y]) tupI (fun s => (foundP ws S most s).map pairT) (xs := stepsL ws) (ρ := r0) body ⟨_, _, rfl⟩
  have sq : fSeq (fCall m_all_steps (fCons (fV 0) (fNil))) r0 = .ok ((stepsL ws).map tupI) r0 := by
    have c : fCall m_all_steps (fCons (fV 0) (fNil)) r0 = .ok (.list ((stepsL ws).map tupI)) r0 := call_ok (cons_ok (ρ1 := r0) rfl rfl) (all_steps_ok hW)
    simp only [fSeq, M.bind, c, asSeq_lst, M.lift]
  rw [findSome_map] at h
  unfold optP findV
  rcases h with ⟨e, h, x, y, rfl⟩ | ⟨d, e, h⟩
  · rw [e]
    exact run_rt (g := g_find_teller rz) (seq_nx (for_ok sq h) (ret_ok rfl))
  · rw [e]
    exact run_rt (g := g_find_teller rz) (seq_rt (for_ok sq h))
theorem teller_ok {rz : Rz} (hW : okW ws) (hS : ∀ s ∈ S, okS ws s) (hn : S.length ≤ 40) : m_teller rz [tupI ws, rowD S] = .ok (optP (findV ws S (sizeN ws))) := by
  have pt := places_together_ok hW
  rw [size_int hW.wpos] at pt
  exact run_rt (g := g_teller rz) (checks hW hS hn rfl rfl (ret_ok (call_ok (cons_ok rfl (cons_ok rfl (cons_ok (call_ok (cons_ok rfl rfl) pt) rfl))) (find_teller_ok hW (by omega) _))))
end Pu
end TS21

section TS22
set_option Elab.async false
set_option linter.all false
set_option maxRecDepth 100000
set_option maxHeartbeats 410000
namespace Pu
open L2 PySem Cm
variable {ws : List Int} {s : Stp} {S : List Stp}
/-! ### what told_integers says -/
structure TellI (ws : List Int) (s : Stp) (S : List Stp) (vs : List Int) : Prop where
  pos : ∀ v ∈ vs, 1 ≤ v
  row : S = vs.map fun v => mulS ws s v.toNat
  low : vs.sum < ordN ws s
theorem dgt_num (hW : okW ws) (h : okS ws s) {n : Nat} (o : isOrd ws s n) {k : Nat} (hk : k < n) {x : Stp} {v : Int} : dgt x (numD ws s k) = some v ↔ ∃ i, i < k ∧ mulS ws s (i + 1) = x ∧ v = (i : Int) + 1 := by
  constructor
  · intro e
    have := dgt_mem e
    unfold numD at this
    obtain ⟨i, hi, e⟩ := List.mem_map.mp this
    cases e
    exact ⟨i, List.mem_range.mp hi, rfl, rfl⟩
  · rintro ⟨i, hi, rfl, rfl⟩
    refine mem_dgt (numD_nodup hW h o hk) ?_
    unfold numD
    exact List.mem_map.mpr ⟨i, List.mem_range.mpr hi, rfl⟩
theorem getAll_iff (hW : okW ws) (h : okS ws s) {n : Nat} (o : isOrd ws s n) : ∀ {S : List Stp} {vs : List Int}, getAll (numD ws s (n - 1)) S = some vs ↔ S = vs.map (fun v => mulS ws s v.toNat) ∧ ∀ v ∈ vs, 1 ≤ v ∧ v < n
  | [], vs => by
    constructor
    · intro e; cases e; exact ⟨rfl, fun v hv => absurd hv List.not_mem_nil⟩
    · rintro ⟨e, _⟩
      cases vs with
      | nil => rfl
      | cons v vs => cases e
  | x :: S, vs => by
    have n1 := o.1
    rw [getAll_cons]
    constructor
    · intro e
      cases e1 : dgt x (numD ws s (n - 1)) with
      | none => rw [e1] at e; cases e
      | some v =>
        cases e2 : getAll (numD ws s (n - 1)) S with
        | none => rw [e1, e2] at e; cases e
        | some us =>
          rw [e1, e2] at e
          cases e
          obtain ⟨a, b⟩ := (getAll_iff hW h o).mp e2
          obtain ⟨i, hi, ex, ev⟩ := (dgt_num hW h o (by omega)).mp e1
          refine ⟨?_, fun w hw => ?_⟩
          · rw [List.map_cons, ← a, ← ex, ev]
            congr 1
          · rcases List.mem_cons.mp hw with (rfl | hw)
            · omega
            · exact b w hw
    · rintro ⟨e, hv⟩
      cases vs with
      | nil => cases e
      | cons v vs =>
        rw [List.map_cons] at e
        obtain ⟨e1, e2⟩ := List.cons.inj e
        have b := hv v List.mem_cons_self
        have d1 : dgt x (numD ws s (n - 1)) = some v := (dgt_num hW h o (by omega)).mpr ⟨v.toNat - 1, by omega, by rw [e1]; congr 1; omega, by omega⟩
        have d2 := (getAll_iff hW h o (S := S) (vs := vs)).mpr ⟨e2, fun w hw => hv w (List.mem_cons_of_mem _ hw)⟩
        rw [d1, d2]
theorem le_sum : ∀ {vs : List Int}, (∀ v ∈ vs, 1 ≤ v) → 0 ≤ vs.sum ∧ ∀ v ∈ vs, v ≤ vs.sum
  | [], _ => ⟨Int.le_refl 0, fun v hv => absurd hv List.not_mem_nil⟩
  | v :: vs, h => by
    have ⟨a, b⟩ := le_sum fun w hw => h w (List.mem_cons_of_mem v hw)
    have h1 := h v List.mem_cons_self
    rw [List.sum_cons]
    refine ⟨by omega, fun w hw => ?_⟩
    rcases List.mem_cons.mp hw with (rfl | hw)
    · omega
    · have := b w hw; omega
theorem toldI_iff (hW : okW ws) (h : okS ws s) {vs : List Int} : toldI ws s S = some vs ↔ TellI ws s S vs := by
  have o := ordN_is hW h
  unfold toldI
  constructor
  · intro e
    cases e1 : getAll (numD ws s (ordN ws s - 1)) S with
    | none => rw [e1] at e; cases e
    | some us =>
      rw [e1] at e
      dsimp only at e
      split at e
      · rename_i l
        cases e
        obtain ⟨a, b⟩ := (getAll_iff hW h o).mp e1
        exact ⟨fun v hv => (b v hv).1, a, l⟩
      · cases e
  · rintro ⟨a, b, c⟩
    have e1 := (getAll_iff hW h o (S := S) (vs := vs)).mpr ⟨b, fun v hv => ⟨a v hv, by have := (le_sum a).2 v hv; omega⟩⟩
    rw [e1]
    exact if_pos c
theorem TellI.len {vs : List Int} (t : TellI ws s S vs) : vs.length = S.length := by rw [t.row, List.length_map]
/-! ### are_integers -/
def areB (vs : List Int) : PyData → Bool
  | .tuple ds => decide (ds.length = vs.length) && (ds.zip vs).all fun p => (intIn p.2 p.2 p.1).getD false
  | _ => false
theorem intIn_eq {d : PyData} {i : Int} : (intIn i i d).getD false = true ↔ d = .int i := by
  cases d with
  | int v =>
    show (decide (i ≤ v) && decide (v ≤ i)) = true ↔ _
    rw [Bool.and_eq_true, decide_eq_true_eq (p := i ≤ v), decide_eq_true_eq]
    constructor
    · intro h; rw [show v = i by omega]
    · intro h; cases h; exact ⟨Int.le_refl _, Int.le_refl _⟩
  | _ => exact ⟨fun h => (by cases h), fun h => (by cases h)⟩
theorem areB_iff {vs : List Int} {d : PyData} : areB vs d = true ↔ d = tupI vs := by
  cases d with
  | tuple ds =>
    have key : ∀ {ds : List PyData} {vs : List Int}, (ds.length = vs.length ∧ (ds.zip vs).all (fun p => (intIn p.2 p.2 p.1).getD false) = true) ↔ ds = vs.map .int := by
      intro ds
      induction ds with
      | nil =>
        intro vs
        cases vs with
        | nil => exact ⟨fun _ => rfl, fun _ => ⟨rfl, rfl⟩⟩
        | cons v vs => exact ⟨fun h => (by cases h.1), fun h => (by cases h)⟩
      | cons d ds ih =>
        intro vs
        cases vs with
        | nil => exact ⟨fun h => (by cases h.1), fun h => (by cases h)⟩
        | cons v vs =>
          have i2 := ih (vs := vs)
          rw [List.zip_cons_cons, List.all_cons, Bool.and_eq_true, intIn_eq, List.map_cons, List.cons.injEq, List.length_cons, List.length_cons, Nat.add_right_cancel_iff]
          constructor
          · rintro ⟨a, b, c⟩; exact ⟨b, i2.mp ⟨a, c⟩⟩
          · rintro ⟨b, c⟩; exact ⟨(i2.mpr c).1, b, (i2.mpr c).2⟩
    show (decide _ && _) = true ↔ _
    rw [Bool.and_eq_true, decide_eq_true_eq, key]
    exact ⟨fun h => congrArg PyData.tuple h, fun h => PyData.tuple.inj h⟩
  | _ => exact ⟨fun h => (by cases h), fun h => (by cases h)⟩
theorem are_integers_ok (d : PyData) (vs : List Int) : m_are_integers [d, tupI vs] = .ok (.bool (areB vs d)) := by
  have notT : ∀ d : PyData, isIn .tuple d = false → areB vs d = false → m_are_integers [d, tupI vs] = .ok (.bool (areB vs d)) := fun d h e => by
    rw [e]
    let r : Pu.Env := [.dat d, .dat (tupI vs), .un, .un]
    have t : fT (f1 (fun d => some (.bool (isIn .tuple d))) (fV 0)) r = .ok false r := t_ok (op1 (ρ1 := r) rfl (congrArg (fun b => some (PyData.bool b)) h))
    exact run_rt (g := g_are_integers) (seq_rt (if_yes (or_yes (not_ok (b := false) t)) (ret_ok (ρ := r) rfl)))
  cases d with
  | tuple ds =>
    let r : Pu.Env := [.dat (.tuple ds), .dat (tupI vs), .un, .un]
    have t : fT (f1 (fun d => some (.bool (isIn .tuple d))) (fV 0)) r = .ok true r := t_ok (op1 (ρ1 := r) rfl rfl)
    have t2 : fTB (f2 pNe (f1 pLen (fCons (fV 0) (fNil))) (f1 pLen (fCons (fV 1) (fNil)))) r = .ok (!decide ((ds.length : Int) = vs.length)) r := tb_ok (op2 (op1 (cons_ok (ρ1 := r) rfl rfl) (pLen_tup ds)) (op1 (cons_ok (ρ1 := r) rfl rfl) (pLen_tupI vs)) (pNe_int _ _))
    by_cases hl : ds.length = vs.length
    · rw [decide_eq_true (show (ds.length : Int) = vs.length by omega)] at t2
      obtain ⟨ρ', e⟩ := forL_all (fun ρ => ∃ x y, ρ = [.dat (.tuple ds), .dat (tupI vs), x, y]) (fun p : PyData × Int => PyData.tuple [p.1, .int p.2]) (fun p => (intIn p.2 p.2 p.1).getD false) (.bool false) (g := gT [gN 2, gN 3])
        (b := sIf (fNot (fT (fCall m_is_integer (fCons (fV 2) (fCons (fV 3) (fCons (fV 3) (fNil))))))) (sRet (fC (.bool false))) (sNil)) (xs := ds.zip vs) (ρ := r)
        (fun ρ p hp ⟨x, y, e⟩ => by
          subst e
          obtain ⟨b, hb, hi⟩ := is_integer_any p.1 p.2 p.2
          let r2 : Pu.Env := [.dat (.tuple ds), .dat (tupI vs), .dat p.1, .dat (.int p.2)]
          have c : fT (fCall m_is_integer (fCons (fV 2) (fCons (fV 3) (fCons (fV 3) (fNil))))) r2 = .ok b r2 := t_ok (call_ok (cons_ok (ρ1 := r2) rfl (cons_ok (ρ1 := r2) rfl (cons_ok (ρ1 := r2) rfl rfl))) hi)
          refine ⟨r2, r2, rfl, ?_⟩
          rw [hb]
          cases b with
          | true => exact .inl ⟨rfl, if_no (not_ok c) rfl, _, _, rfl⟩
          | false => exact .inr ⟨rfl, if_yes (not_ok c) (ret_ok rfl)⟩) ⟨_, _, rfl⟩
      have z2 : fZip2 (fCons (fV 0) (fCons (fV 1) (fNil))) r = .ok ((ds.zip vs).map fun p => PyData.tuple [p.1, .int p.2]) r := lift1 (as := [.tuple ds, tupI vs]) rfl (by rw [← zip2_int]; rfl)
      have ar : areB vs (.tuple ds) = (ds.zip vs).all fun p => (intIn p.2 p.2 p.1).getD false := by
        show (decide _ && _) = _
        rw [decide_eq_true hl, Bool.true_and]
      have first : sIf (fOr (fNot (fT (f1 (fun d => some (.bool (isIn .tuple d))) (fV 0)))) (fTB (f2 pNe (f1 pLen (fCons (fV 0) (fNil))) (f1 pLen (fCons (fV 1) (fNil)))))) (sRet (fC (.bool false))) (sNil) r = .nx r := if_no (or_no (not_ok t) t2) rfl
      rw [ar]
      rcases e with ⟨c, e, x, y, rfl⟩ | ⟨c, e⟩
      · rw [c]
        exact run_rt (g := g_are_integers) (seq_nx first (seq_nx (for_ok z2 e) (ret_ok rfl)))
      · rw [c]
        exact run_rt (g := g_are_integers) (seq_nx first (seq_rt (for_ok z2 e)))
    · rw [decide_eq_false (show ¬ (ds.length : Int) = vs.length by omega)] at t2
      have ar : areB vs (.tuple ds) = false := by
        show (decide _ && _) = _
        rw [decide_eq_false hl, Bool.false_and]
      rw [ar]
      exact run_rt (g := g_are_integers) (seq_rt (if_yes (or_no (not_ok t) t2) (ret_ok (ρ := r) rfl)))
  | _ => exact notT _ rfl rfl
/-! ### shows_teller -/
theorem shows_none {rz : Rz} (hW : okW ws) (hS : ∀ s ∈ S, okS ws s) (hn : S.length ≤ 40) : m_shows_teller rz [tupI ws, rowD S, .none] = .ok (.bool (findV ws S (sizeN ws)).isNone) := by
  have pt := places_together_ok hW
  rw [size_int hW.wpos] at pt
  let r : Pu.Env := [.dat (tupI ws), .dat (rowD S), .dat .none, .un, .un, .un]
  have c : fCall (m_find_teller rz) (fCons (fV 0) (fCons (fV 1) (fCons (fCall m_places_together (fCons (fV 0) (fNil))) (fNil)))) r = .ok (optP (findV ws S (sizeN ws))) r := call_ok (cons_ok (ρ1 := r) rfl (cons_ok (ρ1 := r) rfl (cons_ok (call_ok (cons_ok (ρ1 := r) rfl rfl) pt) rfl))) (find_teller_ok hW (by omega) _)
  have e : pIs (optP (findV ws S (sizeN ws))) .none = some (.bool (findV ws S (sizeN ws)).isNone) := by cases findV ws S (sizeN ws) <;> rfl
  exact run_rt (g := g_shows_teller rz) (checks hW hS hn rfl rfl (seq_rt (if_yes (ρ1 := r) (tb_ok rfl) (ret_ok (op2 c (ρ2 := r) rfl e)))))
def isTwo : PyData → Bool
  | .tuple [_, _] => true
  | _ => false
theorem shows_bad {rz : Rz} (hW : okW ws) (hS : ∀ s ∈ S, okS ws s) (hn : S.length ≤ 40) {d : PyData} (h1 : isNone d = false) (h2 : isTwo d = false) : m_shows_teller rz [tupI ws, rowD S, d] = .ok (.bool false) := by
  let r : Pu.Env := [.dat (tupI ws), .dat (rowD S), .dat d, .un, .un, .un]
  have t0 : fTB (f2 pIs (fV 2) (fC .none)) r = .ok false r := tb_ok (op2 (ρ1 := r) (ρ2 := r) rfl rfl (show pIs d .none = some (.bool false) by rw [show pIs d .none = some (.bool (isNone d)) by cases d <;> rfl, h1]))
  have cond : fOr (fNot (fT (f1 (fun d => some (.bool (isIn .tuple d))) (fV 2)))) (fTB (f2 pNe (f1 pLen (fCons (fV 2) (fNil))) (fC (.int 2)))) r = .ok true r := by
    cases d with
    | tuple ds =>
      refine or_no (ρ1 := r) (not_ok (b := true) (t_ok (op1 (ρ1 := r) rfl rfl))) (tb_ok (op2 (op1 (cons_ok (ρ1 := r) rfl rfl) (pLen_tup ds)) (ρ2 := r) rfl ?_))
      rw [pNe_int, decide_eq_false]; rfl
      intro e
      match ds, e with
      | [a, b], _ => cases h2
      | [], e => cases e
      | [_], e => cases e
      | _ :: _ :: _ :: _, e => simp at e; omega
    | _ => exact or_yes (ρ1 := r) (not_ok (b := false) (t_ok (op1 (ρ1 := r) rfl rfl)))
  exact run_rt (g := g_shows_teller rz) (checks hW hS hn rfl rfl (seq_nx (if_no t0 rfl) (seq_rt (if_yes cond (ret_ok (ρ := r) rfl)))))
theorem shows_pair {rz : Rz} (hW : okW ws) (hS : ∀ s ∈ S, okS ws s) (hn : S.length ≤ 40) (a b : PyData) {o : Out} (k : let r : Pu.Env := [.dat (tupI ws), .dat (rowD S), .dat (.tuple [a, b]), .dat a, .dat b, .un]
    sSeq (sIf (fNot (fT (fCall m_is_step (fCons (fV 0) (fCons (fV 3) (fNil)))))) (sRet (fC (.bool false))) (sNil)) (sSeq (sAsg (fCall (m_told_integers rz) (fCons (fV 0) (fCons (fV 3) (fCons (fV 1) (fNil))))) (gN 5)) (sRet (fAndV (f2 pIsNot (fV 5) (fC .none)) (fCall m_are_integers (fCons (fV 4) (fCons (fV 5) (fNil))))))) r = o) : g_shows_teller rz [.dat (tupI ws), .dat (rowD S), .dat (.tuple [a, b]), .un, .un, .un] = o := by
  let r : Pu.Env := [.dat (tupI ws), .dat (rowD S), .dat (.tuple [a, b]), .un, .un, .un]
  let r2 : Pu.Env := [.dat (tupI ws), .dat (rowD S), .dat (.tuple [a, b]), .dat a, .dat b, .un]
  have t0 : fTB (f2 pIs (fV 2) (fC .none)) r = .ok false r := tb_ok rfl
  have cond : fOr (fNot (fT (f1 (fun d => some (.bool (isIn .tuple d))) (fV 2)))) (fTB (f2 pNe (f1 pLen (fCons (fV 2) (fNil))) (fC (.int 2)))) r = .ok false r :=
    or_no (ρ1 := r) (not_ok (b := true) (t_ok (op1 (ρ1 := r) rfl rfl))) (tb_ok (op2 (op1 (cons_ok (ρ1 := r) rfl rfl) (pLen_tup [a, b])) (ρ2 := r) rfl (by rw [pNe_int]; rfl)))
  exact checks hW hS hn (ρ := r) rfl rfl (seq_nx (if_no t0 rfl) (seq_nx (if_no cond rfl) (seq_nx (asg_env (ρ1 := r) (ρ2 := r2) rfl rfl) k)))
theorem shows_nostep {rz : Rz} (hW : okW ws) (hS : ∀ s ∈ S, okS ws s) (hn : S.length ≤ 40) {a b : PyData} (h : isStepD ws a = false) : m_shows_teller rz [tupI ws, rowD S, .tuple [a, b]] = .ok (.bool false) := by
  let r2 : Pu.Env := [.dat (tupI ws), .dat (rowD S), .dat (.tuple [a, b]), .dat a, .dat b, .un]
  have c : fT (fCall m_is_step (fCons (fV 0) (fCons (fV 3) (fNil)))) r2 = .ok false r2 := by
    have := is_step_any (ws := ws) a
    rw [h] at this
    exact t_ok (call_ok (cons_ok (ρ1 := r2) rfl (cons_ok (ρ1 := r2) rfl rfl)) this)
  exact run_rt (g := g_shows_teller rz) (shows_pair hW hS hn a b (seq_rt (if_yes (not_ok c) (ret_ok (ρ := r2) rfl))))
def showS (ws : List Int) (S : List Stp) (u : Stp) (b : PyData) : Bool := match toldI ws u S with
  | some vs => areB vs b
  | none => false
theorem shows_step {rz : Rz} (hW : okW ws) (hS : ∀ s ∈ S, okS ws s) (hn : S.length ≤ 40) {u : Stp} (hu : okS ws u) (b : PyData) : m_shows_teller rz [tupI ws, rowD S, .tuple [tupI u, b]] = .ok (.bool (showS ws S u b)) := by
  let r2 : Pu.Env := [.dat (tupI ws), .dat (rowD S), .dat (.tuple [tupI u, b]), .dat (tupI u), .dat b, .un]
  have c : fT (fCall m_is_step (fCons (fV 0) (fCons (fV 3) (fNil)))) r2 = .ok true r2 := t_ok (call_ok (cons_ok (ρ1 := r2) rfl (cons_ok (ρ1 := r2) rfl rfl)) (is_step_ok hu))
  have c0 : sAsg (fCall (m_told_integers rz) (fCons (fV 0) (fCons (fV 3) (fCons (fV 1) (fNil))))) (gN 5) r2 = .nx [.dat (tupI ws), .dat (rowD S), .dat (.tuple [tupI u, b]), .dat (tupI u), .dat b, .dat (optD (toldI ws u S))] := asg_ok (call_ok (cons_ok (ρ1 := r2) rfl (cons_ok (ρ1 := r2) rfl (cons_ok (ρ1 := r2) rfl rfl))) (told_ok hW hu (by omega)))
  refine run_rt (g := g_shows_teller rz) (ρ := [.dat (tupI ws), .dat (rowD S), .dat (.tuple [tupI u, b]), .dat (tupI u), .dat b, .dat (optD (toldI ws u S))]) (shows_pair hW hS hn _ b (seq_nx (if_no (not_ok c) rfl) (seq_nx c0 ?_)))
  unfold showS
  cases toldI ws u S with
  | none => exact ret_ok (andV_no rfl)
  | some vs =>
    let r3 : Pu.Env := [.dat (tupI ws), .dat (rowD S), .dat (.tuple [tupI u, b]), .dat (tupI u), .dat b, .dat (tupI vs)]
    exact ret_ok (andV_yes (ρ1 := r3) rfl (call_ok (cons_ok (ρ1 := r3) rfl (cons_ok (ρ1 := r3) rfl rfl)) (are_integers_ok b vs)))
theorem showS_tup {u : Stp} {vs : List Int} : showS ws S u (tupI vs) = decide (toldI ws u S = some vs) := by
  unfold showS
  cases toldI ws u S with
  | none => rfl
  | some us =>
    apply Bool.eq_iff_iff.mpr
    rw [areB_iff, decide_eq_true_eq]
    constructor
    · intro h
      have h : vs.map PyData.int = us.map PyData.int := PyData.tuple.inj h
      have := List.map_inj_right (f := PyData.int) (fun a b e => PyData.int.inj e) |>.mp h
      rw [this]
    · intro h; cases h; rfl
/-- a value that isn't the integers that are told -/
theorem showS_no {u : Stp} {b : PyData} (h : ∀ vs, toldI ws u S = some vs → b ≠ tupI vs) : showS ws S u b = false := by
  unfold showS
  cases e : toldI ws u S with
  | none => rfl
  | some vs =>
    cases e2 : areB vs b with
    | false => exact e2
    | true => exact absurd (areB_iff.mp e2) (h vs e)
end Pu
end TS22

section TS6
set_option Elab.async false
set_option linter.all false
set_option maxRecDepth 100000
set_option maxHeartbeats 410000
namespace Pu
open L2 PySem Cm
theorem asRng2_nat {a n : Nat} (ha : a ≤ 1000000) (hn : n ≤ 1000000) : asRng2 [.int a, .int n] = some ((List.range' a (n - a)).map fun i : Nat => PyData.int i) := by
  have c : -(2 ^ 62) ≤ (a : Int) ∧ (a : Int) ≤ 1000000 ∧ -(2 ^ 62) ≤ (n : Int) ∧ (n : Int) ≤ 1000000 := ⟨by omega, by omega, by omega, by omega⟩
  show (if _ then _ else _) = _
  rw [if_pos c, show ((n : Int) - a).toNat = n - a by omega]
  unfold upTo
  rw [List.range'_eq_map_range, List.map_map]
  congr 1
/-! ### the numbers of partitions -/
def cpIn (p : Nat) (c : List Int) (k : Nat) : List Int := c.set k (c.getD k 0 + c.getD (k - p) 0)
def cpOut (n : Nat) (c : List Int) (p : Nat) : List Int := (List.range' p (n + 1 - p)).foldl (cpIn p) c
def cp (n : Nat) : List Int := (List.range' 1 n).foldl (cpOut n) (1 :: List.replicate n 0)
theorem cpIn_len (p : Nat) (c : List Int) (k : Nat) : (cpIn p c k).length = c.length := List.length_set ..
theorem cpOut_len (n : Nat) (c : List Int) (p : Nat) : (cpOut n c p).length = c.length := by
  unfold cpOut
  generalize List.range' p (n + 1 - p) = l
  induction l generalizing c with
  | nil => rfl
  | cons k l ih => rw [List.foldl_cons, ih, cpIn_len]
theorem cp_len (n : Nat) : (cp n).length = n + 1 := by
  unfold cp
  have : ∀ (l : List Nat) (c : List Int), (l.foldl (cpOut n) c).length = c.length := by
    intro l
    induction l with
    | nil => intro c; rfl
    | cons k l ih => intro c; rw [List.foldl_cons, ih, cpOut_len]
  rw [this]; simp
theorem atI_ints (c : List Int) {i : Nat} (h : i < c.length) : atI (c.map PyData.int) (i : Int) = some (.int (c.getD i 0)) := by
  rw [atI_nat, List.getElem?_map, get_some h]; rfl
theorem ixN_nat {n i : Nat} (h : i < n) : ixN n (i : Int) = some i := by
  unfold ixN
  rw [if_pos (by omega), if_pos (by omega)]; rfl
theorem cp_inner (n p : Nat) (hp : 1 ≤ p) (hn : n ≤ 400) (c : List Int) (hc : c.length = n + 1) {y : Sl} : ∃ y', sForL (gN 3) (sLSet 1 (fV 3) (f2 pAdd (fLIx 1 (fV 3)) (fLIx 1 (f2 pSub (fV 3) (fV 2))))) ((List.range' p (n + 1 - p)).map fun i : Nat => PyData.int i)
    [.dat (.int n), .own (.list (c.map .int)), .dat (.int p), y] = .nx [.dat (.int n), .own (.list ((cpOut n c p).map .int)), .dat (.int p), y'] := by
  obtain ⟨ρ', e, y', hy, _⟩ := forL_map (fun (c : List Int) ρ => ∃ y, ρ = [.dat (.int n), .own (.list (c.map .int)), .dat (.int p), y] ∧ c.length = n + 1) (fun i : Nat => PyData.int i) (cpIn p) (g := gN 3) (b := sLSet 1 (fV 3) (f2 pAdd (fLIx 1 (fV 3)) (fLIx 1 (f2 pSub (fV 3) (fV 2))))) (xs := List.range' p (n + 1 - p)) (a := c) (ρ := [.dat (.int n), .own (.list (c.map .int)), .dat (.int p), y])
    (fun c ρ k hk ⟨y, e, hc⟩ => by
      subst e
      obtain ⟨k1, k2⟩ := List.mem_range'_1.mp hk
      refine ⟨_, [.dat (.int n), .own (.list ((cpIn p c k).map .int)), .dat (.int p), .dat (.int k)], rfl, ?_, _, rfl, by rw [cpIn_len, hc]⟩
      have s1 : ((k : Int) - (p : Int)) = ((k - p : Nat) : Int) := by omega
      have a1 := atI_ints c (i := k) (by omega)
      have a2 := atI_ints c (i := k - p) (by omega)
      have a3 := ixN_nat (n := (c.map PyData.int).length) (i := k) (by rw [List.length_map]; omega)
      have m : (c.map PyData.int).set k (.int (c.getD k 0 + c.getD (k - p) 0)) = (cpIn p c k).map .int := by unfold cpIn; rw [List.map_set]
      simp only [sLSet, ev_E, ev_2, ev_bind, fLIx, needL, List.set_cons_succ, List.set_cons_zero, List.getElem?_cons_succ, List.getElem?_cons_zero, ev_V, kLIx, a1, pSub_int, ev_lift, s1, a2, pAdd_int, a3, m]) ⟨_, rfl, hc⟩
  exact ⟨y', by rw [e, hy]; rfl⟩
theorem cp_loop (n : Nat) (hn : n ≤ 400) : ∃ x y, sForL (gN 2) (sFor (fRng2 (fCons (fV 2) (fCons (f2 pAdd (fV 0) (fC (.int 1))) (fNil)))) (gN 3) (sLSet 1 (fV 3) (f2 pAdd (fLIx 1 (fV 3)) (fLIx 1 (f2 pSub (fV 3) (fV 2)))))) ((List.range' 1 n).map fun i : Nat => PyData.int i)
    [.dat (.int n), .own (.list ((1 :: List.replicate n 0).map .int)), .un, .un] = .nx [.dat (.int n), .own (.list ((cp n).map .int)), x, y] := by
  obtain ⟨ρ', e, x, y, hy, _⟩ := forL_map (fun (c : List Int) ρ => ∃ x y, ρ = [.dat (.int n), .own (.list (c.map .int)), x, y] ∧ c.length = n + 1) (fun i : Nat => PyData.int i) (cpOut n) (g := gN 2) (b := sFor (fRng2 (fCons (fV 2) (fCons (f2 pAdd (fV 0) (fC (.int 1))) (fNil)))) (gN 3) (sLSet 1 (fV 3) (f2 pAdd (fLIx 1 (fV 3)) (fLIx 1 (f2 pSub (fV 3) (fV 2)))))) (xs := List.range' 1 n) (a := 1 :: List.replicate n 0) (ρ := [.dat (.int n), .own (.list ((1 :: List.replicate n 0).map .int)), .un, .un])
    (fun c ρ p hp ⟨x, y, e, hc⟩ => by
      subst e
      obtain ⟨p1, p2⟩ := List.mem_range'_1.mp hp
      obtain ⟨y', e⟩ := cp_inner n p p1 hn c hc (y := y)
      refine ⟨_, [.dat (.int n), .own (.list ((cpOut n c p).map .int)), .dat (.int p), y'], rfl, ?_, _, _, rfl, by rw [cpOut_len, hc]⟩
      have r : asRng2 [.int p, .int ((n : Int) + 1)] = some ((List.range' p (n + 1 - p)).map fun i : Nat => PyData.int i) := asRng2_nat (n := n + 1) (by omega) (by omega)
      simp [r, e]) ⟨_, _, rfl, by simp⟩
  exact ⟨x, y, by rw [e, hy]; rfl⟩
theorem rep_zeroI : ∀ n : Nat, (List.replicate n [PyData.int 0]).flatten = (List.replicate n (0 : Int)).map .int
  | 0 => rfl
  | n + 1 => by rw [List.replicate_succ, List.flatten_cons, rep_zeroI n]; rfl
theorem count_partitions_ok {n : Nat} (hn : n ≤ 400) : m_count_partitions [.int n] = .ok (.list ((cp n).map .int)) := by
  obtain ⟨x, y, e⟩ := cp_loop n hn
  have r : asRng2 [.int 1, .int ((n : Int) + 1)] = some ((List.range' 1 n).map fun i : Nat => PyData.int i) := asRng2_nat (a := 1) (n := n + 1) (by omega) (by omega)
  have m : pMul (.list [.int 0]) (.int n) = some (.list ((List.replicate n (0 : Int)).map .int)) := by
    have c : -(2 ^ 63) ≤ (n : Int) ∧ (n : Int) < 2 ^ 63 ∧ [PyData.int 0].length * (n : Int).toNat ≤ LIM := ⟨by omega, by omega, by rw [Int.toNat_natCast]; show 1 * n ≤ 1000000; omega⟩
    unfold pMul
    simp only [c, if_true, and_self]
    rw [Int.toNat_natCast, rep_zeroI]
  have g : gCat (.list [.int 1]) (.list ((List.replicate n (0 : Int)).map .int)) = some (.list ((1 :: List.replicate n 0).map .int)) := by
    have hl : [PyData.int 1].length + ((List.replicate n (0 : Int)).map PyData.int).length ≤ LIM := by rw [List.length_map, List.length_replicate]; show 1 + n ≤ 1000000; omega
    unfold gCat
    simp only [hl, if_true]
    rfl
  generalize (List.replicate n (0 : Int)).map PyData.int = Z at m g
  generalize (1 :: List.replicate n (0 : Int)).map PyData.int = I at g e
  have h1 : (f2 gCat (f1 kLst (fCons (fC (.int 1)) (fNil))) (f2 pMul (f1 kLst (fCons (fC (.int 0)) (fNil))) (fV 0))) [.dat (.int n), .un, .un, .un] = .ok (.list I) [.dat (.int n), .un, .un, .un] := op2 (op1 rfl (kLst_1 _)) (op2 (op1 rfl (kLst_1 _)) rfl m) g
  have h2 : (fRng2 (fCons (fC (.int 1)) (fCons (f2 pAdd (fV 0) (fC (.int 1))) (fNil)))) [.dat (.int n), .own (.list I), .un, .un] = .ok ((List.range' 1 n).map fun i : Nat => PyData.int i) [.dat (.int n), .own (.list I), .un, .un] := lift1 (as := [.int 1, .int ((n : Int) + 1)]) rfl r
  have h3 : sRet (fV 1) [.dat (.int n), .own (.list ((cp n).map .int)), x, y] = .rt (.list ((cp n).map .int)) [.dat (.int n), .dat (.list ((cp n).map .int)), x, y] := ret_ok rfl
  have h4 : g_count_partitions [.dat (.int n), .un, .un, .un] = _ := seq_nx (own_ok h1) (seq_nx (for_ok h2 e) h3)
  exact run_rt (g := g_count_partitions) h4
theorem check_number_ok {rz : Rz} {v lo hi : Int} (h0 : lo ≤ v) (h1 : v ≤ hi) : m_check_number rz [.int v, .int lo, .int hi] = .ok .none := by
  simp [m_check_number, runF, g_check_number, rho, is_integer_ok, h0, h1, outF]
theorem partitions_ok {rz : Rz} {n : Nat} (hn : n ≤ 400) : m_partitions rz [.int n] = .ok (.int ((cp n).getD n 0)) := by
  have i : pIx (.list ((cp n).map .int)) (.int n) = some (.int ((cp n).getD n 0)) := atI_ints (cp n) (i := n) (by rw [cp_len]; omega)
  have k := check_number_ok (rz := rz) (v := n) (lo := 0) (hi := 400) (by omega) (by omega)
  exact run_rt (g := g_partitions rz) (seq_nx (drop_ok (call_ok rfl k)) (ret_ok (op2 (call_ok rfl (count_partitions_ok hn)) rfl i)))
/-! the same numbers, as the kernel can reckon them -/
def frcI {α : Type} (i : Int) (k : Int → α) : α := match i with
  | .ofNat 0 => k (.ofNat 0)
  | .ofNat (m + 1) => k (.ofNat (m + 1))
  | .negSucc m => k (.negSucc m)
theorem frcI_eq {α : Type} (i : Int) (k : Int → α) : frcI i k = k i := by
  cases i with
  | ofNat m => cases m <;> rfl
  | negSucc m => rfl
/-- what is left of the row, what is done of it (the last first) -/
def qrow (p : Nat) : List Int → List Int → List Int
  | [], acc => acc
  | x :: xs, acc => frcI (x + acc.getD (p - 1) 0) fun v => qrow p xs (v :: acc)
def qcp (n : Nat) : Nat → List Int → List Int
  | 0, c => c
  | m + 1, c => qcp n m (qrow (n - m) c []).reverse
theorem qrow_spec (p : Nat) (hp : 1 ≤ p) : ∀ (xs acc : List Int), (qrow p xs acc).reverse.length = acc.length + xs.length ∧ (∀ k, k < acc.length → (qrow p xs acc).reverse.getD k 0 = acc.reverse.getD k 0) ∧
    ∀ k, acc.length ≤ k → k < acc.length + xs.length → (qrow p xs acc).reverse.getD k 0 = xs.getD (k - acc.length) 0 + (if p ≤ k then (qrow p xs acc).reverse.getD (k - p) 0 else 0)
  | [], acc => by
    refine ⟨by simp [qrow], fun k _ => rfl, fun k h1 h2 => ?_⟩
    simp at h2
    omega
  | x :: xs, acc => by
    rw [qrow, frcI_eq]
    obtain ⟨h1, h2, h3⟩ := qrow_spec p hp xs ((x + acc.getD (p - 1) 0) :: acc)
    simp only [List.length_cons] at h1 h2 h3 ⊢
    have old : ∀ k, k < acc.length → (qrow p xs ((x + acc.getD (p - 1) 0) :: acc)).reverse.getD k 0 = acc.reverse.getD k 0 := fun k hk => by
      rw [h2 k (by omega)]
      simp only [List.reverse_cons, List.getD_eq_getElem?_getD]
      rw [List.getElem?_append_left (by simpa using hk)]
    refine ⟨by omega, old, fun k a b => ?_⟩
    by_cases e : k = acc.length
    · subst e
      rw [h2 acc.length (by omega), Nat.sub_self]
      have e1 : ((x + acc.getD (p - 1) 0) :: acc).reverse.getD acc.length 0 = x + acc.getD (p - 1) 0 := by
        simp only [List.reverse_cons, List.getD_eq_getElem?_getD]
        rw [List.getElem?_append_right (by simp)]; simp
      rw [e1]
      congr 1
      by_cases hl : p ≤ acc.length
      · rw [if_pos hl, old (acc.length - p) (by omega)]
        simp only [List.getD_eq_getElem?_getD]
        rw [List.getElem?_reverse (by omega)]
        congr 2
        omega
      · rw [if_neg hl, List.getD_eq_getElem?_getD, List.getElem?_eq_none (by omega)]; rfl
    · rw [h3 k (by omega) (by omega)]
      congr 1
      rw [show k - acc.length = (k - (acc.length + 1)) + 1 by omega]; rfl
theorem cpOut_q {n p : Nat} (hp : 1 ≤ p) {c : List Int} (hc : c.length = n + 1) : cpOut n c p = (qrow p c []).reverse := by
  obtain ⟨q1, _, q3⟩ := qrow_spec p hp c []
  simp only [List.length_nil, Nat.zero_add, Nat.sub_zero] at q1 q3
  generalize (qrow p c []).reverse = Q at q1 q3
  have key : ∀ m, p + m ≤ n + 1 → (List.range' p m).foldl (cpIn p) c = Q.take (p + m) ++ c.drop (p + m) := by
    intro m
    induction m with
    | zero =>
      intro h
      show c = _
      apply List.ext_getElem?
      intro i
      by_cases hi : i < p
      · rw [List.getElem?_append_left (by simp; omega), List.getElem?_take_of_lt (by omega)]
        have := q3 i (Nat.zero_le _) (by omega)
        rw [if_neg (by omega), Int.add_zero] at this
        rw [get_some (by omega), get_some (by omega), this]
      · rw [List.getElem?_append_right (by simp; omega), List.getElem?_drop]
        congr 1
        simp; omega
    | succ m ih =>
      intro h
      rw [List.range'_concat, List.foldl_append, ih (by omega)]
      show cpIn p _ (p + 1 * m) = _
      rw [Nat.one_mul]
      have l0 : (Q.take (p + m)).length = p + m := by simp; omega
      have g1 : (Q.take (p + m) ++ c.drop (p + m)).getD (p + m) 0 = c.getD (p + m) 0 := by
        simp only [List.getD_eq_getElem?_getD]
        rw [List.getElem?_append_right (by omega), List.getElem?_drop, l0, Nat.sub_self, Nat.add_zero]
      have g2 : (Q.take (p + m) ++ c.drop (p + m)).getD (p + m - p) 0 = Q.getD (p + m - p) 0 := by
        simp only [List.getD_eq_getElem?_getD]
        rw [List.getElem?_append_left (by omega), List.getElem?_take_of_lt (by omega)]
      have q := q3 (p + m) (Nat.zero_le _) (by omega)
      rw [if_pos (by omega)] at q
      unfold cpIn
      rw [g1, g2, ← q]
      apply List.ext_getElem?
      intro i
      rw [List.getElem?_set]
      by_cases hi : i < p + m
      · rw [if_neg (by omega), List.getElem?_append_left (by omega), List.getElem?_take_of_lt (by omega), List.getElem?_append_left (by simp; omega), List.getElem?_take_of_lt (by omega)]
      · by_cases he : p + m = i
        · subst he
          rw [if_pos rfl, if_pos (by simp; omega), List.getElem?_append_left (by simp; omega), List.getElem?_take_of_lt (by omega), get_some (by omega)]
        · rw [if_neg he, List.getElem?_append_right (by omega), List.getElem?_append_right (by simp; omega), List.getElem?_drop, List.getElem?_drop]
          congr 1
          simp; omega
  unfold cpOut
  by_cases h : p ≤ n + 1
  · rw [key (n + 1 - p) (by omega), show p + (n + 1 - p) = n + 1 by omega, List.take_of_length_le (by omega), List.drop_of_length_le (by omega), List.append_nil]
  · rw [show n + 1 - p = 0 by omega]
    show c = Q
    apply List.ext_getElem?
    intro i
    by_cases hi : i < n + 1
    · have := q3 i (Nat.zero_le _) (by omega)
      rw [if_neg (by omega), Int.add_zero] at this
      rw [get_some (by omega), get_some (by omega), this]
    · rw [List.getElem?_eq_none (by omega), List.getElem?_eq_none (by omega)]
theorem cp_q (n : Nat) : cp n = qcp n n (1 :: List.replicate n 0) := by
  have key : ∀ (m : Nat) (c : List Int), m ≤ n → c.length = n + 1 → (List.range' (n - m + 1) m).foldl (cpOut n) c = qcp n m c := by
    intro m
    induction m with
    | zero => intro c _ _; rfl
    | succ m ih =>
      intro c hm hc
      rw [List.range'_succ, List.foldl_cons, show n - (m + 1) + 1 = n - m by omega, qcp, ← cpOut_q (by omega) hc, ← ih _ (by omega) (by rw [cpOut_len, hc])]
  have := key n (1 :: List.replicate n 0) (Nat.le_refl _) (by simp)
  rw [Nat.sub_self] at this
  exact this
end Pu
end TS6

section TS23
set_option Elab.async false
set_option linter.all false
set_option maxRecDepth 100000
set_option maxHeartbeats 410000
namespace Pu
open L2 PySem Cm
variable {ws : List Int} {s : Stp} {S : List Stp}
/-! ### comparing rows and lists -/
theorem pEq_row (a b : List Stp) : pEq (rowD a) (rowD b) = some (.bool (decide (a = b))) := by
  have := pNe_row a b
  unfold pNe at this
  unfold pEq
  split at this
  · rename_i h
    rw [if_pos h]
    have e := PyData.bool.inj (Option.some.inj this)
    have e2 : PyData.eqv (rowD a) (rowD b) = decide (a = b) := by
      cases h1 : PyData.eqv (rowD a) (rowD b) <;> cases h2 : decide (a = b) <;> simp_all
    rw [e2]
  · cases this
theorem pEq_lst (a b : List Stp) : pEq (.list (a.map tupI)) (.list (b.map tupI)) = some (.bool (decide (a = b))) := by
  have := pNe_lst a b
  unfold pNe at this
  unfold pEq
  split at this
  · rename_i h
    rw [if_pos h]
    have e := PyData.bool.inj (Option.some.inj this)
    have e2 : PyData.eqv (.list (a.map tupI)) (.list (b.map tupI)) = decide (a = b) := by
      cases h1 : PyData.eqv (.list (a.map tupI)) (.list (b.map tupI)) <;> cases h2 : decide (a = b) <;> simp_all
    rw [e2]
  · cases this
/-- a list of flat data and the void list -/
theorem pNe_void {xs : List PyData} (p : PyData.plainAll xs = true) (d : PyData.depthAll xs ≤ 31) : pNe (.list xs) (.list []) = some (.bool (!xs.isEmpty)) := by
  have h1 : (PyData.list xs).plain = true := by unfold PyData.plain; exact p
  have h2 : (PyData.list xs).depth ≤ 32 := by unfold PyData.depth; omega
  have h3 : (PyData.list []).plain = true := rfl
  have h4 : (PyData.list []).depth ≤ 32 := by decide
  unfold pNe
  rw [if_pos (by simp [h1, h2, h3, h4])]
  cases xs with
  | nil => simp [PyData.eqv, PyData.eqvAll]
  | cons l ls => simp [PyData.eqv, PyData.eqvAll]
theorem pEq_void {xs : List PyData} (p : PyData.plainAll xs = true) (d : PyData.depthAll xs ≤ 31) : pEq (.list xs) (.list []) = some (.bool xs.isEmpty) := by
  have h1 : (PyData.list xs).plain = true := by unfold PyData.plain; exact p
  have h2 : (PyData.list xs).depth ≤ 32 := by unfold PyData.depth; omega
  have h3 : (PyData.list []).plain = true := rfl
  have h4 : (PyData.list []).depth ≤ 32 := by decide
  unfold pEq
  rw [if_pos (by simp [h1, h2, h3, h4])]
  cases xs with
  | nil => simp [PyData.eqv, PyData.eqvAll]
  | cons l ls => simp [PyData.eqv, PyData.eqvAll]
theorem flat_of {α : Type} {f : α → PyData} {n : Nat} (h : ∀ x, (f x).plain = true ∧ (f x).depth ≤ n) : ∀ xs : List α, PyData.plainAll (xs.map f) = true ∧ PyData.depthAll (xs.map f) ≤ n
  | [] => ⟨by unfold PyData.plainAll; rfl, by unfold PyData.depthAll; exact Nat.zero_le _⟩
  | x :: xs => by
    obtain ⟨a, b⟩ := flat_of h xs
    rw [List.map_cons]
    unfold PyData.plainAll PyData.depthAll
    rw [(h x).1, a]
    exact ⟨rfl, Nat.max_le.mpr ⟨(h x).2, b⟩⟩
theorem int_flat (i : Int) : (PyData.int i).plain = true ∧ (PyData.int i).depth ≤ 1 := ⟨by unfold PyData.plain; rfl, by unfold PyData.depth; omega⟩
theorem pNe_ints (xs : List Int) : pNe (.list (xs.map .int)) (.list []) = some (.bool (!xs.isEmpty)) := by
  have h := flat_of int_flat xs
  have := pNe_void h.1 (by omega)
  rwa [List.isEmpty_map] at this
theorem pGe_int (i j : Int) : pGe (.int i) (.int j) = some (.bool (decide (j ≤ i))) := rfl
/-! ### _law_tells -/
theorem law_tells_ok (hW : okW ws) {u : Stp} (hu : okS ws u) (hS : S.length ≤ 1000) {vs : List Int} (hl : vs.length ≤ 1000) (hv : ∀ v ∈ vs, -(2 ^ 62) < v ∧ v < 2 ^ 62) : m__law_tells [tupI ws, rowD S, tupI u, tupI vs] = .ok (.bool (decide (toldI ws u S = some vs))) := by
  have few : ws.length ≤ 1000 := by have := hW.few; omega
  have o := ordN_is hW hu
  have n4 : ordN ws u ≤ 400 := Nat.le_trans (ordN_le hW hu) (sizeN_le hW)
  let r : Pu.Env := [.dat (tupI ws), .dat (rowD S), .dat (tupI u), .dat (tupI vs), .un]
  have lc : fLc (fSeq (fV 3)) (gN 4) (fTB (f2 pLt (fV 4) (fC (.int 1)))) (fV 4) [4] r = .ok (.list ((vs.filter fun v => decide (v < 1)).map PyData.int)) r := lc_filter PyData.int (fun v => decide (v < 1)) PyData.int (ρ := r) (ρ0 := r) (ρ' := r) rfl rfl rfl (by unfold LIM; omega) fun v hv => by
    let r1 : Pu.Env := [.dat (tupI ws), .dat (rowD S), .dat (tupI u), .dat (tupI vs), .dat (.int v)]
    refine ⟨r1, r1, rfl, tb_ok (op2 (ρ1 := r1) (ρ2 := r1) rfl rfl (pLt_int _ _)), ?_⟩
    split
    · exact ⟨r1, rfl, rfl⟩
    · rfl
  have t1 : fTB (f2 pNe (fLc (fSeq (fV 3)) (gN 4) (fTB (f2 pLt (fV 4) (fC (.int 1)))) (fV 4) [4]) (f1 kLst (fNil))) r = .ok (!(vs.filter fun v => decide (v < 1)).isEmpty) r := tb_ok (op2 lc (op1 (ρ1 := r) rfl kLst_0) (pNe_ints _))
  have t2 : fTB (f2 pGe (f1 pSum (fCons (fV 3) (fNil))) (fCall m__law_order (fCons (fV 0) (fCons (fV 2) (fNil))))) r = .ok (decide ((ordN ws u : Int) ≤ vs.sum)) r := tb_ok (op2 (op1 (cons_ok (ρ1 := r) rfl rfl) (pSum_tupI vs)) (call_ok (cons_ok (ρ1 := r) rfl (cons_ok (ρ1 := r) rfl rfl)) (law_order_ok hW hu o n4)) (pGe_int _ _))
  by_cases pos : ∀ v ∈ vs, 1 ≤ v
  · have e1 : (vs.filter fun v => decide (v < 1)) = [] := List.filter_eq_nil_iff.mpr fun v hv => by
      have := pos v hv
      simp; omega
    rw [e1] at t1
    by_cases low : vs.sum < ordN ws u
    · rw [decide_eq_false (by omega)] at t2
      have lc2 : fLc (fSeq (fV 3)) (gN 4) (fYes) (fCall m__law_times (fCons (fV 0) (fCons (fV 2) (fCons (fV 4) (fNil))))) [4] r = .ok (.list (vs.map fun v => tupI (timesS ws u v))) r := lc_map PyData.int (fun v => tupI (timesS ws u v)) (ρ := r) (ρ0 := r) (ρ' := r) rfl rfl rfl (by unfold LIM; omega) fun v hm => by
        let r1 : Pu.Env := [.dat (tupI ws), .dat (rowD S), .dat (tupI u), .dat (tupI vs), .dat (.int v)]
        have b := hv v hm
        exact ⟨r1, r1, rfl, call_ok (cons_ok (ρ1 := r1) rfl (cons_ok (ρ1 := r1) rfl (cons_ok (ρ1 := r1) rfl rfl))) (law_times_ok hW.wpos few hu.len ⟨by omega, by omega⟩), rfl⟩
      have er : (PyData.tuple (vs.map fun v => tupI (timesS ws u v))) = rowD (vs.map fun v => mulS ws u v.toNat) := by
        unfold rowD
        rw [List.map_map]
        congr 1
        refine List.map_congr_left fun v hv => ?_
        have p := pos v hv
        show tupI (timesS ws u v) = tupI (mulS ws u v.toNat)
        rw [← times_mul hu, Int.toNat_of_nonneg (by omega)]
      have q : f2 pEq (f1 pTuple (fCons (fLc (fSeq (fV 3)) (gN 4) (fYes) (fCall m__law_times (fCons (fV 0) (fCons (fV 2) (fCons (fV 4) (fNil))))) [4]) (fNil))) (f1 pTuple (fCons (fV 1) (fNil))) r = .ok (.bool (decide ((vs.map fun v => mulS ws u v.toNat) = S))) r := by
        refine op2 (op1 (cons_ok lc2 rfl) (pTuple_l _)) (op1 (cons_ok (ρ1 := r) rfl rfl) (show pTuple [rowD S] = some (rowD S) from rfl)) ?_
        rw [er, pEq_row]
      have last : decide ((vs.map fun v => mulS ws u v.toNat) = S) = decide (toldI ws u S = some vs) := by
        apply Bool.eq_iff_iff.mpr
        rw [decide_eq_true_eq, decide_eq_true_eq, toldI_iff hW hu]
        exact ⟨fun e => ⟨pos, e.symm, low⟩, fun t => t.row.symm⟩
      rw [last] at q
      exact run_rt (g := g__law_tells) (seq_nx (if_no (or_no t1 t2) rfl) (ret_ok q))
    · rw [decide_eq_true (by omega)] at t2
      rw [decide_eq_false fun e => low ((toldI_iff hW hu).mp e).low]
      exact run_rt (g := g__law_tells) (seq_rt (if_yes (or_no t1 t2) (ret_ok (ρ := r) rfl)))
  · have e1 : (vs.filter fun v => decide (v < 1)).isEmpty = false := by
      cases e : (vs.filter fun v => decide (v < 1)) with
      | nil =>
        exfalso
        apply pos
        intro v hv
        have := List.filter_eq_nil_iff.mp e v hv
        simp at this
        omega
      | cons a l => rfl
    rw [e1] at t1
    rw [decide_eq_false fun e => pos ((toldI_iff hW hu).mp e).pos]
    exact run_rt (g := g__law_tells) (seq_rt (if_yes (or_yes t1) (ret_ok (ρ := r) rfl)))
/-! ### _law_tellers -/
def tl (ws : List Int) (S : List Stp) (s : Stp) : Option (Stp × List Int) := (toldI ws s S).map fun vs => (s, vs)
def tellL (ws : List Int) (S : List Stp) : List (Stp × List Int) := (stepsL ws).filterMap (tl ws S)
def mulL (ws : List Int) (s : Stp) (k : Nat) : List Stp := (List.range k).map fun i => mulS ws s (i + 1)
theorem mulL_keys (k : Nat) : kys (numD ws s k) = mulL ws s k := by
  unfold kys numD mulL
  rw [List.map_map]; rfl
theorem dgt_idx (hW : okW ws) (h : okS ws s) {n : Nat} (o : isOrd ws s n) {k : Nat} (hk : k < n) {x : Stp} (hx : x ∈ mulL ws s k) : dgt x (numD ws s k) = some (1 + ((mulL ws s k).idxOf x : Int)) := by
  have l := List.idxOf_lt_length_of_mem hx
  have e := List.getElem_idxOf l
  have l2 : (mulL ws s k).idxOf x < k := by rwa [show (mulL ws s k).length = k by unfold mulL; rw [List.length_map, List.length_range]] at l
  refine (dgt_num hW h o hk).mpr ⟨(mulL ws s k).idxOf x, l2, ?_, by omega⟩
  have key : ∀ i (hi : i < (mulL ws s k).length), (mulL ws s k)[i] = mulS ws s (i + 1) := fun i hi => by simp [mulL]
  rw [key] at e
  exact e
theorem tupsOf_map' : ∀ ks : List Stp, tupsOf (ks.map tupI) = some ks := tupsOf_map
theorem pIndex_ok {ks : List Stp} {k : Stp} (h : k ∈ ks) : pIndex (.list (ks.map tupI)) (tupI k) = some (.int (ks.idxOf k : Nat)) := by
  unfold pIndex tupI
  simp only [tupsOf_map', asInts_map]
  have := tupsOf_map' ks
  unfold tupI at this
  simp only [this, if_pos h]
theorem app_ok {i : Nat} {f : M PyData} {d : PyData} {ds : List PyData} {ρ ρ1 : Pu.Env} (h0 : ρ[i]? = some (.own (.list ds))) (h : f ρ = .ok d ρ1) (h1 : ρ1[i]? = some (.own (.list ds))) (hn : ds.length < LIM) : sApp i f ρ = .nx (ρ1.set i (.own (.list (ds ++ [d])))) := by
  unfold sApp sE needL
  rw [h0]
  dsimp only
  rw [h]
  dsimp only
  rw [h1]
  dsimp only
  rw [if_pos hn]
theorem index_ok {fb fe : M PyData} {ks : List Stp} {k : Stp} {ρ ρ1 ρ2 : Pu.Env} (hb : fb ρ = .ok (.list (ks.map tupI)) ρ1) (he : fe ρ1 = .ok (tupI k) ρ2) (h : k ∈ ks) : fIndex fb fe ρ = .ok (.int (ks.idxOf k : Nat)) ρ2 := by
  unfold fIndex
  have e : f1 isLs fb ρ = .ok (.list (ks.map tupI)) ρ1 := op1 hb rfl
  simp only [M.bind, e, he, M.lift, pIndex_ok h]
theorem tellL_len (hW : okW ws) : (tellL ws S).length ≤ 400 := by
  have h1 : (tellL ws S).length ≤ (stepsL ws).length := List.length_filterMap_le _ _
  have := sizeN_le hW
  rw [steps_len] at h1
  omega
theorem law_tellers_ok (hW : okW ws) (hS : S.length ≤ 1000) : m__law_tellers [tupI ws, rowD S] = .ok (.list ((tellL ws S).map pairT)) := by
  have few : ws.length ≤ 1000 := by have := hW.few; omega
  have s4 := sizeN_le hW
  let body : SM := sSeq (sAsg (fCall m__law_order (fCons (fV 0) (fCons (fV 3) (fNil)))) (gN 4)) (sSeq (sAsg (fLc (fRng2 (fCons (fC (.int 1)) (fCons (fV 4) (fNil)))) (gN 7) (fYes) (fCall m__law_times (fCons (fV 0) (fCons (fV 3) (fCons (fV 7) (fNil))))) [7]) (gN 5)) (sIf (fTB (f2 pEq (fLc (fSeq (fV 1)) (gN 8) (fTB (f2 pNotIn (fV 8) (fV 5))) (fV 8) [8]) (f1 kLst (fNil)))) (sSeq (sAsg (f1 pTuple (fCons (fLc (fSeq (fV 1)) (gN 8) (fYes) (f2 pAdd (fC (.int 1)) (fIndex (fV 5) (fV 8))) [8]) (fNil))) (gN 6)) (sIf (fTB (f2 pLt (f1 pSum (fCons (fV 6) (fNil))) (fV 4))) (sApp 2 (f1 kTup (fCons (fV 3) (fCons (fV 6) (fNil))))) (sNil))) (sNil)))
  obtain ⟨ρ', e, ⟨x, y, z, w, hx⟩⟩ := forL_pre (fun (pre : List Stp) ρ => ∃ x y z w, ρ = [.dat (tupI ws), .dat (rowD S), .own (.list ((pre.filterMap (tl ws S)).map pairT)), x, y, z, w, .un, .un]) tupI (xs := stepsL ws) (g := gN 3) (b := body)
    (fun pre u post ρ es ⟨x, y, z, w, e⟩ => by
      subst e
      have hu : okS ws u := mem_steps.mp (by rw [es]; exact List.mem_append_right _ List.mem_cons_self)
      have o := ordN_is hW hu
      have n4 : ordN ws u ≤ 400 := Nat.le_trans (ordN_le hW hu) s4
      have n1 := o.1
      let ks := mulL ws u (ordN ws u - 1)
      let F : PyData := .list ((pre.filterMap (tl ws S)).map pairT)
      let r0 : Pu.Env := [.dat (tupI ws), .dat (rowD S), .own F, .dat (tupI u), y, z, w, .un, .un]
      let r1 : Pu.Env := [.dat (tupI ws), .dat (rowD S), .own F, .dat (tupI u), .dat (.int (ordN ws u)), z, w, .un, .un]
      let r2 : Pu.Env := [.dat (tupI ws), .dat (rowD S), .own F, .dat (tupI u), .dat (.int (ordN ws u)), .dat (.list (ks.map tupI)), w, .un, .un]
      have c0 : sAsg (fCall m__law_order (fCons (fV 0) (fCons (fV 3) (fNil)))) (gN 4) r0 = .nx r1 := asg_ok (call_ok (cons_ok (ρ1 := r0) rfl (cons_ok (ρ1 := r0) rfl rfl)) (law_order_ok hW hu o n4))
      have rg : fRng2 (fCons (fC (.int 1)) (fCons (fV 4) (fNil))) r1 = .ok ((List.range' 1 (ordN ws u - 1)).map fun i : Nat => PyData.int i) r1 := lift1 (as := [.int ((1 : Nat) : Int), .int (ordN ws u)]) rfl (asRng2_nat (by omega) (by omega))
      have lc := lc_map (fun i : Nat => PyData.int i) (fun i : Nat => tupI (timesS ws u i)) (g := gN 7) (e := fCall m__law_times (fCons (fV 0) (fCons (fV 3) (fCons (fV 7) (fNil))))) (vs := [7]) (ρ := r1) (ρ0 := r1) (ρ' := r1) rg rfl rfl (by rw [List.length_range']; unfold LIM; omega) fun i hi => by
        have b := List.mem_range'.mp hi
        let q : Pu.Env := [.dat (tupI ws), .dat (rowD S), .own F, .dat (tupI u), .dat (.int (ordN ws u)), z, w, .dat (.int i), .un]
        exact ⟨q, q, rfl, call_ok (cons_ok (ρ1 := q) rfl (cons_ok (ρ1 := q) rfl (cons_ok (ρ1 := q) rfl rfl))) (law_times_ok hW.wpos few hu.len ⟨by omega, by omega⟩), rfl⟩
      have ek : (List.range' 1 (ordN ws u - 1)).map (fun i : Nat => tupI (timesS ws u i)) = ks.map tupI := by
        show _ = (mulL ws u (ordN ws u - 1)).map tupI
        unfold mulL
        rw [List.map_map, List.range'_eq_map_range, List.map_map]
        refine List.map_congr_left fun i _i => ?_
        show tupI (timesS ws u ((1 + i : Nat) : Int)) = tupI (mulS ws u (i + 1))
        rw [times_mul hu, Nat.add_comm]
      rw [ek] at lc
      have c1 : sAsg (fLc (fRng2 (fCons (fC (.int 1)) (fCons (fV 4) (fNil)))) (gN 7) (fYes) (fCall m__law_times (fCons (fV 0) (fCons (fV 3) (fCons (fV 7) (fNil))))) [7]) (gN 5) r1 = .nx r2 := asg_ok lc
      have lc2 : fLc (fSeq (fV 1)) (gN 8) (fTB (f2 pNotIn (fV 8) (fV 5))) (fV 8) [8] r2 = .ok (.list ((S.filter fun x => !decide (x ∈ ks)).map tupI)) r2 := lc_filter tupI (fun x => !decide (x ∈ ks)) tupI (ρ := r2) (ρ0 := r2) (ρ' := r2) rfl rfl rfl (by unfold LIM; omega) fun x hx => by
        let q : Pu.Env := [.dat (tupI ws), .dat (rowD S), .own F, .dat (tupI u), .dat (.int (ordN ws u)), .dat (.list (ks.map tupI)), w, .un, .dat (tupI x)]
        refine ⟨q, q, rfl, tb_ok (op2 (ρ1 := q) (ρ2 := q) rfl rfl (pNotIn_tups x ks)), ?_⟩
        split
        · exact ⟨q, rfl, rfl⟩
        · rfl
      have cond : fTB (f2 pEq (fLc (fSeq (fV 1)) (gN 8) (fTB (f2 pNotIn (fV 8) (fV 5))) (fV 8) [8]) (f1 kLst (fNil))) r2 = .ok (decide ((S.filter fun x => !decide (x ∈ ks)) = [])) r2 := tb_ok (op2 lc2 (op1 (ρ1 := r2) rfl kLst_0) (pEq_lst _ []))
      have keys : kys (numD ws u (ordN ws u - 1)) = ks := mulL_keys _
      by_cases all : ∀ x ∈ S, x ∈ ks
      · rw [decide_eq_true (List.filter_eq_nil_iff.mpr fun x hx => by simp [all x hx])] at cond
        let vs : List Int := S.map fun x => 1 + (ks.idxOf x : Int)
        have ga : getAll (numD ws u (ordN ws u - 1)) S = some vs := by
          have : ∀ {T : List Stp}, (∀ x ∈ T, x ∈ ks) → getAll (numD ws u (ordN ws u - 1)) T = some (T.map fun x => 1 + (ks.idxOf x : Int)) := by
            intro T
            induction T with
            | nil => intro _; rfl
            | cons t T ih =>
              intro h
              rw [getAll_cons, dgt_idx hW hu o (by omega) (h t List.mem_cons_self), ih fun x hx => h x (List.mem_cons_of_mem _ hx)]; rfl
          exact this all
        have lc3 : fLc (fSeq (fV 1)) (gN 8) (fYes) (f2 pAdd (fC (.int 1)) (fIndex (fV 5) (fV 8))) [8] r2 = .ok (.list (S.map fun x => PyData.int (1 + (ks.idxOf x : Int)))) r2 := lc_map tupI (fun x => PyData.int (1 + (ks.idxOf x : Int))) (ρ := r2) (ρ0 := r2) (ρ' := r2) rfl rfl rfl (by unfold LIM; omega) fun x hx => by
          let q : Pu.Env := [.dat (tupI ws), .dat (rowD S), .own F, .dat (tupI u), .dat (.int (ordN ws u)), .dat (.list (ks.map tupI)), w, .un, .dat (tupI x)]
          exact ⟨q, q, rfl, op2 (ρ1 := q) rfl (index_ok (ρ1 := q) (ρ2 := q) rfl rfl (all x hx)) rfl, rfl⟩
        let r3 : Pu.Env := [.dat (tupI ws), .dat (rowD S), .own F, .dat (tupI u), .dat (.int (ordN ws u)), .dat (.list (ks.map tupI)), .dat (tupI vs), .un, .un]
        have tv : f1 pTuple (fCons (fLc (fSeq (fV 1)) (gN 8) (fYes) (f2 pAdd (fC (.int 1)) (fIndex (fV 5) (fV 8))) [8]) (fNil)) r2 = .ok (tupI vs) r2 := by
          refine (op1 (cons_ok lc3 rfl) (pTuple_l _)).trans ?_
          show R.ok (PyData.tuple _) r2 = .ok (PyData.tuple _) r2
          rw [List.map_map]; rfl
        have c3 : sAsg (f1 pTuple (fCons (fLc (fSeq (fV 1)) (gN 8) (fYes) (f2 pAdd (fC (.int 1)) (fIndex (fV 5) (fV 8))) [8]) (fNil))) (gN 6) r2 = .nx r3 := asg_ok tv
        have t3 : fTB (f2 pLt (f1 pSum (fCons (fV 6) (fNil))) (fV 4)) r3 = .ok (decide (vs.sum < (ordN ws u : Int))) r3 := tb_ok (op2 (op1 (cons_ok (ρ1 := r3) rfl rfl) (pSum_tupI vs)) (ρ2 := r3) rfl (pLt_int _ _))
        by_cases low : vs.sum < (ordN ws u : Int)
        · rw [decide_eq_true low] at t3
          have tt : tl ws S u = some (u, vs) := by unfold tl toldI; rw [ga]; dsimp only; rw [if_pos low]; rfl
          have fl : ((pre.filterMap (tl ws S)).map pairT).length < LIM := by
            have h1 : (pre.filterMap (tl ws S)).length ≤ pre.length := List.length_filterMap_le _ _
            have h2 : pre.length ≤ (stepsL ws).length := by rw [es, List.length_append]; omega
            rw [steps_len] at h2
            rw [List.length_map]; unfold LIM; omega
          let r4 : Pu.Env := [.dat (tupI ws), .dat (rowD S), .own (.list ((pre.filterMap (tl ws S)).map pairT ++ [pairT (u, vs)])), .dat (tupI u), .dat (.int (ordN ws u)), .dat (.list (ks.map tupI)), .dat (tupI vs), .un, .un]
          have c4 : sApp 2 (f1 kTup (fCons (fV 3) (fCons (fV 6) (fNil)))) r3 = .nx r4 := app_ok (d := pairT (u, vs)) (ρ1 := r3) rfl rfl rfl fl
          exact ⟨r0, r4, rfl, seq_nx c0 (seq_nx c1 (if_yes cond (seq_nx c3 (if_yes t3 c4)))), .dat (tupI u), .dat (.int (ordN ws u)), .dat (.list (ks.map tupI)), .dat (tupI vs), by rw [List.filterMap_append, List.map_append, show List.filterMap (tl ws S) [u] = [(u, vs)] by rw [List.filterMap_cons, tt]; rfl]; rfl⟩
        · rw [decide_eq_false low] at t3
          have tt : tl ws S u = none := by unfold tl toldI; rw [ga]; dsimp only; rw [if_neg low]; rfl
          exact ⟨r0, r3, rfl, seq_nx c0 (seq_nx c1 (if_yes cond (seq_nx c3 (if_no t3 rfl)))), .dat (tupI u), .dat (.int (ordN ws u)), .dat (.list (ks.map tupI)), .dat (tupI vs), by rw [List.filterMap_append, List.map_append, show List.filterMap (tl ws S) [u] = [] by rw [List.filterMap_cons, tt]; rfl, List.map_nil, List.append_nil]⟩
      · rw [decide_eq_false fun e => all fun x hx => by have := List.filter_eq_nil_iff.mp e x hx; simpa using this] at cond
        have tt : tl ws S u = none := by
          unfold tl
          cases e : toldI ws u S with
          | none => rfl
          | some vs =>
            exfalso
            unfold toldI at e
            cases e1 : getAll (numD ws u (ordN ws u - 1)) S with
            | none => rw [e1] at e; cases e
            | some us =>
              apply all
              intro x hx
              have := getAll_some e1 x hx
              rw [← keys]
              cases ex : dgt x (numD ws u (ordN ws u - 1)) with
              | none => rw [ex] at this; cases this
              | some v => exact List.mem_map.mpr ⟨_, dgt_mem ex, rfl⟩
        exact ⟨r0, r2, rfl, seq_nx c0 (seq_nx c1 (if_no cond rfl)), .dat (tupI u), .dat (.int (ordN ws u)), .dat (.list (ks.map tupI)), w, by rw [List.filterMap_append, List.map_append, show List.filterMap (tl ws S) [u] = [] by rw [List.filterMap_cons, tt]; rfl, List.map_nil, List.append_nil]⟩)
    (ρ := [.dat (tupI ws), .dat (rowD S), .own (.list []), .un, .un, .un, .un, .un, .un]) ⟨_, _, _, _, rfl⟩
  subst hx
  let ra : Pu.Env := [.dat (tupI ws), .dat (rowD S), .own (.list []), .un, .un, .un, .un, .un, .un]
  have sq : fSeq (fCall m__law_steps (fCons (fV 0) (fNil))) ra = .ok ((stepsL ws).map tupI) ra := by
    have c : fCall m__law_steps (fCons (fV 0) (fNil)) ra = .ok (.list ((stepsL ws).map tupI)) ra := call_ok (cons_ok (ρ1 := ra) rfl rfl) (law_steps_ok hW)
    simp only [fSeq, M.bind, c, asSeq_lst, M.lift]
  exact run_rt (g := g__law_tellers) (seq_nx (own_ok (d := .list []) rfl) (seq_nx (for_ok sq e) (ret_ok rfl)))
/-! ### what find_teller finds, of these -/
theorem findV_tell (most : Int) : findV ws S most = (tellL ws S).find? fun p => decide (p.2.sum ≤ most) := by
  unfold findV tellL
  induction stepsL ws with
  | nil => rfl
  | cons u us ih =>
    rw [List.findSome?_cons, List.filterMap_cons]
    unfold foundP tl at *
    cases toldI ws u S with
    | none => exact ih
    | some vs =>
      dsimp only [Option.map_some]
      rw [List.find?_cons]
      by_cases l : vs.sum ≤ most
      · rw [if_pos l, decide_eq_true l]
      · rw [if_neg l, decide_eq_false l]; exact ih
theorem mem_tellL {p : Stp × List Int} : p ∈ tellL ws S ↔ okS ws p.1 ∧ toldI ws p.1 S = some p.2 := by
  unfold tellL
  rw [List.mem_filterMap]
  constructor
  · rintro ⟨u, hu, e⟩
    unfold tl at e
    cases e1 : toldI ws u S with
    | none => rw [e1] at e; cases e
    | some vs => rw [e1] at e; cases e; exact ⟨mem_steps.mp hu, e1⟩
  · rintro ⟨a, b⟩
    exact ⟨p.1, mem_steps.mpr a, by unfold tl; rw [b]; rfl⟩
theorem findV_all (hW : okW ws) : findV ws S (sizeN ws) = (tellL ws S).head? := by
  rw [findV_tell]
  have : ∀ p ∈ tellL ws S, decide (p.2.sum ≤ (sizeN ws : Int)) = true := fun p hp => by
    obtain ⟨a, b⟩ := mem_tellL.mp hp
    have := ((toldI_iff hW a).mp b).low
    have := ordN_le hW a
    exact decide_eq_true (show p.2.sum ≤ (sizeN ws : Int) by omega)
  cases e : tellL ws S with
  | nil => rfl
  | cons p ps =>
    rw [List.find?_cons, this p (by rw [e]; exact List.mem_cons_self)]; rfl
end Pu
end TS23

section TFS
set_option linter.all false
set_option maxRecDepth 10000
namespace Fs
/-! Rows with few sums, in any commutative group (negatives are not named). -/
class CG (G : Type) extends Add G, Zero G where
  com : ∀ a b : G, a + b = b + a
  ass : ∀ a b c : G, a + b + c = a + (b + c)
  zad : ∀ a : G, 0 + a = a
  can : ∀ a b c : G, a + c = b + c → a = b
open CG
variable {G : Type} [CG G]
theorem zda (a : G) : a + 0 = a := (com a 0).trans (zad a)
theorem canl {a b c : G} (h : c + a = c + b) : a = b := can a b c (by rw [com a, com b]; exact h)
theorem lcom (a b c : G) : a + (b + c) = b + (a + c) := by rw [← ass, com a b, ass]
def mul (n : Nat) (g : G) : G := match n with
  | 0 => 0
  | n + 1 => mul n g + g
theorem mul_succ (n : Nat) (g : G) : mul (n + 1) g = mul n g + g := rfl
theorem mul_one (g : G) : mul 1 g = g := zad g
theorem mul_add (i : Nat) (g : G) : ∀ j, mul (i + j) g = mul i g + mul j g
  | 0 => (zda _).symm
  | j + 1 => by rw [← Nat.add_assoc, mul_succ, mul_succ, mul_add i g j, ass]
def tot : List G → G
  | [] => 0
  | a :: S => a + tot S
/-- x is the sum of j steps of the row, y that of the k others -/
inductive Sp : List G → Nat → Nat → G → G → Prop
  | nil : Sp [] 0 0 0 0
  | take {a : G} {R : List G} {j k : Nat} {x y : G} : Sp R j k x y → Sp (a :: R) (j + 1) k (a + x) y
  | skip {a : G} {R : List G} {j k : Nat} {x y : G} : Sp R j k x y → Sp (a :: R) j (k + 1) x (a + y)
theorem Sp.sum {S : List G} {j k : Nat} {x y : G} (h : Sp S j k x y) : x + y = tot S := by
  induction h with
  | nil => exact zad 0
  | take h ih => rw [ass, ih]; rfl
  | skip h ih => rw [lcom, ih]; rfl
theorem Sp.turn {S : List G} {j k : Nat} {x y : G} (h : Sp S j k x y) : Sp S k j y x := by
  induction h with
  | nil => exact .nil
  | take h ih => exact .skip ih
  | skip h ih => exact .take ih
theorem Sp.len {S : List G} {j k : Nat} {x y : G} (h : Sp S j k x y) : j + k = S.length := by
  induction h with
  | nil => rfl
  | take h ih => rw [List.length_cons]; omega
  | skip h ih => rw [List.length_cons]; omega
theorem Sp.perm {S T : List G} (p : S.Perm T) : ∀ {j k : Nat} {x y : G}, Sp S j k x y → Sp T j k x y := by
  induction p with
  | nil => exact fun h => h
  | cons a p ih =>
    intro j k x y h
    cases h with
    | take h => exact .take (ih h)
    | skip h => exact .skip (ih h)
  | swap a b l =>
    intro j k x y h
    cases h with
    | take h =>
      cases h with
      | take h => rw [lcom]; exact .take (.take h)
      | skip h => exact .skip (.take h)
    | skip h =>
      cases h with
      | take h => exact .take (.skip h)
      | skip h => rw [lcom]; exact .skip (.skip h)
  | trans p q ih1 ih2 => exact fun h => ih2 (ih1 h)
theorem Sp.none : ∀ S : List G, Sp S 0 S.length 0 (tot S)
  | [] => .nil
  | a :: S => .skip (Sp.none S)
theorem Sp.all (S : List G) : Sp S S.length 0 (tot S) 0 := (Sp.none S).turn
/-- x is the sum of some steps -/
def In0 (S : List G) (x : G) : Prop := ∃ j k y, Sp S j k x y
def In1 (S : List G) (x : G) : Prop := ∃ j k y, Sp S (j + 1) k x y
def Free (S : List G) : Prop := ¬ In1 S 0
theorem in0_zero (S : List G) : In0 S 0 := ⟨_, _, _, Sp.none S⟩
theorem in0_tot (S : List G) : In0 S (tot S) := ⟨_, _, _, Sp.all S⟩
theorem In0.perm {S T : List G} (p : S.Perm T) {x : G} : In0 S x → In0 T x := fun ⟨j, k, y, h⟩ => ⟨j, k, y, h.perm p⟩
theorem In1.perm {S T : List G} (p : S.Perm T) {x : G} : In1 S x → In1 T x := fun ⟨j, k, y, h⟩ => ⟨j, k, y, h.perm p⟩
theorem Free.perm {S T : List G} (p : S.Perm T) (f : Free S) : Free T := fun h => f (h.perm p.symm)
theorem In1.in0 {S : List G} {x : G} : In1 S x → In0 S x := fun ⟨j, k, y, h⟩ => ⟨_, _, _, h⟩
theorem in0_cons {a : G} {R : List G} {x : G} : In0 (a :: R) x ↔ In0 R x ∨ ∃ y, In0 R y ∧ a + y = x := by
  constructor
  · rintro ⟨j, k, y, h⟩
    cases h with
    | take h => exact .inr ⟨_, ⟨_, _, _, h⟩, rfl⟩
    | skip h => exact .inl ⟨_, _, _, h⟩
  · rintro (⟨j, k, y, h⟩ | ⟨z, ⟨j, k, y, h⟩, rfl⟩)
    · exact ⟨_, _, _, .skip h⟩
    · exact ⟨_, _, _, .take h⟩
theorem in1_cons {a : G} {R : List G} {x : G} : In1 (a :: R) x ↔ In1 R x ∨ ∃ y, In0 R y ∧ a + y = x := by
  constructor
  · rintro ⟨j, k, y, h⟩
    cases h with
    | take h => exact .inr ⟨_, ⟨_, _, _, h⟩, rfl⟩
    | skip h => exact .inl ⟨_, _, _, h⟩
  · rintro (⟨j, k, y, h⟩ | ⟨z, ⟨j, k, y, h⟩, rfl⟩)
    · exact ⟨_, _, _, .skip h⟩
    · exact ⟨_, _, _, .take h⟩
theorem in0_in1 {S : List G} {x : G} : In0 S x ↔ x = 0 ∨ In1 S x := by
  constructor
  · rintro ⟨j, k, y, h⟩
    cases j with
    | succ j => exact .inr ⟨_, _, _, h⟩
    | zero =>
      left
      have key : ∀ {S : List G} {j k : Nat} {x y : G}, Sp S j k x y → j = 0 → x = 0 := by
        intro S j k x y h
        induction h with
        | nil => exact fun _ => rfl
        | take h ih => intro e; cases e
        | skip h ih => exact ih
      exact key h rfl
  · rintro (rfl | h)
    · exact in0_zero S
    · exact h.in0
theorem free_tail {a : G} {R : List G} (f : Free (a :: R)) : Free R := fun h => f (in1_cons.mpr (.inl h))
theorem free_add {a : G} {R : List G} (f : Free (a :: R)) {x : G} (h : In0 R x) : a + x ≠ 0 := fun e => f (in1_cons.mpr (.inr ⟨x, h, e⟩))
/-- the whole sum is no sum of the others -/
theorem tot_new {a : G} {R : List G} (f : Free (a :: R)) : ¬ In0 R (tot (a :: R)) := by
  rintro ⟨j, k, y, h⟩
  have e : tot (a :: R) + y = tot R := h.sum
  have e2 : a + y + tot R = 0 + tot R := by
    rw [zad]
    conv => rhs; rw [← e]
    show _ = a + tot R + y
    rw [ass, ass, com y]
  exact free_add f ⟨_, _, _, h.turn⟩ (can _ _ _ e2)
/-! ### how many -/
theorem nodup_le {D : Type} : ∀ {L M : List D}, L.Nodup → (∀ x ∈ L, x ∈ M) → L.length ≤ M.length
  | [], M, _, _ => Nat.zero_le _
  | a :: L, M, nd, h => by
    have ⟨n1, n2⟩ := List.nodup_cons.mp nd
    obtain ⟨s, t, e⟩ := List.append_of_mem (h a List.mem_cons_self)
    have := nodup_le (L := L) (M := s ++ t) n2 fun x hx => by
      have := h x (List.mem_cons_of_mem _ hx)
      rw [e, List.mem_append, List.mem_cons] at this
      rcases this with (z | z | z)
      · exact List.mem_append_left t z
      · exact absurd (z ▸ hx) n1
      · exact List.mem_append_right _ z
    rw [e]; rw [List.length_append, List.length_cons]
    rw [List.length_append] at this
    rw [List.length_cons]
    omega
def Num (P : G → Prop) (n : Nat) : Prop := ∃ L : List G, L.Nodup ∧ (∀ x, x ∈ L ↔ P x) ∧ L.length = n
theorem Num.le {P : G → Prop} {n : Nat} (h : Num P n) {L : List G} (nd : L.Nodup) (k : ∀ x ∈ L, P x) : L.length ≤ n := by
  obtain ⟨M, _, m, rfl⟩ := h
  exact nodup_le nd fun x hx => (m x).mpr (k x hx)
theorem Num.one {P : G → Prop} {n m : Nat} (h : Num P n) (k : Num P m) : n = m := by
  obtain ⟨L, nL, mL, rfl⟩ := h
  obtain ⟨M, nM, mM, rfl⟩ := k
  exact Nat.le_antisymm (nodup_le nL fun x hx => (mM x).mpr ((mL x).mp hx)) (nodup_le nM fun x hx => (mL x).mpr ((mM x).mp hx))
theorem Num.of {P Q : G → Prop} {n : Nat} (h : Num P n) (e : ∀ x, P x ↔ Q x) : Num Q n := by
  obtain ⟨L, nL, mL, l⟩ := h
  exact ⟨L, nL, fun x => (mL x).trans (e x), l⟩
open Classical in
theorem num_list : ∀ L : List G, ∃ n, Num (fun x => x ∈ L) n
  | [] => ⟨0, [], List.nodup_nil, fun x => Iff.rfl, rfl⟩
  | a :: L => by
    obtain ⟨n, M, nd, m, l⟩ := num_list L
    by_cases h : a ∈ L
    · exact ⟨n, M, nd, fun x => (m x).trans ⟨fun z => List.mem_cons_of_mem _ z, fun z => by
        rcases List.mem_cons.mp z with (rfl | z)
        · exact h
        · exact z⟩, l⟩
    · exact ⟨n + 1, a :: M, List.nodup_cons.mpr ⟨fun z => h ((m a).mp z), nd⟩, fun x => List.mem_cons.trans ((or_congr Iff.rfl (m x)).trans List.mem_cons.symm), by rw [List.length_cons, l]⟩
def lst0 : List G → List G
  | [] => [0]
  | a :: R => lst0 R ++ (lst0 R).map (a + ·)
theorem mem_lst0 : ∀ {S : List G} {x : G}, x ∈ lst0 S ↔ In0 S x
  | [], x => by
    rw [lst0, List.mem_singleton]
    exact ⟨fun e => e ▸ in0_zero [], fun ⟨j, k, y, h⟩ => by cases h; rfl⟩
  | a :: R, x => by
    rw [lst0, List.mem_append, List.mem_map, in0_cons, mem_lst0]
    constructor
    · rintro (h | ⟨y, h, e⟩)
      · exact .inl h
      · exact .inr ⟨y, mem_lst0.mp h, e⟩
    · rintro (h | ⟨y, h, e⟩)
      · exact .inl h
      · exact .inr ⟨y, mem_lst0.mpr h, e⟩
theorem num_in0 (S : List G) : ∃ n, Num (In0 S) n := by
  obtain ⟨n, h⟩ := num_list (lst0 S)
  exact ⟨n, h.of fun x => mem_lst0⟩
/-! ### told rows -/
def sumN : List Nat → Nat
  | [] => 0
  | n :: ns => n + sumN ns
structure Tells (g : G) (ns : List Nat) (S : List G) : Prop where
  row : S = ns.map fun n => mul n g
  pos : ∀ n ∈ ns, 1 ≤ n
  low : ∀ i, 1 ≤ i → i ≤ sumN ns → mul i g ≠ 0
theorem sumN_ge : ∀ {ns : List Nat}, (∀ n ∈ ns, 1 ≤ n) → ns.length ≤ sumN ns
  | [], _ => Nat.le_refl _
  | n :: ns, h => by
    have := sumN_ge fun m hm => h m (List.mem_cons_of_mem n hm)
    have := h n List.mem_cons_self
    rw [List.length_cons]
    show _ ≤ n + sumN ns
    omega
theorem sumN_perm {a b : List Nat} (p : a.Perm b) : sumN a = sumN b := by
  induction p with
  | nil => rfl
  | cons x p ih => show x + sumN _ = x + sumN _; rw [ih]
  | swap x y l => show y + (x + _) = x + (y + _); omega
  | trans p q h k => exact h.trans k
theorem sp_map (g : G) {ns : List Nat} : ∀ {x : G}, In0 (ns.map fun n => mul n g) x → ∃ i, i ≤ sumN ns ∧ x = mul i g := by
  induction ns with
  | nil =>
    rintro x ⟨j, k, y, h⟩
    cases h
    exact ⟨0, Nat.le_refl _, rfl⟩
  | cons n ns ih =>
    intro x h
    rcases in0_cons.mp h with h | ⟨y, h2, rfl⟩
    · obtain ⟨i, hi, e⟩ := ih h
      exact ⟨i, Nat.le_trans hi (Nat.le_add_left _ _), e⟩
    · obtain ⟨i, hi, rfl⟩ := ih h2
      exact ⟨n + i, Nat.add_le_add_left hi n, (mul_add n g i).symm⟩
theorem sp_map1 (g : G) : ∀ {ns : List Nat} {x : G}, (∀ n ∈ ns, 1 ≤ n) → In1 (ns.map fun n => mul n g) x → ∃ i, 1 ≤ i ∧ i ≤ sumN ns ∧ x = mul i g := by
  intro ns
  induction ns with
  | nil => rintro x _ ⟨j, k, y, h⟩; cases h
  | cons n ns ih =>
    intro x hp h
    rcases in1_cons.mp h with h | ⟨y, h2, rfl⟩
    · obtain ⟨i, h1, hi, e⟩ := ih (fun m hm => hp m (List.mem_cons_of_mem _ hm)) h
      exact ⟨i, h1, Nat.le_trans hi (Nat.le_add_left _ _), e⟩
    · obtain ⟨i, hi, rfl⟩ := sp_map g h2
      have := hp n List.mem_cons_self
      exact ⟨n + i, by omega, Nat.add_le_add_left hi n, (mul_add n g i).symm⟩
theorem Tells.free {g : G} {ns : List Nat} {S : List G} (t : Tells g ns S) : Free S := fun h => by
  rw [t.row] at h
  obtain ⟨i, h1, h2, e⟩ := sp_map1 g t.pos h
  exact t.low i h1 h2 e.symm
theorem mul_inj {g : G} {N : Nat} (low : ∀ i, 1 ≤ i → i ≤ N → mul i g ≠ 0) {i j : Nat} (hi : i ≤ N) (hj : j ≤ N) (e : mul i g = mul j g) : i = j := by
  have key : ∀ {i j : Nat}, i < j → j ≤ N → mul i g = mul j g → False := fun {i j} h hj e => by
    have e1 : mul j g = mul (j - i) g + mul i g := by rw [← mul_add]; congr 1; omega
    have e2 : mul (j - i) g + mul i g = 0 + mul i g := by rw [← e1, ← e, zad]
    exact low (j - i) (by omega) (by omega) (can _ _ _ e2)
  rcases Nat.lt_trichotomy i j with (h | h | h)
  · exact (key h hj e).elim
  · exact h
  · exact (key h hi e.symm).elim
/-- sums of positive integers that are few take all values -/
theorem all_sums (g : G) : ∀ (l : Nat) {ns : List Nat}, ns.length = l → (∀ n ∈ ns, 1 ≤ n) → sumN ns + 1 ≤ 2 * l → ∀ i, i ≤ sumN ns → In0 (ns.map fun n => mul n g) (mul i g) := by
  intro l
  induction l with
  | zero =>
    intro ns hl hp hs i hi
    omega
  | succ l ih =>
    intro ns hl hp hs i hi
    by_cases big : ∃ m ∈ ns, 2 ≤ m
    · obtain ⟨m, hm, h2⟩ := big
      have p := List.perm_cons_erase hm
      have el : (ns.erase m).length = l := by have := p.length_eq; rw [List.length_cons] at this; omega
      have es : sumN ns = m + sumN (ns.erase m) := sumN_perm p
      have hp' : ∀ n ∈ ns.erase m, 1 ≤ n := fun n hn => hp n (List.mem_of_mem_erase hn)
      have ge := sumN_ge hp'
      refine In0.perm (p.symm.map _) (in0_cons.mpr ?_)
      by_cases hi2 : i ≤ sumN (ns.erase m)
      · exact .inl (ih el hp' (by omega) i hi2)
      · refine .inr ⟨mul (i - m) g, ih el hp' (by omega) (i - m) (by omega), ?_⟩
        rw [← mul_add]; congr 1; omega
    · have one : ∀ n ∈ ns, n = 1 := fun n hn => by
        have := hp n hn
        have : ¬ 2 ≤ n := fun h => big ⟨n, hn, h⟩
        omega
      have key : ∀ {ns : List Nat}, (∀ n ∈ ns, n = 1) → ∀ i, i ≤ sumN ns → In0 (ns.map fun n => mul n g) (mul i g) := by
        intro ns
        induction ns with
        | nil => intro _ i hi; cases Nat.le_zero.mp hi; exact in0_zero _
        | cons n ns ih =>
          intro h i hi
          have h1 := h n List.mem_cons_self
          have hi : i ≤ n + sumN ns := hi
          cases i with
          | zero => exact in0_zero _
          | succ i =>
            refine in0_cons.mpr (.inr ⟨mul i g, ih (fun m hm => h m (List.mem_cons_of_mem _ hm)) i (by omega), ?_⟩)
            rw [h1, ← mul_add]; congr 1; omega
      exact key one i hi
theorem Tells.num {g : G} {ns : List Nat} {S : List G} (t : Tells g ns S) (few : sumN ns + 1 ≤ 2 * S.length) : Num (In0 S) (sumN ns + 1) := by
  have len : S.length = ns.length := by rw [t.row, List.length_map]
  refine ⟨(List.range (sumN ns + 1)).map fun i => mul i g, ?_, fun x => ?_, by rw [List.length_map, List.length_range]⟩
  · refine List.pairwise_map.mpr (List.Pairwise.imp_of_mem ?_ List.nodup_range)
    intro i j hi hj ne e
    have hi := List.mem_range.mp hi
    have hj := List.mem_range.mp hj
    exact ne (mul_inj t.low (by omega) (by omega) e)
  · rw [List.mem_map]
    constructor
    · rintro ⟨i, hi, rfl⟩
      have hi := List.mem_range.mp hi
      rw [t.row]
      exact all_sums g _ rfl t.pos (by omega) i (by omega)
    · intro h
      rw [t.row] at h
      obtain ⟨i, hi, rfl⟩ := sp_map g h
      exact ⟨i, List.mem_range.mpr (by omega), rfl⟩
theorem Tells.perm {g : G} {S T : List G} (p : S.Perm T) {ns : List Nat} (t : Tells g ns S) : ∃ ms, Tells g ms T ∧ sumN ms = sumN ns := by
  have key : ∀ {S T : List G}, S.Perm T → ∀ {ns : List Nat}, S = ns.map (fun n => mul n g) → ∃ ms : List Nat, T = ms.map (fun n => mul n g) ∧ ms.Perm ns := by
    intro S T p
    induction p with
    | nil =>
      intro ns e
      cases ns with
      | nil => exact ⟨[], rfl, .nil⟩
      | cons n ns => cases e
    | cons a p ih =>
      intro ns e
      cases ns with
      | nil => cases e
      | cons n ns =>
        obtain ⟨e1, e2⟩ := List.cons.inj e
        obtain ⟨ms, f, q⟩ := ih e2
        exact ⟨n :: ms, by rw [e1, f]; rfl, q.cons n⟩
    | swap a b l =>
      intro ns e
      match ns, e with
      | n :: m :: ns, e =>
        obtain ⟨e1, e2⟩ := List.cons.inj e
        obtain ⟨e2, e3⟩ := List.cons.inj e2
        exact ⟨m :: n :: ns, by rw [e1, e2, e3]; rfl, .swap _ _ _⟩
    | trans p q h k =>
      intro ns e
      obtain ⟨ms, f, r⟩ := h e
      obtain ⟨ls, f2, r2⟩ := k f
      exact ⟨ls, f2, r2.trans r⟩
  obtain ⟨ms, e, q⟩ := key p t.row
  have s := sumN_perm q
  exact ⟨ms, ⟨e, fun n hn => t.pos n (q.subset hn), fun i a b => t.low i a (s ▸ b)⟩, s⟩
theorem free_mul {g : G} : ∀ {S : List G}, (∀ a ∈ S, a = g) → ∀ i, 1 ≤ i → i ≤ S.length → In1 S (mul i g)
  | [], _, i, h1, h2 => by have : i ≤ 0 := h2; omega
  | a :: S, h, 1, _, _ => by
    rw [h a List.mem_cons_self, mul_one]
    exact in1_cons.mpr (.inr ⟨0, in0_zero S, zda g⟩)
  | a :: S, h, i + 2, _, h2 => by
    have := free_mul (S := S) (fun b hb => h b (List.mem_cons_of_mem _ hb)) (i + 1) (by omega) (by rw [List.length_cons] at h2; omega)
    rw [h a List.mem_cons_self]
    exact in1_cons.mpr (.inr ⟨_, this.in0, com _ _⟩)
/-- few sums -/
theorem few : ∀ (l : Nat) {S : List G} {n : Nat}, S.length = l → Free S → Num (In0 S) n → n + 1 ≤ 2 * l → ∃ g ns, Tells g ns S ∧ sumN ns + 1 = n := by
  intro l
  induction l with
  | zero =>
    intro S n hl f hn h
    omega
  | succ l ih =>
    intro S n hl f hn h
    by_cases jump : ∃ a R m, S.Perm (a :: R) ∧ Num (In0 R) m ∧ m + 2 ≤ n
    · obtain ⟨a, R, m, p, hm, hjump⟩ := jump
      have lR : R.length = l := by have := p.length_eq; rw [List.length_cons] at this; omega
      have f' := f.perm p
      obtain ⟨g, ns, t, e⟩ := ih lR (free_tail f') hm (by omega)
      have len : R.length = ns.length := by rw [t.row, List.length_map]
      have ge := sumN_ge t.pos
      have inR : ∀ i, i ≤ sumN ns → In0 R (mul i g) := fun i hi => by
        rw [t.row]
        exact all_sums g _ rfl t.pos (by omega) i hi
      by_cases meet : ∃ i j, i ≤ sumN ns ∧ j ≤ sumN ns ∧ a + mul i g = mul j g
      · obtain ⟨i, j, hi, hj, em⟩ := meet
        have hij : i < j := by
          rcases Nat.lt_or_ge i j with (h | h)
          · exact h
          · exfalso
            have e1 : a + mul (i - j) g + mul j g = 0 + mul j g := by rw [ass, ← mul_add, show i - j + j = i by omega, em, zad]
            exact free_add f' (inR (i - j) (by omega)) (can _ _ _ e1)
        have ea : a = mul (j - i) g := by
          have e1 : a + mul i g = mul (j - i) g + mul i g := by rw [em, ← mul_add]; congr 1; omega
          exact can _ _ _ e1
        have low : ∀ k, 1 ≤ k → k ≤ (j - i) + sumN ns → mul k g ≠ 0 := fun k h1 h2 => by
          rcases Nat.lt_or_ge (sumN ns) k with (h | h)
          · have e1 : mul k g = a + mul (k - (j - i)) g := by rw [ea, ← mul_add]; congr 1; omega
            rw [e1]
            exact free_add f' (inR _ (by omega))
          · exact t.low k h1 h
        have t2 : Tells g ((j - i) :: ns) (a :: R) := ⟨by rw [List.map_cons, ← ea, ← t.row], fun x hx => by
          rcases List.mem_cons.mp hx with (rfl | hx)
          · omega
          · exact t.pos x hx, low⟩
        obtain ⟨ms, t3, es⟩ := t2.perm p.symm
        refine ⟨g, ms, t3, ?_⟩
        have es : sumN ms = (j - i) + sumN ns := es
        -- the sums are 0 to the sum of the integers
        have nl : ((List.range (sumN ms + 1)).map fun i => mul i g).Nodup := by
          refine List.pairwise_map.mpr (List.Pairwise.imp_of_mem ?_ List.nodup_range)
          intro i j hi hj ne e
          have hi := List.mem_range.mp hi
          have hj := List.mem_range.mp hj
          exact ne (mul_inj t3.low (by omega) (by omega) e)
        have up : ∀ x ∈ ((List.range (sumN ms + 1)).map fun i => mul i g), In0 S x := fun x hx => by
          obtain ⟨k, hk, rfl⟩ := List.mem_map.mp hx
          have hk := List.mem_range.mp hk
          refine In0.perm p.symm (in0_cons.mpr ?_)
          rcases Nat.lt_or_ge (sumN ns) k with (h | h)
          · exact .inr ⟨mul (k - (j - i)) g, inR _ (by omega), by rw [ea, ← mul_add]; congr 1; omega⟩
          · exact .inl (inR k h)
        have a1 := hn.le nl up
        rw [List.length_map, List.length_range] at a1
        obtain ⟨L, nL, mL, lL⟩ := hn
        have a2 := nodup_le nL (M := (List.range (sumN ms + 1)).map fun i => mul i g) fun x hx => by
          have hx := (mL x).mp hx
          rw [t3.row] at hx
          obtain ⟨k, hk, rfl⟩ := sp_map g hx
          exact List.mem_map.mpr ⟨k, List.mem_range.mpr (by omega), rfl⟩
        rw [List.length_map, List.length_range] at a2
        omega
      · exfalso
        have big := hn.le (L := ((List.range (sumN ns + 1)).map fun i => mul i g) ++ ((List.range (sumN ns + 1)).map fun i => a + mul i g)) (by
          refine List.nodup_append.mpr ⟨?_, ?_, ?_⟩
          · refine List.pairwise_map.mpr (List.Pairwise.imp_of_mem ?_ List.nodup_range)
            intro i j hi hj ne e
            have hi := List.mem_range.mp hi
            have hj := List.mem_range.mp hj
            exact ne (mul_inj t.low (by omega) (by omega) e)
          · refine List.pairwise_map.mpr (List.Pairwise.imp_of_mem ?_ List.nodup_range)
            intro i j hi hj ne e
            have hi := List.mem_range.mp hi
            have hj := List.mem_range.mp hj
            exact ne (mul_inj t.low (by omega) (by omega) (canl e))
          · intro x hx y hy e
            obtain ⟨j, hj, rfl⟩ := List.mem_map.mp hx
            obtain ⟨i, hi, rfl⟩ := List.mem_map.mp hy
            have hi := List.mem_range.mp hi
            have hj := List.mem_range.mp hj
            exact meet ⟨i, j, by omega, by omega, e.symm⟩) (fun x hx => by
          refine In0.perm p.symm (in0_cons.mpr ?_)
          rcases List.mem_append.mp hx with (hx | hx)
          · obtain ⟨i, hi, rfl⟩ := List.mem_map.mp hx
            have hi := List.mem_range.mp hi
            exact .inl (inR i (by omega))
          · obtain ⟨i, hi, rfl⟩ := List.mem_map.mp hx
            have hi := List.mem_range.mp hi
            exact .inr ⟨_, inR i (by omega), rfl⟩)
        rw [List.length_append, List.length_map, List.length_map, List.length_range] at big
        omega
    · -- each step adds just the whole sum
      have only : ∀ {a : G} {R : List G}, S.Perm (a :: R) → ∀ {x : G}, In0 S x → In0 R x ∨ x = tot (a :: R) := fun {a R} p {x} hx => by
        obtain ⟨m, M, nM, mM, lM⟩ := num_in0 R
        have hm : Num (In0 R) m := ⟨M, nM, mM, lM⟩
        have small : n < m + 2 := Nat.lt_of_not_le fun h => jump ⟨a, R, m, p, hm, h⟩
        have f' := f.perm p
        by_cases h1 : In0 R x
        · exact .inl h1
        · by_cases h2 : x = tot (a :: R)
          · exact .inr h2
          · exfalso
            have := hn.le (L := x :: tot (a :: R) :: M) (List.nodup_cons.mpr ⟨fun z => by
              rcases List.mem_cons.mp z with (z | z)
              · exact h2 z
              · exact h1 ((mM x).mp z), List.nodup_cons.mpr ⟨fun z => tot_new f' ((mM _).mp z), nM⟩⟩) fun y hy => by
              rcases List.mem_cons.mp hy with (rfl | hy)
              · exact hx
              · rcases List.mem_cons.mp hy with (rfl | hy)
                · exact (in0_tot (a :: R)).perm p.symm
                · exact In0.perm p.symm (in0_cons.mpr (.inl ((mM y).mp hy)))
            rw [List.length_cons, List.length_cons, lM] at this
            omega
      have totp : ∀ {S T : List G}, S.Perm T → tot S = tot T := fun {S T} p => by
        have h := (Sp.all S).perm p
        have := h.sum
        rw [zda] at this
        exact this
      -- a sum but home is a step and a sum of the others
      have back : ∀ {a : G} {R : List G}, S.Perm (a :: R) → ∀ {x : G}, In0 S x → x ≠ 0 → ∃ z, In0 R z ∧ x = a + z := fun {a R} p {x} hx ne => by
        obtain ⟨j, k, y, h⟩ := hx
        have es : x + y = tot (a :: R) := h.sum.trans (totp p)
        rcases only p ⟨_, _, _, h.turn⟩ with ⟨j', k', z, hz⟩ | e
        · refine ⟨z, ⟨_, _, _, hz.turn⟩, ?_⟩
          have e1 : y + z = tot R := hz.sum
          have e2 : x + y = (a + z) + y := by
            rw [es]
            show a + tot R = _
            rw [← e1, ass, com z]
          exact can _ _ _ e2
        · exfalso
          apply ne
          apply can x 0 y
          rw [es, zad, e]
      obtain ⟨a, R, rfl⟩ : ∃ a R, S = a :: R := by
        cases S with
        | nil => cases hl
        | cons a R => exact ⟨a, R, rfl⟩
      have same : ∀ b ∈ a :: R, b = a := by
        intro b hb
        refine Classical.byContradiction fun ne => ?_
        obtain ⟨s, t, e⟩ := List.append_of_mem hb
        have pb : (a :: R).Perm (b :: (s ++ t)) := by rw [e]; exact List.perm_middle
        have pa : (a :: R).Perm (a :: R) := .refl _
        have step : ∀ {a b : G} {R Q : List G}, (a ≠ b) → ∀ (S : List G), Free S → (∀ {a : G} {R : List G}, S.Perm (a :: R) → ∀ {x : G}, In0 S x → In0 R x ∨ x = tot (a :: R)) → (∀ {a : G} {R : List G}, S.Perm (a :: R) → ∀ {x : G}, In0 S x → x ≠ 0 → ∃ z, In0 R z ∧ x = a + z) → S.Perm (a :: R) → S.Perm (b :: Q) → a + tot S = 0 := fun {a b R Q} ne S f only back pa pb => by
          have f' := f.perm pb
          have b0 : b ≠ 0 := fun e => free_add f' (in0_zero Q) (by rw [e, zad])
          have inb : In0 S b := In0.perm pb.symm (in0_cons.mpr (.inr ⟨0, in0_zero Q, zda b⟩))
          obtain ⟨z, hz, e1⟩ := back pa inb b0
          have z0 : z ≠ 0 := fun e => ne (by rw [e1, e, zda])
          have inz : In0 S z := In0.perm pa.symm (in0_cons.mpr (.inl hz))
          obtain ⟨w, hw, e2⟩ := back pb inz z0
          have inw : In0 S w := In0.perm pb.symm (in0_cons.mpr (.inl hw))
          have e3 : a + w = 0 := by
            apply can _ _ b
            rw [zad]
            conv => rhs; rw [e1, e2]
            rw [ass, com w]
          rcases only pa inw with (h | h)
          · exact absurd e3 (free_add (f.perm pa) h)
          · rw [totp pa, ← h]; exact e3
        have s1 := step (a := a) (b := b) (fun e => ne e.symm) (a :: R) f only back pa pb
        have s2 := step (a := b) (b := a) ne (a :: R) f only back pb pa
        exact ne (can _ _ _ (s2.trans s1.symm))
      have low : ∀ i, 1 ≤ i → i ≤ (a :: R).length → mul i a ≠ 0 := fun i h1 h2 e => f (e ▸ free_mul same i h1 h2)
      have sl : ∀ k, sumN (List.replicate k 1) = k := fun k => by
        induction k with
        | zero => rfl
        | succ k ih => rw [List.replicate_succ]; show 1 + sumN _ = _; rw [ih]; omega
      have t : Tells a (List.replicate (a :: R).length 1) (a :: R) := ⟨by
        rw [List.map_replicate, mul_one]
        exact List.eq_replicate_iff.mpr ⟨rfl, same⟩, fun x hx => by rw [(List.mem_replicate.mp hx).2]; exact Nat.le_refl 1, fun i h1 h2 => low i h1 (by rw [sl] at h2; exact h2)⟩
      refine ⟨a, _, t, ?_⟩
      exact (t.num (by rw [sl, hl]; omega)).one hn
/-- the pair that tells by few is one alone -/
theorem one_pair {g h : G} {ns ms : List Nat} {S : List G} (t : Tells g ns S) (u : Tells h ms S) (f1 : sumN ns + 2 ≤ 2 * S.length) (f2 : sumN ms + 2 ≤ 2 * S.length) : g = h := by
  have nN := (t.num (by omega)).one (u.num (by omega))
  have lenN : S.length = ns.length := by rw [t.row, List.length_map]
  have lenM : S.length = ms.length := by rw [u.row, List.length_map]
  have key : ∀ {g h : G} {ns ms : List Nat}, Tells g ns S → Tells h ms S → sumN ns = sumN ms → sumN ns + 2 ≤ 2 * S.length → g ≠ h → mul (sumN ns + 1) g = 0 := fun {g h ns ms} t u es f ne => by
    have lenM : S.length = ms.length := by rw [u.row, List.length_map]
    have lenN : S.length = ns.length := by rw [t.row, List.length_map]
    have gN := sumN_ge t.pos
    have in0 : ∀ i, i ≤ sumN ns → In0 S (mul i h) := fun i hi => by
      have := all_sums h _ rfl u.pos (by omega) i (by omega)
      rwa [← u.row] at this
    have is : ∀ i, i ≤ sumN ns → ∃ j, j ≤ sumN ns ∧ mul i h = mul j g := fun i hi => by
      have := in0 i hi
      rw [t.row] at this
      exact sp_map g this
    have is' : ∀ i, i ≤ sumN ns → ∃ j, j ≤ sumN ns ∧ mul i g = mul j h := fun i hi => by
      have := all_sums g _ rfl t.pos (by omega) i hi
      rw [← t.row, u.row] at this
      obtain ⟨j, hj, e⟩ := sp_map h this
      exact ⟨j, by omega, e⟩
    obtain ⟨j, hj, ej⟩ := is 1 (by omega)
    rw [mul_one] at ej
    have j2 : 2 ≤ j := by
      rcases Nat.lt_or_ge j 2 with (l | l)
      · exfalso
        have : j = 0 ∨ j = 1 := by omega
        rcases this with (rfl | rfl)
        · exact u.low 1 (Nat.le_refl 1) (by omega) (by rw [mul_one]; exact ej)
        · exact ne (by rw [ej, mul_one])
      · exact l
    -- the whole sum is the last multiple of both
    have tot_mul : ∀ {g : G} {ns : List Nat}, tot (ns.map fun n => mul n g) = mul (sumN ns) g := fun {g ns} => by
      induction ns with
      | nil => rfl
      | cons n ns ih => show mul n g + tot _ = mul (n + sumN ns) g; rw [ih, mul_add]
    have ends : mul (sumN ns) g = mul (sumN ns) h := by
      have a : tot S = mul (sumN ns) g := by rw [t.row, tot_mul]
      have b : tot S = mul (sumN ms) h := by rw [u.row, tot_mul]
      rw [← a, b, es]
    -- a multiple of g that isn't the last is one of h that isn't the last
    obtain ⟨i, hi, ei⟩ := is' (sumN ns + 1 - j) (by omega)
    have ilt : i < sumN ns := by
      rcases Nat.lt_or_ge i (sumN ns) with (l | l)
      · exact l
      · exfalso
        have : i = sumN ns := by omega
        rw [this, ← ends] at ei
        have := mul_inj t.low (by omega) (by omega) ei
        omega
    obtain ⟨k, hk, ek⟩ := is (i + 1) (by omega)
    have e1 : mul (sumN ns + 1) g = mul k g := by
      rw [← ek]
      show _ = mul i h + h
      rw [← ei, ej, ← mul_add]; congr 1; omega
    -- so the next multiple is a former one: home
    have e2 : mul (sumN ns + 1 - k) g + mul k g = 0 + mul k g := by rw [← mul_add, show sumN ns + 1 - k + k = sumN ns + 1 by omega, e1, zad]
    have e3 := can _ _ _ e2
    rcases Nat.eq_zero_or_pos k with (rfl | kp)
    · exact e3
    · exact absurd e3 (t.low _ (by omega) (by omega))
  refine Classical.byContradiction fun ne => ?_
  have es : sumN ns = sumN ms := by omega
  have a := key t u es f1 ne
  have b := key u t es.symm f2 fun e => ne e.symm
  have tm : ∀ {g : G} {ns : List Nat}, tot (ns.map fun n => mul n g) = mul (sumN ns) g := fun {g ns} => by
    induction ns with
    | nil => rfl
    | cons n ns ih => show mul n g + tot _ = mul (n + sumN ns) g; rw [ih, mul_add]
  have ends : mul (sumN ns) g = mul (sumN ms) h := by
    have a : tot S = mul (sumN ns) g := by rw [t.row, tm]
    have b : tot S = mul (sumN ms) h := by rw [u.row, tm]
    rw [← a, b]
  rw [mul_succ] at a b
  rw [← ends] at b
  exact ne (canl (a.trans b.symm))
end Fs
end TFS

section TS24
set_option Elab.async false
set_option linter.all false
set_option maxRecDepth 100000
set_option maxHeartbeats 410000
namespace Pu
open L2 PySem Cm
/-! ### few sums, of steps -/
abbrev Sub (ws : List Int) : Type := {s : Stp // okS ws s}
@[reducible] def cg {ws : List Int} (hw : ∀ w ∈ ws, 0 < w) : Fs.CG (Sub ws) where
  add a b := ⟨addS ws a.1 b.1, okS_add hw a.2 b.2⟩
  zero := ⟨zeroS ws, okS_zero hw⟩
  com a b := Subtype.ext (addS_comm a.2 b.2)
  ass a b c := Subtype.ext (addS_assoc a.2 b.2 c.2)
  zad a := Subtype.ext (zero_addS hw a.2)
  can a b c h := Subtype.ext (addS_cancel a.2 b.2 c.2 (congrArg Subtype.val h))
variable {ws : List Int} {S : List Stp}
theorem mul_val (hw : ∀ w ∈ ws, 0 < w) (u : Sub ws) : ∀ n, (@Fs.mul _ (cg hw) n u).1 = mulS ws u.1 n
  | 0 => rfl
  | n + 1 => by
    show addS ws (@Fs.mul _ (cg hw) n u).1 u.1 = _
    rw [mul_val hw u n]; rfl
theorem lift_ex : ∀ {S : List Stp}, (∀ s ∈ S, okS ws s) → ∃ L : List (Sub ws), L.map (·.1) = S
  | [], _ => ⟨[], rfl⟩
  | s :: S, h => by
    obtain ⟨L, e⟩ := lift_ex (S := S) fun t ht => h t (List.mem_cons_of_mem _ ht)
    exact ⟨⟨s, h s List.mem_cons_self⟩ :: L, by rw [List.map_cons, e]⟩
theorem sub_ok (L : List (Sub ws)) : ∀ s ∈ L.map (·.1), okS ws s := fun s hs => by
  obtain ⟨x, _, rfl⟩ := List.mem_map.mp hs
  exact x.2
theorem in1_snoc (hw : ∀ w ∈ ws, 0 < w) {L : List (Sub ws)} {a x : Sub ws} : @Fs.In1 _ (cg hw) (L ++ [a]) x ↔ @Fs.In1 _ (cg hw) L x ∨ x = a ∨ ∃ y, @Fs.In1 _ (cg hw) L y ∧ (cg hw).add a y = x := by
  letI := cg hw
  have p : (L ++ [a]).Perm (a :: L) := List.perm_append_comm
  constructor
  · intro h
    rcases Fs.in1_cons.mp (h.perm p) with h | ⟨y, h, e⟩
    · exact .inl h
    · rcases Fs.in0_in1.mp h with (rfl | h)
      · exact .inr (.inl (by rw [← e, Fs.zda]))
      · exact .inr (.inr ⟨y, h, e⟩)
  · intro h
    refine Fs.In1.perm p.symm (Fs.in1_cons.mpr ?_)
    rcases h with h | rfl | ⟨y, h, e⟩
    · exact .inl h
    · exact .inr ⟨0, Fs.in0_zero _, Fs.zda _⟩
    · exact .inr ⟨y, h.in0, e⟩
theorem sumsOf_zero : sumsOf ws S 0 = [] := rfl
theorem in1_take (hW : okW ws) (L : List (Sub ws)) : ∀ k, k ≤ L.length → ∀ x : Sub ws, @Fs.In1 _ (cg hW.wpos) (L.take k) x ↔ x.1 ∈ sumsOf ws (L.map (·.1)) k
  | 0, _, x => by
    rw [sumsOf_zero, List.take_zero]
    refine ⟨fun h => ?_, fun h => absurd h List.not_mem_nil⟩
    obtain ⟨j, k, y, h⟩ := h
    cases h
  | k + 1, hk, x => by
    have ih := in1_take hW L k (by omega)
    have a : atS (L.map (·.1)) (k : Nat) = (L[k]).1 := by
      unfold atS
      rw [Int.toNat_natCast, List.getD_eq_getElem?_getD, List.getElem?_map, List.getElem?_eq_getElem (by omega)]; rfl
    rw [List.take_succ_eq_append_getElem (by omega), in1_snoc, sums_succ hW (sub_ok L) (by rw [List.length_map]; omega), ih, a]
    constructor
    · rintro (h | rfl | ⟨y, h, rfl⟩)
      · exact .inl h
      · exact .inr (.inl rfl)
      · exact .inr (.inr ⟨y.1, (ih y).mp h, addS_comm y.2 (L[k]).2⟩)
    · rintro (h | h | ⟨y, h, e⟩)
      · exact .inl h
      · exact .inr (.inl (Subtype.ext h))
      · have oy : okS ws y := sums_ok hW (sub_ok L) (by rw [List.length_map]; omega) h
        exact .inr (.inr ⟨⟨y, oy⟩, (ih ⟨y, oy⟩).mpr h, Subtype.ext ((addS_comm (L[k]).2 oy).trans e)⟩)
theorem in1_sums (hW : okW ws) (L : List (Sub ws)) (x : Sub ws) : @Fs.In1 _ (cg hW.wpos) L x ↔ x.1 ∈ sumsOf ws (L.map (·.1)) L.length := by
  have := in1_take hW L L.length (Nat.le_refl _) x
  rwa [List.take_length] at this
theorem putIn_perm {α : Type} (le : α → α → Bool) (a : α) : ∀ l : List α, (putIn le a l).Perm (a :: l)
  | [] => .refl _
  | b :: l => by
    unfold putIn
    split
    · exact .refl _
    · exact ((putIn_perm le a l).cons b).trans (.swap a b l)
theorem isort_perm' {α : Type} (le : α → α → Bool) : ∀ l : List α, (isort le l).Perm l
  | [] => .refl _
  | a :: l => (putIn_perm le a _).trans ((isort_perm' le l).cons a)
theorem sums_nodup (n : Nat) : (sumsOf ws S n).Nodup := (isort_perm' leL _).nodup_iff.mpr (nodup_uniq _)
theorem num_sums (hW : okW ws) (L : List (Sub ws)) (free : zeroS ws ∉ sumsOf ws (L.map (·.1)) L.length) : Fs.Num (@Fs.In0 _ (cg hW.wpos) L) ((sumsOf ws (L.map (·.1)) L.length).length + 1) := by
  letI := cg hW.wpos
  obtain ⟨M, hM⟩ := lift_ex (ws := ws) (S := sumsOf ws (L.map (·.1)) L.length) fun x hx => sums_ok hW (sub_ok L) (by rw [List.length_map]; exact Nat.le_refl _) hx
  have mem : ∀ x : Sub ws, x ∈ M ↔ x.1 ∈ sumsOf ws (L.map (·.1)) L.length := fun x => by
    rw [← hM, List.mem_map]
    exact ⟨fun h => ⟨x, h, rfl⟩, fun ⟨y, h, e⟩ => (Subtype.ext e : y = x) ▸ h⟩
  have nd : M.Nodup := by
    have := sums_nodup (ws := ws) (S := L.map (·.1)) L.length
    rw [← hM] at this
    exact (List.pairwise_map.mp this).imp fun h e => h (congrArg Subtype.val e)
  refine ⟨0 :: M, List.nodup_cons.mpr ⟨fun h => free ((mem 0).mp h), nd⟩, fun x => ?_, by rw [List.length_cons, ← hM, List.length_map]⟩
  rw [List.mem_cons, mem, Fs.in0_in1, in1_sums hW]
theorem sumN_cast : ∀ ns : List Nat, (ns.map fun n : Nat => (n : Int)).sum = (Fs.sumN ns : Int)
  | [] => rfl
  | n :: ns => by
    rw [List.map_cons, List.sum_cons, sumN_cast ns]
    show _ = ((n + Fs.sumN ns : Nat) : Int)
    omega
theorem tells_tell (hW : okW ws) {L : List (Sub ws)} {g : Sub ws} {ns : List Nat} (t : @Fs.Tells _ (cg hW.wpos) g ns L) : TellI ws g.1 (L.map (·.1)) (ns.map fun n : Nat => (n : Int)) := by
  letI := cg hW.wpos
  refine ⟨fun v hv => ?_, ?_, ?_⟩
  · obtain ⟨n, hn, rfl⟩ := List.mem_map.mp hv
    have := t.pos n hn
    omega
  · have := t.row
    rw [this, List.map_map, List.map_map]
    refine List.map_congr_left fun n _n => ?_
    show (Fs.mul n g).1 = mulS ws g.1 (n : Int).toNat
    rw [mul_val hW.wpos, Int.toNat_natCast]
  · rw [sumN_cast]
    have o := ordN_is hW g.2
    rcases Nat.lt_or_ge (Fs.sumN ns) (ordN ws g.1) with (l | l)
    · omega
    · exact absurd (Subtype.ext ((mul_val hW.wpos g _).trans o.2.1)) (t.low _ o.1 l)
theorem tell_tells (hW : okW ws) {L : List (Sub ws)} {g : Sub ws} {vs : List Int} (t : TellI ws g.1 (L.map (·.1)) vs) : ∃ ns : List Nat, vs = ns.map (fun n : Nat => (n : Int)) ∧ @Fs.Tells _ (cg hW.wpos) g ns L := by
  letI := cg hW.wpos
  have e : vs = (vs.map Int.toNat).map fun n : Nat => (n : Int) := by
    rw [List.map_map]
    conv => lhs; rw [← List.map_id vs]
    refine List.map_congr_left fun v hv => ?_
    have := t.pos v hv
    show v = ((v.toNat : Nat) : Int)
    omega
  refine ⟨vs.map Int.toNat, e, ?_, ?_, ?_⟩
  · have r := t.row
    have key : ∀ {L : List (Sub ws)} {vs : List Int}, L.map (·.1) = vs.map (fun v => mulS ws g.1 v.toNat) → L = (vs.map Int.toNat).map fun n => Fs.mul n g := by
      intro L
      induction L with
      | nil =>
        intro vs h
        cases vs with
        | nil => rfl
        | cons v vs => cases h
      | cons x L ih =>
        intro vs h
        cases vs with
        | nil => cases h
        | cons v vs =>
          obtain ⟨h1, h2⟩ := List.cons.inj h
          rw [List.map_cons, List.map_cons, ← ih h2]
          congr 1
          exact Subtype.ext (h1.trans (mul_val hW.wpos g _).symm)
    exact key r
  · intro n hn
    obtain ⟨v, hv, rfl⟩ := List.mem_map.mp hn
    have := t.pos v hv
    omega
  · intro i h1 h2 e2
    have o := ordN_is hW g.2
    have s := sumN_cast (vs.map Int.toNat)
    rw [← e] at s
    have l := t.low
    exact o.2.2 i h1 (by omega) ((mul_val hW.wpos g i).symm.trans (congrArg Subtype.val e2))
/-- told by numbers: never home -/
theorem tell_free (hW : okW ws) (hS : ∀ s ∈ S, okS ws s) {u : Stp} (hu : okS ws u) {vs : List Int} (t : TellI ws u S vs) : zeroS ws ∉ sumsOf ws S S.length := fun h => by
  obtain ⟨L, rfl⟩ := lift_ex hS
  obtain ⟨ns, _, tt⟩ := tell_tells hW (g := ⟨u, hu⟩) t
  letI := cg hW.wpos
  exact tt.free ((in1_sums hW L 0).mpr (by rw [List.length_map] at h; exact h))
/-- few sums: told by numbers that sum to the number of sums -/
theorem few_tell (hW : okW ws) (hS : ∀ s ∈ S, okS ws s) (free : zeroS ws ∉ sumsOf ws S S.length) (few : (sumsOf ws S S.length).length + 2 ≤ 2 * S.length) : ∃ u vs, okS ws u ∧ TellI ws u S vs ∧ vs.sum = ((sumsOf ws S S.length).length : Int) := by
  obtain ⟨L, rfl⟩ := lift_ex hS
  rw [List.length_map] at *
  letI := cg hW.wpos
  have num := num_sums hW L free
  have fr : Fs.Free L := fun h => free ((in1_sums hW L 0).mp h)
  obtain ⟨g, ns, t, e⟩ := Fs.few L.length rfl fr num (by omega)
  refine ⟨g.1, _, g.2, tells_tell hW t, ?_⟩
  rw [sumN_cast]
  omega
/-- told by small numbers: the sums are the multiples -/
theorem tell_few (hW : okW ws) (hS : ∀ s ∈ S, okS ws s) {u : Stp} (hu : okS ws u) {vs : List Int} (t : TellI ws u S vs) (few : vs.sum + 1 ≤ 2 * (S.length : Int)) : ((sumsOf ws S S.length).length : Int) = vs.sum ∧ ∀ x, x ∈ sumsOf ws S S.length ↔ ∃ i : Nat, 1 ≤ i ∧ (i : Int) ≤ vs.sum ∧ x = mulS ws u i := by
  have free := tell_free hW hS hu t
  obtain ⟨L, rfl⟩ := lift_ex hS
  obtain ⟨ns, rfl, tt⟩ := tell_tells hW (g := ⟨u, hu⟩) t
  rw [List.length_map] at *
  rw [sumN_cast] at *
  letI := cg hW.wpos
  have n1 := num_sums hW L free
  have n2 := tt.num (by omega)
  have e := n1.one n2
  refine ⟨by omega, fun x => ?_⟩
  constructor
  · intro h
    have ox := sums_ok hW (sub_ok L) (by rw [List.length_map]; exact Nat.le_refl _) h
    have i1 := (in1_sums hW L ⟨x, ox⟩).mpr h
    rw [tt.row] at i1
    obtain ⟨i, a, b, ei⟩ := Fs.sp_map1 _ tt.pos i1
    exact ⟨i, a, by omega, (congrArg Subtype.val ei).trans (mul_val hW.wpos _ i)⟩
  · rintro ⟨i, a, b, rfl⟩
    have len : L.length = ns.length := by have := congrArg List.length tt.row; rwa [List.length_map] at this
    have i0 := Fs.all_sums (⟨u, hu⟩ : Sub ws) _ rfl tt.pos (by omega) i (by omega)
    rw [← tt.row] at i0
    rcases Fs.in0_in1.mp i0 with (z | h)
    · exact absurd z (tt.low i a (by omega))
    · have := (in1_sums hW L _).mp h
      rwa [mul_val hW.wpos] at this
theorem tell_one (hW : okW ws) (hS : ∀ s ∈ S, okS ws s) {u u' : Stp} (hu : okS ws u) (hu' : okS ws u') {vs vs' : List Int} (t : TellI ws u S vs) (t' : TellI ws u' S vs') (few : vs.sum + 2 ≤ 2 * (S.length : Int)) (few' : vs'.sum + 2 ≤ 2 * (S.length : Int)) : u = u' := by
  obtain ⟨L, rfl⟩ := lift_ex hS
  obtain ⟨ns, rfl, tt⟩ := tell_tells hW (g := ⟨u, hu⟩) t
  obtain ⟨ms, rfl, tt'⟩ := tell_tells hW (g := ⟨u', hu'⟩) t'
  rw [List.length_map] at *
  rw [sumN_cast] at *
  letI := cg hW.wpos
  exact congrArg Subtype.val (Fs.one_pair tt tt' (by omega) (by omega))
/-! ### the tellers of few -/
theorem nodup_grow {F : List Stp} (h : F.Nodup) (w : Int) : (grow F w).Nodup := by
  induction F with
  | nil => exact List.nodup_nil
  | cons s F ih =>
    have ⟨n1, n2⟩ := List.nodup_cons.mp h
    unfold grow
    rw [List.flatMap_cons]
    refine List.nodup_append.mpr ⟨?_, ih n2, ?_⟩
    · refine List.pairwise_map.mpr (List.nodup_range.imp fun {i j} ne e => ne ?_)
      have := (List.append_inj_right' e rfl)
      have := (List.cons.inj this).1
      omega
    · intro x hx y hy e
      subst e
      obtain ⟨i, _, rfl⟩ := List.mem_map.mp hx
      obtain ⟨t, ht, j, _, _, e⟩ := grow_mem.mp hy
      have := (List.append_inj' e rfl).1
      exact n1 (this ▸ ht)
theorem nodup_foldl_grow : ∀ (vs : List Int) {F : List Stp}, F.Nodup → (vs.foldl grow F).Nodup
  | [], _, h => h
  | v :: vs, F, h => nodup_foldl_grow vs (nodup_grow h v)
theorem steps_nodup (ws : List Int) : (stepsL ws).Nodup := nodup_foldl_grow ws (List.nodup_cons.mpr ⟨List.not_mem_nil, List.nodup_nil⟩)
theorem tellL_nodup : (tellL ws S).Nodup := by
  unfold tellL
  have key : ∀ {us : List Stp}, us.Nodup → (us.filterMap (tl ws S)).Nodup ∧ ∀ p ∈ us.filterMap (tl ws S), p.1 ∈ us := by
    intro us
    induction us with
    | nil => intro _; exact ⟨List.nodup_nil, fun p hp => absurd hp List.not_mem_nil⟩
    | cons u us ih =>
      intro h
      have ⟨n1, n2⟩ := List.nodup_cons.mp h
      obtain ⟨a, b⟩ := ih n2
      rw [List.filterMap_cons]
      unfold tl at *
      cases toldI ws u S with
      | none => exact ⟨a, fun p hp => List.mem_cons_of_mem _ (b p hp)⟩
      | some vs =>
        refine ⟨List.nodup_cons.mpr ⟨fun h => n1 (b _ h), a⟩, fun p hp => ?_⟩
        rcases List.mem_cons.mp hp with (rfl | hp)
        · exact List.mem_cons_self
        · exact List.mem_cons_of_mem _ (b p hp)
  exact (key (steps_nodup ws)).1
theorem filter_one {α : Type} (p : α → Bool) : ∀ {xs : List α}, xs.Nodup → (∀ x ∈ xs, ∀ y ∈ xs, p x = true → p y = true → x = y) → xs.filter p = (xs.find? p).toList
  | [], _, _ => rfl
  | x :: xs, nd, h => by
    have ⟨n1, n2⟩ := List.nodup_cons.mp nd
    rw [List.filter_cons, List.find?_cons]
    cases e : p x with
    | false =>
      rw [if_neg (by decide : ¬ (false = true))]
      exact filter_one p n2 fun a ha b hb => h a (List.mem_cons_of_mem _ ha) b (List.mem_cons_of_mem _ hb)
    | true =>
      simp only [if_true]
      have : xs.filter p = [] := List.filter_eq_nil_iff.mpr fun y hy hp => n1 ((h x List.mem_cons_self y (List.mem_cons_of_mem _ hy) e hp) ▸ hy)
      rw [this]; rfl
def fewP (S : List Stp) (p : Stp × List Int) : Bool := decide (p.2.sum ≤ 2 * (S.length : Int) - 2)
theorem few_filter (hW : okW ws) (hS : ∀ s ∈ S, okS ws s) : (tellL ws S).filter (fewP S) = (findV ws S (2 * (S.length : Int) - 2)).toList := by
  rw [findV_tell]
  refine filter_one _ tellL_nodup fun x hx y hy a b => ?_
  obtain ⟨x1, x2⟩ := mem_tellL.mp hx
  obtain ⟨y1, y2⟩ := mem_tellL.mp hy
  have a := of_decide_eq_true a
  have b := of_decide_eq_true b
  have e := tell_one hW hS x1 y1 ((toldI_iff hW x1).mp x2) ((toldI_iff hW y1).mp y2) (by omega) (by omega)
  obtain ⟨u, vs⟩ := x
  obtain ⟨u', vs'⟩ := y
  have e : u = u' := e
  subst e
  rw [show vs = vs' from Option.some.inj (x2.symm.trans y2)]
def fewB (ws : List Int) (S : List Stp) : Bool := !decide (zeroS ws ∈ sumsOf ws S S.length) && decide ((((sumsOf ws S S.length).length : Nat) : Int) ≤ 2 * (S.length : Int) - 2)
/-- few sums just if there is a pair that tells by few -/
theorem few_find (hW : okW ws) (hS : ∀ s ∈ S, okS ws s) : (findV ws S (2 * (S.length : Int) - 2)).isSome = fewB ws S := by
  apply Bool.eq_iff_iff.mpr
  unfold fewB
  rw [Bool.and_eq_true, Bool.not_eq_true', decide_eq_false_iff_not, decide_eq_true_eq, findV_tell]
  constructor
  · intro h
    obtain ⟨p, hp⟩ := Option.isSome_iff_exists.mp h
    obtain ⟨a, b⟩ := mem_tellL.mp (List.mem_of_find?_eq_some hp)
    have l := of_decide_eq_true (List.find?_some (p := fun p : Stp × List Int => decide (p.2.sum ≤ 2 * (S.length : Int) - 2)) hp)
    have t := (toldI_iff hW a).mp b
    refine ⟨tell_free hW hS a t, ?_⟩
    have := (tell_few hW hS a t (by omega)).1
    omega
  · rintro ⟨free, l⟩
    obtain ⟨u, vs, hu, t, e⟩ := few_tell hW hS free (by omega)
    rw [List.find?_isSome]
    exact ⟨(u, vs), mem_tellL.mpr ⟨hu, (toldI_iff hW hu).mpr t⟩, decide_eq_true (show vs.sum ≤ _ by omega)⟩
theorem few_found (hW : okW ws) {p : Stp × List Int} (h : findV ws S (2 * (S.length : Int) - 2) = some p) : okS ws p.1 ∧ TellI ws p.1 S p.2 ∧ p.2.sum ≤ 2 * (S.length : Int) - 2 := by
  rw [findV_tell] at h
  obtain ⟨a, b⟩ := mem_tellL.mp (List.mem_of_find?_eq_some h)
  exact ⟨a, (toldI_iff hW a).mp b, of_decide_eq_true (List.find?_some (p := fun p : Stp × List Int => decide (p.2.sum ≤ 2 * (S.length : Int) - 2)) h)⟩
end Pu
end TS24

section TS25
set_option Elab.async false
set_option linter.all false
set_option maxRecDepth 100000
set_option maxHeartbeats 410000
namespace Pu
open L2 PySem Cm
/-! ### rows in order -/
theorem rows_alike : ∀ (a b : List Stp), PySem.W.alikeAll (a.map tupI) (b.map tupI) = true
  | [], [] => by simp [PySem.W.alikeAll]
  | [], b :: bs => by simp [PySem.W.alikeAll]
  | a :: as, [] => by simp [PySem.W.alikeAll]
  | a :: as, b :: bs => by
    rw [List.map_cons, List.map_cons, PySem.W.alikeAll, tupI_alike, rows_alike as bs]; rfl
theorem row_alike (a b : List Stp) : PySem.W.alike (rowD a) (rowD b) = true := by
  unfold rowD
  rw [PySem.W.alike]
  exact rows_alike a b
theorem lex_nil_nil : PyProof.Rows.lexLt PyProof.Rows.itemOrd (PySem.W.keyToksAll []) (PySem.W.keyToksAll []) = false := PyProof.Rows.lex_irrefl _
theorem dataLt_rows : ∀ (a b : List Stp), PyProof.Rows.lexLt PyProof.Rows.itemOrd (PySem.W.keyToksAll (a.map tupI)) (PySem.W.keyToksAll (b.map tupI)) = decide (a < b)
  | [], [] => by
    rw [List.map_nil, lex_nil_nil]
    exact (decide_eq_false (List.lt_irrefl _)).symm
  | [], b :: bs => by
    have h : ([] : List Stp) < b :: bs := List.nil_lt_cons b bs
    rw [decide_eq_true h, List.map_nil, List.map_cons, PySem.W.keyToksAll, PySem.W.toks_all_cons]
    rfl
  | a :: as, [] => by
    have h : ¬ (a :: as : List Stp) < [] := List.not_lt_nil _
    rw [decide_eq_false h, List.map_nil, List.map_cons, PySem.W.keyToksAll, PySem.W.toks_all_cons]
    rfl
  | a :: as, b :: bs => by
    rw [List.map_cons, List.map_cons, PySem.W.dataLt_cons (tupI_alike a b), tupI_eqv, dataLt_rows as bs, show PySem.W.dataLt (tupI a) (tupI b) = decide (a < b) from PySem.W.dataLt_ints a b]
    by_cases e : a = b
    · subst e
      rw [if_pos (decide_eq_true rfl)]
      apply Bool.eq_iff_iff.mpr
      rw [decide_eq_true_eq, decide_eq_true_eq, List.cons_lt_cons_iff]
      exact ⟨fun h => .inr ⟨rfl, h⟩, fun h => h.elim (fun k => absurd k (List.lt_irrefl _)) fun k => k.2⟩
    · rw [if_neg (by simp [e])]
      apply Bool.eq_iff_iff.mpr
      rw [decide_eq_true_eq, decide_eq_true_eq, List.cons_lt_cons_iff]
      exact ⟨fun h => .inl h, fun h => h.elim id fun k => absurd k.1 e⟩
def leR (a b : List Stp) : Bool := decide (a ≤ b)
theorem dataLe_row (a b : List Stp) : PySem.W.dataLe false id (rowD a) (rowD b) = leR a b := by
  show (!PySem.W.dataLt (rowD b) (rowD a)) = decide (a ≤ b)
  unfold rowD
  rw [PySem.W.dataLt_tuple, dataLt_rows]
  by_cases z : b < a
  · rw [decide_eq_true z, decide_eq_false (fun y => y z)]; rfl
  · rw [decide_eq_false z, decide_eq_true (List.not_lt.mp z)]; rfl
theorem leR_le : PySem.W.TotalLe leR := ⟨fun a b c h k => decide_eq_true (List.le_trans (of_decide_eq_true h) (of_decide_eq_true k)), fun a b => (List.le_total a b).imp decide_eq_true decide_eq_true⟩
theorem leR_anti {a b : List Stp} (h : leR a b = true) (k : leR b a = true) : a = b := List.le_antisymm (of_decide_eq_true h) (of_decide_eq_true k)
def srtR (R : List (List Stp)) : List (List Stp) := isort leR R
theorem sortD_rows (R : List (List Stp)) : sortD (R.map rowD) = (srtR R).map rowD := isort_map rowD dataLe_row R
theorem row_flat (r : List Stp) : (rowD r).plain = true ∧ (rowD r).depth ≤ 2 := by
  unfold rowD
  refine ⟨by unfold PyData.plain; exact tups_plain r, ?_⟩
  have := tups_depth r
  unfold PyData.depth
  omega
theorem okSort_rows {R : List (List Stp)} (hn : R.length ≤ LIM) (hne : ∀ r ∈ R, r ≠ []) : okSort (R.map rowD) = true := by
  unfold okSort
  rw [Bool.and_eq_true, Bool.and_eq_true, Bool.and_eq_true]
  refine ⟨⟨⟨?_, ?_⟩, ?_⟩, decide_eq_true (by rwa [List.length_map])⟩
  · unfold alikeL
    simp [row_alike]
  · refine (Bool.or_eq_true _ _).mpr (.inl ?_)
    rw [List.all_map, List.all_eq_true]
    intro r hr
    cases r with
    | nil => exact absurd rfl (hne _ hr)
    | cons s r => rfl
  · rw [List.all_map, List.all_eq_true]
    intro r hr
    have := row_flat r
    show (_ && _) = true
    rw [this.1, decide_eq_true (by omega)]; rfl
theorem pSorted_rows {R : List (List Stp)} (hn : R.length ≤ LIM) (hne : ∀ r ∈ R, r ≠ []) : pSorted [.list (R.map rowD)] = some (.list ((srtR R).map rowD)) := by
  show (if okSort (R.map rowD) = true then some (PyData.list (sortD (R.map rowD))) else none) = _
  rw [if_pos (okSort_rows hn hne), sortD_rows]
theorem pSorted_tups {ks : List Stp} (hn : ks.length ≤ LIM) (hne : ∀ k ∈ ks, k ≠ []) : pSorted [.list (ks.map tupI)] = some (.list ((srt ks).map tupI)) := by
  show (if okSort (ks.map tupI) = true then some (PyData.list (sortD (ks.map tupI))) else none) = _
  rw [if_pos (okSort_tups hn hne), sortD_tups]
/-- lists in order with the same things are one -/
theorem order_one {α : Type} {le : α → α → Bool} (anti : ∀ a b, le a b = true → le b a = true → a = b) : ∀ {a b : List α}, a.Pairwise (fun x y => le x y = true) → b.Pairwise (fun x y => le x y = true) → a.Perm b → a = b
  | [], b, _, _, p => p.nil_eq
  | x :: a, b, ha, hb, p => by
    cases b with
    | nil => exact absurd p.symm.nil_eq (fun e => nomatch e)
    | cons y b =>
      obtain ⟨a1, a2⟩ := List.pairwise_cons.mp ha
      obtain ⟨b1, b2⟩ := List.pairwise_cons.mp hb
      have e : x = y := by
        have hx : x ∈ y :: b := p.subset List.mem_cons_self
        have hy : y ∈ x :: a := p.symm.subset List.mem_cons_self
        rcases List.mem_cons.mp hx with (h | h)
        · exact h
        · rcases List.mem_cons.mp hy with (k | k)
          · exact k.symm
          · exact anti x y (a1 y k) (b1 x h)
      subst e
      rw [order_one anti a2 b2 p.cons_inv]
theorem srtR_pw (R : List (List Stp)) : (srtR R).Pairwise (fun x y => leR x y = true) := isort_pw leR_le R
theorem srt_pw (R : List Stp) : (srt R).Pairwise (fun x y => leL x y = true) := isort_pw leL_le R
theorem leL_anti {a b : Stp} (h : leL a b = true) (k : leL b a = true) : a = b := List.le_antisymm (of_decide_eq_true h) (of_decide_eq_true k)
theorem srt_id {R : List Stp} (h : R.Pairwise (fun x y => leL x y = true)) : srt R = R := order_one (fun _ _ => leL_anti) (srt_pw R) h (isort_perm' leL R)
theorem srtR_of {R Q : List (List Stp)} (hQ : Q.Pairwise (fun x y => leR x y = true)) (p : R.Perm Q) : srtR R = Q := order_one (fun _ _ => leR_anti) (srtR_pw R) hQ ((isort_perm' leR R).trans p)
end Pu
end TS25

section TS26
set_option Elab.async false
set_option linter.all false
set_option maxRecDepth 100000
set_option maxHeartbeats 410000
namespace Pu
open L2 PySem Cm
/-! ### list_partitions -/
def lpIn (p : Nat) (L : List (List Stp)) (k : Nat) : List (List Stp) := L.set k (L.getD k [] ++ (L.getD (k - p) []).map (· ++ [(p : Int)]))
def lpOut (n : Nat) (L : List (List Stp)) (p : Nat) : List (List Stp) := (List.range' p (n + 1 - p)).foldl (lpIn p) L
def lp (n : Nat) : List (List Stp) := (List.range' 1 n).foldl (lpOut n) ([[]] :: List.replicate n [])
abbrev ptD (P : List Stp) : PyData := .list (P.map tupI)
abbrev ltD (L : List (List Stp)) : PyData := .list (L.map ptD)
theorem lpIn_len (p : Nat) (L : List (List Stp)) (k : Nat) : (lpIn p L k).length = L.length := List.length_set ..
theorem lpIn_fold_len (p : Nat) : ∀ (l : List Nat) (L : List (List Stp)), (l.foldl (lpIn p) L).length = L.length
  | [], _ => rfl
  | k :: l, L => by rw [List.foldl_cons, lpIn_fold_len p l, lpIn_len]
theorem lpOut_len (n : Nat) (L : List (List Stp)) (p : Nat) : (lpOut n L p).length = L.length := lpIn_fold_len p _ L
theorem lp_len (n : Nat) : (lp n).length = n + 1 := by
  unfold lp
  have : ∀ (l : List Nat) (L : List (List Stp)), (l.foldl (lpOut n) L).length = L.length := by
    intro l
    induction l with
    | nil => intro L; rfl
    | cons k l ih => intro L; rw [List.foldl_cons, ih, lpOut_len]
  rw [this]; simp
theorem getD_set {α : Type} (L : List α) (k j : Nat) (v d : α) : (L.set k v).getD j d = if k = j ∧ k < L.length then v else L.getD j d := by
  rw [List.getD_eq_getElem?_getD, List.getD_eq_getElem?_getD, List.getElem?_set]
  by_cases e : k = j
  · subst e
    by_cases l : k < L.length
    · simp [l]
    · simp [l]
  · simp [e]
/-- no list grows shorter -/
def Up (L M : List (List Stp)) : Prop := ∀ j, (L.getD j []).length ≤ (M.getD j []).length
theorem Up.trans {L M N : List (List Stp)} (h : Up L M) (k : Up M N) : Up L N := fun j => Nat.le_trans (h j) (k j)
theorem up_in (p : Nat) (L : List (List Stp)) (k : Nat) : Up L (lpIn p L k) := fun j => by
  unfold lpIn
  rw [getD_set]
  split
  · rename_i h
    rw [← h.1, List.length_append]; omega
  · exact Nat.le_refl _
theorem up_fold {β : Type} (f : List (List Stp) → β → List (List Stp)) (h : ∀ L b, Up L (f L b)) : ∀ (l : List β) (L : List (List Stp)), Up L (l.foldl f L)
  | [], _ => fun _ => Nat.le_refl _
  | b :: l, L => (h L b).trans (up_fold f h l _)
theorem up_out (n : Nat) (L : List (List Stp)) (p : Nat) : Up L (lpOut n L p) := up_fold (lpIn p) (up_in p) _ L
def Small (L : List (List Stp)) : Prop := ∀ j, (L.getD j []).length ≤ LIM
theorem Small.of {L M : List (List Stp)} (u : Up L M) (s : Small M) : Small L := fun j => Nat.le_trans (u j) (s j)
/-- no tuple is longer than its sum -/
def Short (L : List (List Stp)) : Prop := ∀ j, ∀ x ∈ L.getD j [], x.length ≤ j
theorem short_in {p : Nat} (hp : 1 ≤ p) {L : List (List Stp)} (h : Short L) {k : Nat} (hk : p ≤ k) : Short (lpIn p L k) := fun j x hx => by
  unfold lpIn at hx
  rw [getD_set] at hx
  split at hx
  · rename_i e
    rw [← e.1]
    rcases List.mem_append.mp hx with (z | z)
    · exact h k x z
    · obtain ⟨y, hy, rfl⟩ := List.mem_map.mp z
      have := h _ y hy
      rw [List.length_append]
      show y.length + 1 ≤ k
      omega
  · exact h j x hx
theorem short_fold {p : Nat} (hp : 1 ≤ p) : ∀ (l : List Nat) {L : List (List Stp)}, Short L → (∀ k ∈ l, p ≤ k) → Short (l.foldl (lpIn p) L)
  | [], _, h, _ => h
  | k :: l, L, h, hl => short_fold hp l (short_in hp h (hl k List.mem_cons_self)) fun i hi => hl i (List.mem_cons_of_mem _ hi)
theorem short_out {n p : Nat} (hp : 1 ≤ p) {L : List (List Stp)} (h : Short L) : Short (lpOut n L p) := short_fold hp _ h fun k hk => (List.mem_range'_1.mp hk).1
theorem short_outs {n : Nat} : ∀ (l : List Nat) {L : List (List Stp)}, Short L → (∀ p ∈ l, 1 ≤ p) → Short (l.foldl (lpOut n) L)
  | [], _, h, _ => h
  | p :: l, L, h, hl => short_outs l (short_out (hl p List.mem_cons_self) h) fun i hi => hl i (List.mem_cons_of_mem _ hi)
theorem short_init (n : Nat) : Short ([[]] :: List.replicate n []) := fun j x hx => by
  cases j with
  | zero =>
    have hx : x ∈ [[]] := hx
    rw [List.mem_singleton.mp hx]; exact Nat.le_refl 0
  | succ j =>
    rw [List.getD_cons_succ, List.getD_eq_getElem?_getD, List.getElem?_replicate] at hx
    split at hx
    · exact absurd hx List.not_mem_nil
    · exact absurd hx List.not_mem_nil
theorem atI_lts (L : List (List Stp)) {i : Nat} (h : i < L.length) : atI (L.map ptD) (i : Int) = some (ptD (L.getD i [])) := by
  rw [atI_nat, List.getElem?_map, List.getD_eq_getElem?_getD, List.getElem?_eq_getElem h]; rfl
theorem lix_ok {L : List (List Stp)} {j : Nat} {fk : M PyData} {r : Pu.Env} (h0 : r[1]? = some (.own (ltD L))) (hk : fk r = .ok (.int j) r) (h : j < L.length) : fLIx 1 fk r = .ok (ptD (L.getD j [])) r := by
  have a := atI_lts L h
  unfold fLIx needL
  rw [h0]
  dsimp only [M.bind]
  rw [hk]
  dsimp only
  unfold kLIx
  simp only [h0, a]
theorem lp_step {n p k : Nat} (hn : n ≤ 400) (p1 : 1 ≤ p) (k1 : p ≤ k) (k2 : k ≤ n) {L : List (List Stp)} (hl : L.length = n + 1) (sm : Small (lpIn p L k)) (sh : Short L) : let r : Pu.Env := [.dat (.int n), .own (ltD L), .dat (.int p), .dat (.int k), .un, .un]
    sLSet 1 (fV 3) (f2 pAdd (fLIx 1 (fV 3)) (fLc (fSeq (fLIx 1 (f2 pSub (fV 3) (fV 2)))) (gN 5) (fYes) (f1 kTup (fStar (fV 5) (fCons (fV 2) (fNil)))) [5])) r = .nx [.dat (.int n), .own (ltD (lpIn p L k)), .dat (.int p), .dat (.int k), .un, .un] := by
  intro r
  have s0 := sm k
  unfold lpIn at s0
  rw [getD_set, if_pos ⟨rfl, by omega⟩, List.length_append, List.length_map] at s0
  have sub : f2 pSub (fV 3) (fV 2) r = .ok (.int ((k - p : Nat) : Int)) r := op2 (ρ1 := r) (ρ2 := r) rfl rfl (by rw [pSub_int]; congr 2; omega)
  have l1 : fLIx 1 (fV 3) r = .ok (ptD (L.getD k [])) r := lix_ok rfl rfl (by omega)
  have l2 : fLIx 1 (f2 pSub (fV 3) (fV 2)) r = .ok (ptD (L.getD (k - p) [])) r := lix_ok rfl sub (by omega)
  have sq : fSeq (fLIx 1 (f2 pSub (fV 3) (fV 2))) r = .ok ((L.getD (k - p) []).map tupI) r := by simp only [fSeq, M.bind, l2, asSeq_lst, M.lift]
  have lc := lc_map tupI (fun x => tupI (x ++ [(p : Int)])) (g := gN 5) (e := f1 kTup (fStar (fV 5) (fCons (fV 2) (fNil)))) (vs := [5]) (ρ := r) (ρ0 := r) (ρ' := r) sq rfl rfl (by omega) fun x hx => by
    let q : Pu.Env := [.dat (.int n), .own (ltD L), .dat (.int p), .dat (.int k), .un, .dat (tupI x)]
    have kt : kTup (x.map PyData.int ++ [.int p]) = some (tupI (x ++ [(p : Int)])) := by
      have := sh _ x hx
      unfold kTup tupI
      rw [List.map_append, if_pos (by rw [List.length_append, List.length_map]; show x.length + 1 ≤ 1000000; omega)]; rfl
    exact ⟨q, q, rfl, op1 (star_ok (ρ1 := q) rfl (asSeq_tupI x) (cons_ok (ρ1 := q) rfl rfl)) kt, rfl⟩
  have ad : pAdd (ptD (L.getD k [])) (.list ((L.getD (k - p) []).map fun x => tupI (x ++ [(p : Int)]))) = some (ptD (L.getD k [] ++ (L.getD (k - p) []).map (· ++ [(p : Int)]))) := by
    rw [pAdd_lst (by rw [List.length_map, List.length_map]; omega)]
    unfold ptD
    rw [List.map_append, List.map_map]; rfl
  have v := op2 (g := pAdd) l1 lc ad
  have ix := ixN_nat (n := (L.map ptD).length) (i := k) (by rw [List.length_map]; omega)
  have m : (L.map ptD).set k (ptD (L.getD k [] ++ (L.getD (k - p) []).map (· ++ [(p : Int)]))) = (lpIn p L k).map ptD := by unfold lpIn; rw [List.map_set]
  unfold sLSet sE
  rw [v]
  dsimp only
  have h3 : (fV 3) r = .ok (.int k) r := rfl
  have h1 : r[1]? = some (.own (ltD L)) := rfl
  unfold needL
  rw [h1]
  dsimp only
  rw [h3]
  dsimp only
  rw [h1]
  dsimp only
  rw [ix]
  dsimp only
  rw [m]; rfl
theorem lp_inner {n p : Nat} (hp : 1 ≤ p) (hn : n ≤ 400) {L : List (List Stp)} (hl : L.length = n + 1) (sm : Small (lpOut n L p)) (sh : Short L) {y : Sl} : ∃ y', sForL (gN 3) (sLSet 1 (fV 3) (f2 pAdd (fLIx 1 (fV 3)) (fLc (fSeq (fLIx 1 (f2 pSub (fV 3) (fV 2)))) (gN 5) (fYes) (f1 kTup (fStar (fV 5) (fCons (fV 2) (fNil)))) [5]))) ((List.range' p (n + 1 - p)).map fun i : Nat => PyData.int i)
    [.dat (.int n), .own (ltD L), .dat (.int p), y, .un, .un] = .nx [.dat (.int n), .own (ltD (lpOut n L p)), .dat (.int p), y', .un, .un] := by
  obtain ⟨ρ', e, y', hy⟩ := forL_pre (fun (pre : List Nat) ρ => ∃ y, ρ = [.dat (.int n), .own (ltD (pre.foldl (lpIn p) L)), .dat (.int p), y, .un, .un]) (fun i : Nat => PyData.int i) (xs := List.range' p (n + 1 - p)) (g := gN 3)
    (b := sLSet 1 (fV 3) (f2 pAdd (fLIx 1 (fV 3)) (fLc (fSeq (fLIx 1 (f2 pSub (fV 3) (fV 2)))) (gN 5) (fYes) (f1 kTup (fStar (fV 5) (fCons (fV 2) (fNil)))) [5])))
    (fun pre k post ρ es ⟨y, e⟩ => by
      subst e
      have hk : k ∈ List.range' p (n + 1 - p) := by rw [es]; exact List.mem_append_right _ List.mem_cons_self
      obtain ⟨k1, k2⟩ := List.mem_range'_1.mp hk
      have up : Up (lpIn p (pre.foldl (lpIn p) L) k) (lpOut n L p) := by
        unfold lpOut
        rw [es, List.foldl_append, List.foldl_cons]
        exact up_fold (lpIn p) (up_in p) post _
      have st := lp_step hn hp k1 (by omega) (L := pre.foldl (lpIn p) L) (by rw [lpIn_fold_len, hl]) (Small.of up sm) (short_fold hp pre sh fun i hi => (List.mem_range'_1.mp (es ▸ List.mem_append_left _ hi)).1)
      exact ⟨[.dat (.int n), .own (ltD (pre.foldl (lpIn p) L)), .dat (.int p), .dat (.int k), .un, .un], _, rfl, st, .dat (.int k), by rw [List.foldl_append]; rfl⟩)
    (ρ := [.dat (.int n), .own (ltD L), .dat (.int p), y, .un, .un]) ⟨_, rfl⟩
  exact ⟨y', by rw [e, hy]; rfl⟩
theorem lp_loop {n : Nat} (hn : n ≤ 400) (sm : Small (lp n)) : ∃ x y, sForL (gN 2) (sFor (fRng2 (fCons (fV 2) (fCons (f2 pAdd (fV 0) (fC (.int 1))) (fNil)))) (gN 3) (sLSet 1 (fV 3) (f2 pAdd (fLIx 1 (fV 3)) (fLc (fSeq (fLIx 1 (f2 pSub (fV 3) (fV 2)))) (gN 5) (fYes) (f1 kTup (fStar (fV 5) (fCons (fV 2) (fNil)))) [5])))) ((List.range' 1 n).map fun i : Nat => PyData.int i)
    [.dat (.int n), .own (ltD ([[]] :: List.replicate n [])), .un, .un, .un, .un] = .nx [.dat (.int n), .own (ltD (lp n)), x, y, .un, .un] := by
  obtain ⟨ρ', e, x, y, hy⟩ := forL_pre (fun (pre : List Nat) ρ => ∃ x y, ρ = [.dat (.int n), .own (ltD (pre.foldl (lpOut n) ([[]] :: List.replicate n []))), x, y, .un, .un]) (fun i : Nat => PyData.int i) (xs := List.range' 1 n) (g := gN 2)
    (b := sFor (fRng2 (fCons (fV 2) (fCons (f2 pAdd (fV 0) (fC (.int 1))) (fNil)))) (gN 3) (sLSet 1 (fV 3) (f2 pAdd (fLIx 1 (fV 3)) (fLc (fSeq (fLIx 1 (f2 pSub (fV 3) (fV 2)))) (gN 5) (fYes) (f1 kTup (fStar (fV 5) (fCons (fV 2) (fNil)))) [5]))))
    (fun pre p post ρ es ⟨x, y, e⟩ => by
      subst e
      have hp : p ∈ List.range' 1 n := by rw [es]; exact List.mem_append_right _ List.mem_cons_self
      obtain ⟨p1, p2⟩ := List.mem_range'_1.mp hp
      let L := pre.foldl (lpOut n) ([[]] :: List.replicate n [])
      have ll : L.length = n + 1 := by
        have : ∀ (l : List Nat) (L : List (List Stp)), (l.foldl (lpOut n) L).length = L.length := by
          intro l
          induction l with
          | nil => intro L; rfl
          | cons k l ih => intro L; rw [List.foldl_cons, ih, lpOut_len]
        show (pre.foldl (lpOut n) _).length = _
        rw [this]; simp
      have up : Up (lpOut n L p) (lp n) := by
        unfold lp
        rw [es, List.foldl_append, List.foldl_cons]
        exact up_fold (lpOut n) (up_out n) post _
      obtain ⟨y', e⟩ := lp_inner p1 hn ll (Small.of up sm) (short_outs pre (short_init n) fun i hi => (List.mem_range'_1.mp (es ▸ List.mem_append_left _ hi)).1) (y := y)
      let r : Pu.Env := [.dat (.int n), .own (ltD L), .dat (.int p), y, .un, .un]
      have rg : fRng2 (fCons (fV 2) (fCons (f2 pAdd (fV 0) (fC (.int 1))) (fNil))) r = .ok ((List.range' p (n + 1 - p)).map fun i : Nat => PyData.int i) r := lift1 (as := [.int p, .int ((n + 1 : Nat) : Int)]) (cons_ok (ρ1 := r) rfl (cons_ok (op2 (ρ1 := r) (ρ2 := r) rfl rfl rfl) rfl)) (asRng2_nat (by omega) (by omega))
      exact ⟨r, _, rfl, for_ok rg e, .dat (.int p), y', by rw [List.foldl_append]; rfl⟩)
    (ρ := [.dat (.int n), .own (ltD ([[]] :: List.replicate n [])), .un, .un, .un, .un]) ⟨_, _, rfl⟩
  exact ⟨x, y, by rw [e, hy]; rfl⟩
theorem list_partitions_ok {n : Nat} (hn : n ≤ 400) (sm : Small (lp n)) : m_list_partitions [.int n] = .ok (ltD (lp n)) := by
  obtain ⟨x, y, e⟩ := lp_loop hn sm
  let r : Pu.Env := [.dat (.int n), .un, .un, .un, .un, .un]
  have lc := lc_map (fun i : Nat => PyData.int i) (fun _ => PyData.list []) (fl := fRng1 (fCons (fV 0) (fNil))) (g := gN 4) (e := f1 kLst (fNil)) (vs := [4]) (ρ := r) (ρ0 := r) (ρ' := r) (xs := List.range n) (lift1 (as := [.int n]) rfl (asRng1_nat (by omega))) rfl rfl (by rw [List.length_range]; unfold LIM; omega) fun i hi => ⟨_, [.dat (.int n), .un, .un, .un, .dat (.int i), .un], rfl, op1 rfl kLst_0, rfl⟩
  have el : (List.range n).map (fun _ => PyData.list []) = (List.replicate n ([] : List Stp)).map ptD := by
    rw [List.map_replicate]
    refine List.eq_replicate_iff.mpr ⟨by rw [List.length_map, List.length_range], fun d hd => ?_⟩
    obtain ⟨_, _, rfl⟩ := List.mem_map.mp hd; rfl
  rw [el] at lc
  have g : gCat (.list [.list [.tuple []]]) (.list ((List.replicate n ([] : List Stp)).map ptD)) = some (ltD ([[]] :: List.replicate n [])) := by
    have hl : [PyData.list [.tuple []]].length + ((List.replicate n ([] : List Stp)).map ptD).length ≤ LIM := by rw [List.length_map, List.length_replicate]; show 1 + n ≤ 1000000; omega
    unfold gCat
    simp only [hl, if_true]
    rfl
  have h1 : (f2 gCat (f1 kLst (fCons (f1 kLst (fCons (f1 kTup (fNil)) (fNil))) (fNil))) (fLc (fRng1 (fCons (fV 0) (fNil))) (gN 4) (fYes) (f1 kLst (fNil)) [4])) r = .ok (ltD ([[]] :: List.replicate n [])) r := op2 (op1 (cons_ok (op1 (cons_ok (op1 (ρ1 := r) rfl kTup_0) rfl) (kLst_1 _)) rfl) (kLst_1 _)) lc g
  let r2 : Pu.Env := [.dat (.int n), .own (ltD ([[]] :: List.replicate n [])), .un, .un, .un, .un]
  have h2 : (fRng2 (fCons (fC (.int 1)) (fCons (f2 pAdd (fV 0) (fC (.int 1))) (fNil)))) r2 = .ok ((List.range' 1 (n + 1 - 1)).map fun i : Nat => PyData.int i) r2 := lift1 (as := [.int ((1 : Nat) : Int), .int ((n + 1 : Nat) : Int)]) (cons_ok (ρ1 := r2) rfl (cons_ok (op2 (ρ1 := r2) (ρ2 := r2) rfl rfl rfl) rfl)) (asRng2_nat (by omega) (by omega))
  rw [Nat.add_sub_cancel] at h2
  have h3 : sRet (fV 1) [.dat (.int n), .own (ltD (lp n)), x, y, .un, .un] = .rt (ltD (lp n)) [.dat (.int n), .dat (ltD (lp n)), x, y, .un, .un] := ret_ok rfl
  exact run_rt (g := g_list_partitions) (seq_nx (own_ok h1) (seq_nx (for_ok h2 e) h3))
end Pu
end TS26

section TS27
set_option Elab.async false
set_option linter.all false
set_option maxRecDepth 100000
set_option maxHeartbeats 410000
namespace Pu
open L2 PySem Cm
/-! ### what list_partitions holds -/
structure PartQ (q : Int) (j : Nat) (x : Stp) : Prop where
  up : x.Pairwise (· ≤ ·)
  pos : ∀ v ∈ x, 1 ≤ v
  top : ∀ v ∈ x, v ≤ q
  sum : x.sum = (j : Int)
theorem sum_snoc (x : List Int) (v : Int) : (x ++ [v]).sum = x.sum + v := by
  rw [List.sum_append, List.sum_cons, List.sum_nil, Int.add_zero]
theorem part_snoc {q : Int} {j k : Nat} {x : Stp} (h : PartQ q j x) (hq : 1 ≤ q) (e : (k : Int) = j + q) : PartQ q k (x ++ [q]) := by
  refine ⟨List.pairwise_append.mpr ⟨h.up, List.pairwise_singleton _ _, fun a ha b hb => ?_⟩, fun v hv => ?_, fun v hv => ?_, by rw [sum_snoc, h.sum, e]⟩
  · rw [List.mem_singleton.mp hb]; exact h.top a ha
  · rcases List.mem_append.mp hv with (z | z)
    · exact h.pos v z
    · rw [List.mem_singleton.mp z]; exact hq
  · rcases List.mem_append.mp hv with (z | z)
    · exact h.top v z
    · rw [List.mem_singleton.mp z]; exact Int.le_refl q
theorem part_split {q : Int} {k : Nat} {x : Stp} (h : PartQ q k x) : PartQ (q - 1) k x ∨ ∃ y, x = y ++ [q] ∧ PartQ q (k - q.toNat) y ∧ q.toNat ≤ k := by
  by_cases e : ∀ v ∈ x, v ≤ q - 1
  · exact .inl ⟨h.up, h.pos, e, h.sum⟩
  · right
    rcases List.eq_nil_or_concat x with rfl | ⟨y, v, rfl⟩
    · exact absurd (fun v hv => absurd hv List.not_mem_nil) e
    · rw [List.concat_eq_append] at *
      obtain ⟨p1, _, p3⟩ := List.pairwise_append.mp h.up
      have hv := h.top v (List.mem_append_right _ List.mem_cons_self)
      have h1 := h.pos v (List.mem_append_right _ List.mem_cons_self)
      have eq : v = q := by
        refine Classical.byContradiction fun ne => e fun w hw => ?_
        rcases List.mem_append.mp hw with (z | z)
        · have := p3 w z v List.mem_cons_self; omega
        · rw [List.mem_singleton.mp z]; omega
      subst eq
      have s := h.sum
      rw [sum_snoc] at s
      have py : ∀ w ∈ y, 1 ≤ w := fun w hw => h.pos w (List.mem_append_left _ hw)
      have s0 := (le_sum py).1
      refine ⟨y, rfl, ⟨p1, py, fun w hw => h.top w (List.mem_append_left _ hw), ?_⟩, by omega⟩
      omega
/-- the state ahead of number k, while part q comes in -/
structure Parts (n : Nat) (q k : Nat) (L : List (List Stp)) : Prop where
  len : L.length = n + 1
  nd : ∀ j, j ≤ n → (L.getD j []).Nodup
  mem : ∀ j, j ≤ n → ∀ x, x ∈ L.getD j [] ↔ PartQ (if j < k then (q : Int) else (q : Int) - 1) j x
theorem parts_in {n q k : Nat} {L : List (List Stp)} (h : Parts n q k L) (hq : 1 ≤ q) (hk : q ≤ k) (kn : k ≤ n) : Parts n q (k + 1) (lpIn q L k) := by
  have kl : k < L.length := by rw [h.len]; omega
  refine ⟨by rw [lpIn_len, h.len], fun j hj => ?_, fun j hj x => ?_⟩
  · unfold lpIn
    rw [getD_set]
    split
    · refine List.nodup_append.mpr ⟨h.nd k kn, List.pairwise_map.mpr ((h.nd (k - q) (by omega)).imp fun {a b} ne e => ne (List.append_inj_left' e rfl)), fun a ha b hb e => ?_⟩
      subst e
      obtain ⟨y, hy, rfl⟩ := List.mem_map.mp hb
      have t := ((h.mem k kn _).mp ha).top (q : Int) (List.mem_append_right _ List.mem_cons_self)
      rw [if_neg (Nat.lt_irrefl k)] at t
      omega
    · exact h.nd j hj
  · unfold lpIn
    rw [getD_set]
    by_cases e : k = j
    · subst e
      rw [if_pos ⟨rfl, kl⟩, if_pos (Nat.lt_succ_self k), List.mem_append, h.mem k kn, if_neg (Nat.lt_irrefl k), List.mem_map]
      constructor
      · rintro (z | ⟨y, hy, rfl⟩)
        · exact ⟨z.up, z.pos, fun v hv => by have := z.top v hv; omega, z.sum⟩
        · have z := (h.mem (k - q) (by omega) y).mp hy
          rw [if_pos (by omega)] at z
          exact part_snoc z (by omega) (by omega)
      · intro z
        rcases part_split z with (z | ⟨y, rfl, z, _⟩)
        · exact .inl z
        · rw [Int.toNat_natCast] at z
          exact .inr ⟨y, (h.mem (k - q) (by omega) y).mpr (by rw [if_pos (by omega)]; exact z), rfl⟩
    · rw [if_neg (fun z => e z.1), h.mem j hj]
      by_cases l : j < k
      · rw [if_pos l, if_pos (by omega)]
      · rw [if_neg l, if_neg (by omega)]
theorem parts_fold {n q : Nat} (hq : 1 ≤ q) : ∀ (m k : Nat) {L : List (List Stp)}, q ≤ k → k + m = n + 1 → Parts n q k L → Parts n q (n + 1) ((List.range' k m).foldl (lpIn q) L)
  | 0, k, L, _, e, h => by
    have e : k = n + 1 := e
    subst e
    exact h
  | m + 1, k, L, hk, e, h => by
    rw [List.range'_succ, List.foldl_cons]
    exact parts_fold hq m (k + 1) (by omega) (by omega) (parts_in h hq hk (by omega))
theorem top_sum {q r : Int} {j : Nat} {x : Stp} (h : PartQ q j x) (hr : (j : Int) ≤ r) : PartQ r j x := ⟨h.up, h.pos, fun v hv => by have := (le_sum h.pos).2 v hv; have := h.sum; omega, h.sum⟩
theorem parts_out {n q : Nat} (hq : 1 ≤ q) (qn : q ≤ n) {L : List (List Stp)} (h : Parts n (q - 1) (n + 1) L) : Parts n q (n + 1) (lpOut n L q) := by
  refine parts_fold hq (n + 1 - q) q (Nat.le_refl q) (by omega) ⟨h.len, h.nd, fun j hj x => ?_⟩
  rw [h.mem j hj, if_pos (by omega)]
  by_cases l : j < q
  · rw [if_pos l]
    exact ⟨fun z => top_sum z (by omega), fun z => top_sum z (by omega)⟩
  · rw [if_neg l, show ((q - 1 : Nat) : Int) = (q : Int) - 1 by omega]
theorem parts_outs {n : Nat} : ∀ (m q : Nat) {L : List (List Stp)}, 1 ≤ q → q + m = n + 1 → Parts n (q - 1) (n + 1) L → Parts n n (n + 1) ((List.range' q m).foldl (lpOut n) L)
  | 0, q, L, _, e, h => by
    have e : q = n + 1 := e
    subst e
    exact h
  | m + 1, q, L, hq, e, h => by
    rw [List.range'_succ, List.foldl_cons]
    refine parts_outs m (q + 1) (by omega) (by omega) ?_
    rw [Nat.add_sub_cancel]
    exact parts_out hq (by omega) h
theorem parts_init (n : Nat) : Parts n 0 (n + 1) ([[]] :: List.replicate n []) := by
  have g : ∀ j, ([[]] :: List.replicate n [] : List (List Stp)).getD (j + 1) [] = [] := fun j => by
    rw [List.getD_cons_succ, List.getD_eq_getElem?_getD, List.getElem?_replicate]
    split <;> rfl
  have g0 : ([[]] :: List.replicate n [] : List (List Stp)).getD 0 [] = [[]] := rfl
  refine ⟨by simp, fun j hj => ?_, fun j hj x => ?_⟩
  · cases j with
    | zero => rw [g0]; exact List.nodup_cons.mpr ⟨List.not_mem_nil, List.nodup_nil⟩
    | succ j => rw [g]; exact List.nodup_nil
  · rw [if_pos (by omega)]
    cases j with
    | zero =>
      rw [g0, List.mem_singleton]
      constructor
      · rintro rfl
        exact ⟨List.Pairwise.nil, fun v hv => absurd hv List.not_mem_nil, fun v hv => absurd hv List.not_mem_nil, rfl⟩
      · intro h
        cases x with
        | nil => rfl
        | cons v x =>
          have a := h.pos v List.mem_cons_self
          have b := h.top v List.mem_cons_self
          omega
    | succ j =>
      rw [g]
      refine ⟨fun z => absurd z List.not_mem_nil, fun h => ?_⟩
      exfalso
      cases x with
      | nil => have := h.sum; rw [List.sum_nil] at this; omega
      | cons v x =>
        have a := h.pos v List.mem_cons_self
        have b := h.top v List.mem_cons_self
        omega
/-- a partition of j, its parts ascending -/
structure Part (j : Nat) (x : Stp) : Prop where
  up : x.Pairwise (· ≤ ·)
  pos : ∀ v ∈ x, 1 ≤ v
  sum : x.sum = (j : Int)
theorem lp_parts (n : Nat) : Parts n n (n + 1) (lp n) := parts_outs n 1 (Nat.le_refl 1) (by omega) (parts_init n)
theorem mem_lp {n j : Nat} (hj : j ≤ n) {x : Stp} : x ∈ (lp n).getD j [] ↔ Part j x := by
  rw [(lp_parts n).mem j hj, if_pos (by omega)]
  exact ⟨fun h => ⟨h.up, h.pos, h.sum⟩, fun h => ⟨h.up, h.pos, fun v hv => by have := (le_sum h.pos).2 v hv; have := h.sum; omega, h.sum⟩⟩
theorem nodup_lp {n j : Nat} (hj : j ≤ n) : ((lp n).getD j []).Nodup := (lp_parts n).nd j hj
/-! ### how many: count_partitions -/
def Same (c : List Int) (L : List (List Stp)) : Prop := c = L.map fun P => ((P.length : Nat) : Int)
theorem same_get {c : List Int} {L : List (List Stp)} (h : Same c L) (j : Nat) : c.getD j 0 = (((L.getD j []).length : Nat) : Int) := by
  rw [h, List.getD_eq_getElem?_getD, List.getD_eq_getElem?_getD, List.getElem?_map]
  cases L[j]? <;> rfl
theorem same_in {c : List Int} {L : List (List Stp)} (h : Same c L) (p k : Nat) : Same (cpIn p c k) (lpIn p L k) := by
  unfold Same cpIn lpIn
  rw [List.map_set, List.length_append, List.length_map, same_get h, same_get h, ← h, Int.natCast_add]
theorem same_fold (p : Nat) : ∀ (l : List Nat) {c : List Int} {L : List (List Stp)}, Same c L → Same (l.foldl (cpIn p) c) (l.foldl (lpIn p) L)
  | [], _, _, h => h
  | k :: l, _, _, h => same_fold p l (same_in h p k)
theorem same_outs (n : Nat) : ∀ (l : List Nat) {c : List Int} {L : List (List Stp)}, Same c L → Same (l.foldl (cpOut n) c) (l.foldl (lpOut n) L)
  | [], _, _, h => h
  | p :: l, _, _, h => same_outs n l (same_fold p _ h)
theorem cp_lp (n : Nat) : Same (cp n) (lp n) := same_outs n _ (by unfold Same; rw [List.map_cons, List.map_replicate]; rfl)
theorem cp_sum (n : Nat) : (cp n).sum = (((lp n).flatten.length : Nat) : Int) := by
  rw [cp_lp n, List.length_flatten]
  have : ∀ L : List (List Stp), (L.map fun P => ((P.length : Nat) : Int)).sum = (((L.map List.length).sum : Nat) : Int) := by
    intro L
    induction L with
    | nil => rfl
    | cons P L ih => rw [List.map_cons, List.sum_cons, ih, List.map_cons, List.sum_cons, Int.natCast_add]
  exact this _
theorem small_of {n : Nat} (h : (lp n).flatten.length ≤ LIM) : Small (lp n) := fun j => by
  refine Nat.le_trans ?_ h
  have : ∀ (L : List (List Stp)) (j : Nat), (L.getD j []).length ≤ L.flatten.length := by
    intro L
    induction L with
    | nil => intro j; exact Nat.zero_le _
    | cons P L ih =>
      intro j
      rw [List.flatten_cons, List.length_append]
      cases j with
      | zero => exact Nat.le_add_right _ _
      | succ j => exact Nat.le_trans (ih j) (Nat.le_add_left _ _)
  exact this _ _
end Pu
end TS27

section TS28
set_option Elab.async false
set_option linter.all false
set_option maxRecDepth 100000
set_option maxHeartbeats 410000
namespace Pu
open L2 PySem Cm
/-! ### units, rows that are told by a unit and a partition -/
theorem lc2_map {β γ : Type} (f : β → PyData) (f2 : γ → PyData) (inner : β → List γ) (z : β → γ → PyData) {fl fl1 : M (List PyData)} {g g1 : TM} {e : M PyData} {vs vs1 : List Nat} {ρ ρ0 ρ' : Pu.Env} {xs : List β} (hl : fl ρ = .ok (xs.map f) ρ0) (hw : wipeE ρ0 vs = ρ') (hw2 : wipeE ρ' vs = ρ') (hn : (xs.flatMap inner).length ≤ LIM)
    (h : ∀ x ∈ xs, ∃ ρ1 ρ3 ρ4, g (f x) ρ' = some ρ1 ∧ fl1 ρ1 = .ok ((inner x).map f2) ρ3 ∧ wipeE ρ3 vs1 = ρ4 ∧ wipeE ρ4 vs = ρ' ∧ ∀ y ∈ inner x, ∃ ρ5 ρ6, g1 (f2 y) ρ4 = some ρ5 ∧ e ρ5 = .ok (z x y) ρ6 ∧ wipeE ρ6 vs1 = ρ4) :
    fLc2 fl g fYes fl1 g1 fYes e vs vs1 ρ = .ok (.list (xs.flatMap fun x => (inner x).map (z x))) ρ' := by
  have k := lc2L_map f f2 inner z (acc := []) (by simpa using hn) h
  unfold fLc2
  simp only [M.bind, hl, hw, k, List.nil_append, hw2]
def unitsN (n : Nat) : List Nat := (List.range' 1 (n - 1)).filter fun u => decide (Nat.gcd u n = 1)
abbrev natD (u : Nat) : PyData := .int (u : Nat)
theorem units_ok {n : Nat} (hn : n ≤ 400) : m_units [.int n] = .ok (.list ((unitsN n).map natD)) := by
  let r : Pu.Env := [.dat (.int n), .un]
  have lc := lc_filter natD (fun u => decide (Nat.gcd u n = 1)) natD (fl := fRng2 (fCons (fC (.int 1)) (fCons (fV 0) (fNil)))) (g := gN 1) (t := fTB (f2 pEq (f1 pGcd (fCons (fV 1) (fCons (fV 0) (fNil)))) (fC (.int 1)))) (e := fV 1) (vs := [1]) (ρ := r) (ρ0 := r) (ρ' := r) (xs := List.range' 1 (n - 1)) (lift1 (as := [.int ((1 : Nat) : Int), .int n]) rfl (asRng2_nat (by omega) (by omega))) rfl rfl (by rw [List.length_range']; unfold LIM; omega) fun u hu => by
    let q : Pu.Env := [.dat (.int n), .dat (.int u)]
    have t : fTB (f2 pEq (f1 pGcd (fCons (fV 1) (fCons (fV 0) (fNil)))) (fC (.int 1))) q = .ok (decide (Nat.gcd u n = 1)) q := by
      refine tb_ok (op2 (op1 (cons_ok (ρ1 := q) rfl (cons_ok (ρ1 := q) rfl rfl)) (pGcd_int _ _)) (ρ2 := q) rfl ?_)
      rw [pEq_int, Int.natAbs_natCast, Int.natAbs_natCast]
      congr 2
      apply decide_eq_decide.mpr
      omega
    refine ⟨q, q, rfl, t, ?_⟩
    split
    · exact ⟨q, rfl, rfl⟩
    · rfl
  exact run_rt (g := g_units) (ret_ok lc)
def plainRow (n l u : Nat) (ps : Stp) : List Stp := List.replicate (l - ps.length) [(u : Int)] ++ ps.map fun p => [(u : Int) * (p + 1) % (n : Int)]
def toldRow (n l u : Nat) (ps : Stp) : List Stp := srt (plainRow n l u ps)
theorem plainRow_len {n l u : Nat} {ps : Stp} (h : ps.length ≤ l) : (plainRow n l u ps).length = l := by
  unfold plainRow
  rw [List.length_append, List.length_replicate, List.length_map]; omega
theorem plainRow_ne {n l u : Nat} {ps : Stp} : ∀ s ∈ plainRow n l u ps, s ≠ [] := fun s hs => by
  unfold plainRow at hs
  rcases List.mem_append.mp hs with (z | z)
  · rw [(List.mem_replicate.mp z).2]; exact fun e => nomatch e
  · obtain ⟨p, _, rfl⟩ := List.mem_map.mp z; exact fun e => nomatch e
theorem rep_flat (d : PyData) : ∀ k : Nat, (List.replicate k [d]).flatten = List.replicate k d
  | 0 => rfl
  | k + 1 => by rw [List.replicate_succ, List.flatten_cons, rep_flat d k]; rfl
theorem told_row_ok {n l u : Nat} {ps : Stp} (n1 : 1 ≤ n) (hl : l ≤ 400) (hu : u ≤ 400) (hp : ps.length ≤ l) : m_told_row [.int n, .int l, .int u, tupI ps] = .ok (rowD (toldRow n l u ps)) := by
  let r : Pu.Env := [.dat (.int n), .dat (.int l), .dat (.int u), .dat (tupI ps), .un, .un]
  have k : f2 pSub (fV 1) (f1 pLen (fCons (fV 3) (fNil))) r = .ok (.int ((l - ps.length : Nat) : Int)) r := op2 (ρ1 := r) rfl (op1 (cons_ok (ρ1 := r) rfl rfl) (pLen_tupI ps)) (by rw [pSub_int]; congr 2; omega)
  have mu : pMul (.list [tupI [(u : Int)]]) (.int ((l - ps.length : Nat) : Int)) = some (.list ((List.replicate (l - ps.length) [(u : Int)]).map tupI)) := by
    unfold pMul
    dsimp only
    rw [if_pos ⟨by omega, by omega, by rw [Int.toNat_natCast]; show 1 * (l - ps.length) ≤ 1000000; omega⟩, Int.toNat_natCast, rep_flat, List.map_replicate]
  have a : f2 pMul (f1 kLst (fCons (f1 kTup (fCons (fV 2) (fNil))) (fNil))) (f2 pSub (fV 1) (f1 pLen (fCons (fV 3) (fNil)))) r = .ok (.list ((List.replicate (l - ps.length) [(u : Int)]).map tupI)) r := op2 (op1 (cons_ok (op1 (cons_ok (ρ1 := r) rfl rfl) (kTup_1 _)) rfl) (kLst_1 _)) k mu
  have lc := lc_map PyData.int (fun p => tupI [(u : Int) * (p + 1) % (n : Int)]) (fl := fSeq (fV 3)) (g := gN 5) (e := f1 kTup (fCons (f2 pMod (f2 pMul (fV 2) (f2 pAdd (fV 5) (fC (.int 1)))) (fV 0)) (fNil))) (vs := [5]) (ρ := r) (ρ0 := r) (ρ' := r) (xs := ps) rfl rfl rfl (by unfold LIM; omega) fun p hp => by
    let q : Pu.Env := [.dat (.int n), .dat (.int l), .dat (.int u), .dat (tupI ps), .un, .dat (.int p)]
    have m : pMul (.int u) (.int (p + 1)) = some (.int ((u : Int) * (p + 1))) := by
      unfold pMul
      exact if_pos (Or.inl ⟨by omega, by omega⟩)
    exact ⟨q, q, rfl, op1 (cons_ok (op2 (op2 (ρ1 := q) rfl (op2 (ρ1 := q) (ρ2 := q) rfl rfl rfl) m) (ρ2 := q) rfl (pMod_int _ (by omega))) rfl) (kTup_1 _), rfl⟩
  have e : (.list ((List.replicate (l - ps.length) [(u : Int)]).map tupI ++ ps.map fun p => tupI [(u : Int) * (p + 1) % (n : Int)]) : PyData) = .list ((plainRow n l u ps).map tupI) := by
    unfold plainRow
    rw [List.map_append, List.map_map]; rfl
  have ad := pAdd_lst (xs := (List.replicate (l - ps.length) [(u : Int)]).map tupI) (ys := ps.map fun p => tupI [(u : Int) * (p + 1) % (n : Int)]) (by rw [List.length_map, List.length_map, List.length_replicate]; unfold LIM; omega)
  rw [e] at ad
  have ps1 := pSorted_tups (ks := plainRow n l u ps) (by rw [plainRow_len hp]; unfold LIM; omega) plainRow_ne
  have fin : sAsg (f2 pAdd (f2 pMul (f1 kLst (fCons (f1 kTup (fCons (fV 2) (fNil))) (fNil))) (f2 pSub (fV 1) (f1 pLen (fCons (fV 3) (fNil))))) (fLc (fSeq (fV 3)) (gN 5) (fYes) (f1 kTup (fCons (f2 pMod (f2 pMul (fV 2) (f2 pAdd (fV 5) (fC (.int 1)))) (fV 0)) (fNil))) [5])) (gN 4) r = .nx [.dat (.int n), .dat (.int l), .dat (.int u), .dat (tupI ps), .dat (.list ((plainRow n l u ps).map tupI)), .un] := asg_ok (i := 4) (op2 a lc ad)
  exact run_rt (g := g_told_row) (seq_nx fin (ret_ok (op1 (cons_ok (op1 (cons_ok rfl rfl) ps1) rfl) (pTuple_l _))))
def rowsL (n l : Nat) (W : List Stp) : List (List Stp) := (unitsN n).flatMap fun u => W.map (toldRow n l u)
theorem rowsL_len (n l : Nat) (W : List Stp) : (rowsL n l W).length = (unitsN n).length * W.length := by
  unfold rowsL
  rw [List.length_flatMap]
  induction unitsN n with
  | nil => simp
  | cons u us ih => rw [List.map_cons, List.sum_cons, ih, List.length_map, List.length_cons, Nat.succ_mul, Nat.add_comm]
theorem toldRow_len {n l u : Nat} {ps : Stp} (h : ps.length ≤ l) : (toldRow n l u ps).length = l := by
  unfold toldRow srt
  rw [isort_len, plainRow_len h]
theorem unit_le {n u : Nat} (h : u ∈ unitsN n) : 1 ≤ u ∧ u < n ∧ Nat.gcd u n = 1 := by
  obtain ⟨a, b⟩ := List.mem_filter.mp h
  obtain ⟨c, d⟩ := List.mem_range'_1.mp a
  exact ⟨c, by omega, of_decide_eq_true b⟩
theorem told_rows_ok {n l : Nat} {W : List Stp} (n1 : 1 ≤ n) (hn : n ≤ 400) (l1 : 1 ≤ l) (hl : l ≤ 400) (hW : ∀ ps ∈ W, ps.length ≤ l) (hm : (unitsN n).length * W.length ≤ LIM) : m_told_rows [.int n, .int l, .list (W.map tupI)] = .ok (.tuple ((srtR (rowsL n l W)).map rowD)) := by
  let r : Pu.Env := [.dat (.int n), .dat (.int l), .dat (.list (W.map tupI)), .un, .un, .un]
  have fl : ((unitsN n).flatMap fun _ => W).length ≤ LIM := by
    refine Nat.le_trans (Nat.le_of_eq ?_) hm
    rw [List.length_flatMap]
    clear hm
    induction unitsN n with
    | nil => simp
    | cons u us ih => rw [List.map_cons, List.sum_cons, ih, List.length_cons, Nat.succ_mul, Nat.add_comm]
  have sq : fSeq (fCall m_units (fCons (fV 0) (fNil))) r = .ok ((unitsN n).map natD) r := by
    have c : fCall m_units (fCons (fV 0) (fNil)) r = .ok (.list ((unitsN n).map natD)) r := call_ok (cons_ok (ρ1 := r) rfl rfl) (units_ok hn)
    simp only [fSeq, M.bind, c, asSeq_lst, M.lift]
  have lc := lc2_map natD tupI (fun _ => W) (fun u ps => rowD (toldRow n l u ps)) (fl := fSeq (fCall m_units (fCons (fV 0) (fNil)))) (fl1 := fSeq (fV 2)) (g := gN 4) (g1 := gN 5) (e := fCall m_told_row (fCons (fV 0) (fCons (fV 1) (fCons (fV 4) (fCons (fV 5) (fNil)))))) (vs := [4, 5]) (vs1 := [5]) (ρ := r) (ρ0 := r) (ρ' := r) sq rfl rfl fl fun u hu => by
    let q : Pu.Env := [.dat (.int n), .dat (.int l), .dat (.list (W.map tupI)), .un, .dat (.int u), .un]
    refine ⟨q, q, q, rfl, rfl, rfl, rfl, fun ps hps => ?_⟩
    let q2 : Pu.Env := [.dat (.int n), .dat (.int l), .dat (.list (W.map tupI)), .un, .dat (.int u), .dat (tupI ps)]
    have ub := unit_le hu
    exact ⟨q2, q2, rfl, call_ok (cons_ok (ρ1 := q2) rfl (cons_ok (ρ1 := q2) rfl (cons_ok (ρ1 := q2) rfl (cons_ok (ρ1 := q2) rfl rfl)))) (told_row_ok n1 hl (by omega) (hW ps hps)), rfl⟩
  have e : (unitsN n).flatMap (fun u => W.map fun ps => rowD (toldRow n l u ps)) = (rowsL n l W).map rowD := by
    unfold rowsL
    rw [List.map_flatMap]
    congr 1
    funext u
    rw [List.map_map]; rfl
  rw [e] at lc
  have ne : ∀ x ∈ rowsL n l W, x ≠ [] := fun x hx e => by
    obtain ⟨u, _, hx⟩ := List.mem_flatMap.mp hx
    obtain ⟨ps, hps, rfl⟩ := List.mem_map.mp hx
    have := toldRow_len (n := n) (u := u) (hW ps hps)
    rw [e, List.length_nil] at this
    omega
  have so := pSorted_rows (R := rowsL n l W) (by rw [rowsL_len]; exact hm) ne
  exact run_rt (g := g_told_rows) (seq_nx (asg_ok (i := 3) lc) (ret_ok (op1 (cons_ok (op1 (cons_ok rfl rfl) so) rfl) (pTuple_l _))))
/-! ### checks -/
theorem check_number_ok' {rz : Rz} {v lo hi : Int} (h0 : lo ≤ v) (h1 : v ≤ hi) {fa fb fc : M PyData} {r : Pu.Env} (ha : fa r = .ok (.int v) r) (hb : fb r = .ok (.int lo) r) (hc : fc r = .ok (.int hi) r) : fCall (m_check_number rz) (fCons fa (fCons fb (fCons fc fNil))) r = .ok .none r := call_ok (cons_ok ha (cons_ok hb (cons_ok hc rfl))) (check_number_ok h0 h1)
theorem check_places_ok {rz : Rz} {n : Nat} (h0 : 2 ≤ n) (h1 : n ≤ 400) : m_check_places rz [.int n] = .ok .none := run_nx (g := g_check_places rz) (drop_ok (check_number_ok' (r := [.dat (.int n)]) (v := n) (lo := 2) (hi := 400) (by omega) (by omega) rfl rfl rfl))
theorem check_steps_ok {rz : Rz} {l : Nat} {lo : Int} (h0 : lo ≤ l) (h1 : l ≤ 400) : m_check_steps rz [.int l, .int lo] = .ok .none := run_nx (g := g_check_steps rz) (drop_ok (check_number_ok' (r := [.dat (.int l), .dat (.int lo)]) (v := l) (lo := lo) (hi := 400) h0 (by omega) rfl rfl rfl))
theorem half_ok (n : Nat) : pDiv (.int n) (.int 2) = some (.int ((n / 2 : Nat) : Int)) := by
  unfold pDiv
  exact if_pos ⟨by decide, by decide⟩
theorem least_long_ok (n : Nat) : m_least_long [.int n] = .ok (.int ((n / 2 + 1 : Nat) : Int)) := run_rt (g := g_least_long) (ret_ok (ρ := [.dat (.int n)]) (op2 (op2 (ρ1 := [.dat (.int n)]) rfl rfl (half_ok n)) (ρ2 := [.dat (.int n)]) rfl rfl))
theorem least_round_ok (n : Nat) : m_least_round [.int n] = .ok (.int ((n / 2 + 2 : Nat) : Int)) := run_rt (g := g_least_round) (ret_ok (ρ := [.dat (.int n)]) (op2 (op2 (ρ1 := [.dat (.int n)]) rfl rfl (half_ok n)) (ρ2 := [.dat (.int n)]) rfl rfl))
theorem check_rows_ok {rz : Rz} {k : Nat} (h : k ≤ 5000) : m_check_rows rz [.int k] = .ok .none := run_nx (g := g_check_rows rz) (if_no (tb_ok (op2 (ρ1 := [.dat (.int k)]) (ρ2 := [.dat (.int k)]) rfl rfl (by rw [pGt_int, decide_eq_false (by omega)]))) rfl)
/-! ### count_long, long_rows -/
def longN (n l : Nat) : Nat := if n ≤ l then 0 else (unitsN n).length * (lp (n - 1 - l)).flatten.length
theorem mul_nat (a b : Nat) (h : a ≤ 400) : pMul (.int a) (.int b) = some (.int ((a * b : Nat) : Int)) := by
  unfold pMul
  rw [Int.natCast_mul]
  exact if_pos (Or.inl ⟨by omega, by omega⟩)
theorem units_len (n : Nat) : (unitsN n).length ≤ n - 1 := by
  unfold unitsN
  refine Nat.le_trans (List.length_filter_le _ _) ?_
  rw [List.length_range']; exact Nat.le_refl _
theorem pSum_ints (vs : List Int) : pSum [.list (vs.map .int)] = some (.int vs.sum) := by
  show (asInts (vs.map .int)).map _ = _
  rw [asInts_map]; rfl
theorem count_long_ok {rz : Rz} {n l : Nat} (n2 : 2 ≤ n) (hn : n ≤ 400) (l1 : n / 2 + 1 ≤ l) (hl : l ≤ 400) : m_count_long rz [.int n, .int l] = .ok (.int (longN n l : Nat)) := by
  let r : Pu.Env := [.dat (.int n), .dat (.int l)]
  have c1 : sDrop (fCall (m_check_places rz) (fCons (fV 0) (fNil))) r = .nx r := drop_ok (call_ok (cons_ok (ρ1 := r) rfl rfl) (check_places_ok n2 hn))
  have c2 : sDrop (fCall (m_check_steps rz) (fCons (fV 1) (fCons (fCall m_least_long (fCons (fV 0) (fNil))) (fNil)))) r = .nx r := drop_ok (call_ok (cons_ok (ρ1 := r) rfl (cons_ok (call_ok (cons_ok (ρ1 := r) rfl rfl) (least_long_ok n)) rfl)) (check_steps_ok (by omega) hl))
  have t : fTB (f2 pGe (fV 1) (fV 0)) r = .ok (decide ((n : Int) ≤ l)) r := tb_ok (op2 (ρ1 := r) (ρ2 := r) rfl rfl (pGe_int _ _))
  unfold longN
  by_cases e : n ≤ l
  · rw [decide_eq_true (by omega)] at t
    rw [if_pos e]
    exact run_rt (g := g_count_long rz) (seq_nx c1 (seq_nx c2 (seq_rt (if_yes t (ret_ok (ρ := r) rfl)))))
  · rw [decide_eq_false (by omega)] at t
    rw [if_neg e]
    have ul := units_len n
    have a1 : f1 pLen (fCons (fCall m_units (fCons (fV 0) (fNil))) (fNil)) r = .ok (.int ((unitsN n).length : Nat)) r := op1 (cons_ok (call_ok (cons_ok (ρ1 := r) rfl rfl) (units_ok hn)) rfl) (by rw [pLen_lst, List.length_map])
    have a2 : f2 pSub (f2 pSub (fV 0) (fC (.int 1))) (fV 1) r = .ok (.int ((n - 1 - l : Nat) : Int)) r := op2 (op2 (ρ1 := r) (ρ2 := r) rfl rfl rfl) (ρ2 := r) rfl (by rw [pSub_int]; congr 2; omega)
    have a3 : f1 pSum (fCons (fCall m_count_partitions (fCons (f2 pSub (f2 pSub (fV 0) (fC (.int 1))) (fV 1)) (fNil))) (fNil)) r = .ok (.int ((lp (n - 1 - l)).flatten.length : Nat)) r := op1 (cons_ok (call_ok (cons_ok a2 rfl) (count_partitions_ok (by omega))) rfl) (by rw [pSum_ints, cp_sum])
    exact run_rt (g := g_count_long rz) (seq_nx c1 (seq_nx c2 (seq_nx (if_no t rfl) (ret_ok (op2 a1 a3 (mul_nat _ _ (by omega)))))))
theorem ext_ok {i : Nat} {f : M PyData} {ds es : List PyData} {r r1 : Pu.Env} (h0 : r[i]? = some (.own (.list ds))) (h : f r = .ok (.list es) r1) (h1 : r1[i]? = some (.own (.list ds))) (hn : ds.length + es.length ≤ LIM) : sExt i f r = .nx (r1.set i (.own (.list (ds ++ es)))) := by
  unfold sExt sE needL
  rw [h0]
  dsimp only
  rw [h]
  dsimp only
  rw [h1]
  dsimp only
  rw [if_pos hn]
theorem long_part {n l : Nat} {ps : Stp} (hl : l < n) (l1 : n / 2 + 1 ≤ l) (h : ps ∈ (lp (n - 1 - l)).flatten) : ∃ j, j ≤ n - 1 - l ∧ Part j ps := by
  obtain ⟨P, hP, hx⟩ := List.mem_flatten.mp h
  obtain ⟨j, hj, e⟩ := List.getElem_of_mem hP
  rw [lp_len] at hj
  refine ⟨j, by omega, (mem_lp (n := n - 1 - l) (by omega)).mp ?_⟩
  rw [List.getD_eq_getElem?_getD, List.getElem?_eq_getElem (by rw [lp_len]; exact hj), e]
  exact hx
theorem part_len {j : Nat} {ps : Stp} (h : Part j ps) : ps.length ≤ j := by
  have key : ∀ {ps : Stp}, (∀ v ∈ ps, 1 ≤ v) → ((ps.length : Nat) : Int) ≤ ps.sum := by
    intro ps
    induction ps with
    | nil => intro _; exact Int.le_refl 0
    | cons v ps ih =>
      intro h
      have a := h v List.mem_cons_self
      have b := ih fun w hw => h w (List.mem_cons_of_mem _ hw)
      rw [List.length_cons, List.sum_cons]; omega
  have := key h.pos
  have := h.sum
  omega
theorem long_rows_ok {rz : Rz} {n l : Nat} (n2 : 2 ≤ n) (hn : n ≤ 400) (l1 : n / 2 + 1 ≤ l) (hl : l ≤ 400) (few : longN n l ≤ 5000) : m_long_rows rz [.int n, .int l] = .ok (.tuple ((if n ≤ l then [] else srtR (rowsL n l (lp (n - 1 - l)).flatten)).map rowD)) := by
  let r : Pu.Env := [.dat (.int n), .dat (.int l), .un, .un]
  have c1 : sDrop (fCall (m_check_rows rz) (fCons (fCall (m_count_long rz) (fCons (fV 0) (fCons (fV 1) (fNil)))) (fNil))) r = .nx r := drop_ok (call_ok (cons_ok (call_ok (cons_ok (ρ1 := r) rfl (cons_ok (ρ1 := r) rfl rfl)) (count_long_ok n2 hn l1 hl)) rfl) (check_rows_ok few))
  have t : fTB (f2 pGe (fV 1) (fV 0)) r = .ok (decide ((n : Int) ≤ l)) r := tb_ok (op2 (ρ1 := r) (ρ2 := r) rfl rfl (pGe_int _ _))
  by_cases e : n ≤ l
  · rw [decide_eq_true (by omega)] at t
    rw [if_pos e]
    exact run_rt (g := g_long_rows rz) (seq_nx c1 (seq_rt (if_yes t (ret_ok (ρ := r) (op1 rfl kTup_0)))))
  · rw [decide_eq_false (by omega)] at t
    rw [if_neg e]
    unfold longN at few
    rw [if_neg e] at few
    let m := n - 1 - l
    have u1 : 1 ≤ (unitsN n).length := by
      have : 1 ∈ unitsN n := List.mem_filter.mpr ⟨List.mem_range'_1.mpr ⟨Nat.le_refl 1, by omega⟩, decide_eq_true (Nat.gcd_one_left n)⟩
      exact List.length_pos_iff.mpr (List.ne_nil_of_mem this)
    have fl : (lp m).flatten.length ≤ 5000 := Nat.le_trans (Nat.le_mul_of_pos_left _ u1) few
    have sm : Small (lp m) := small_of (by unfold LIM; omega)
    have own : sOwn (f1 kLst (fNil)) 2 r = .nx [.dat (.int n), .dat (.int l), .own (.list []), .un] := own_ok (ρ1 := r) (op1 (ρ1 := r) rfl kLst_0)
    let r2 : Pu.Env := [.dat (.int n), .dat (.int l), .own (.list []), .un]
    have a2 : f2 pSub (f2 pSub (fV 0) (fC (.int 1))) (fV 1) r2 = .ok (.int ((m : Nat) : Int)) r2 := op2 (op2 (ρ1 := r2) (ρ2 := r2) rfl rfl rfl) (ρ2 := r2) rfl (by rw [pSub_int]; congr 2; omega)
    have sq : fSeq (fCall m_list_partitions (fCons (f2 pSub (f2 pSub (fV 0) (fC (.int 1))) (fV 1)) (fNil))) r2 = .ok ((lp m).map ptD) r2 := by
      have c : fCall m_list_partitions (fCons (f2 pSub (f2 pSub (fV 0) (fC (.int 1))) (fV 1)) (fNil)) r2 = .ok (ltD (lp m)) r2 := call_ok (cons_ok a2 rfl) (list_partitions_ok (by omega) sm)
      simp only [fSeq, M.bind, c, asSeq_lst, M.lift]
    obtain ⟨ρ', e1, x, hx⟩ := forL_pre (fun (pre : List (List Stp)) ρ => ∃ x, ρ = [.dat (.int n), .dat (.int l), .own (.list (pre.flatten.map tupI)), x]) ptD (xs := lp m) (g := gN 3) (b := sExt 2 (fV 3))
      (fun pre P post ρ es ⟨x, e⟩ => by
        subst e
        let q : Pu.Env := [.dat (.int n), .dat (.int l), .own (.list (pre.flatten.map tupI)), .dat (ptD P)]
        have ll : (pre.flatten.map tupI).length + (P.map tupI).length ≤ LIM := by
          rw [es, List.flatten_append, List.flatten_cons, List.length_append, List.length_append] at fl
          rw [List.length_map, List.length_map]; unfold LIM; omega
        refine ⟨q, _, rfl, ext_ok (i := 2) (r := q) (r1 := q) (f := fV 3) (ds := pre.flatten.map tupI) (es := P.map tupI) rfl rfl rfl ll, .dat (ptD P), ?_⟩
        rw [List.flatten_append, List.flatten_cons, List.flatten_nil, List.append_nil, List.map_append]; rfl)
      (ρ := r2) ⟨_, rfl⟩
    subst hx
    have last : sRet (fCall m_told_rows (fCons (fV 0) (fCons (fV 1) (fCons (fV 2) (fNil))))) [.dat (.int n), .dat (.int l), .own (.list ((lp m).flatten.map tupI)), x] = .rt (.tuple ((srtR (rowsL n l (lp m).flatten)).map rowD)) [.dat (.int n), .dat (.int l), .dat (.list ((lp m).flatten.map tupI)), x] :=
      ret_ok (call_ok (cons_ok rfl (cons_ok rfl (cons_ok rfl rfl))) (told_rows_ok (by omega) hn (by omega) hl (fun ps hps => by
        obtain ⟨j, hj, pj⟩ := long_part (by omega) l1 hps
        have := part_len pj
        omega) (Nat.le_trans few (by unfold LIM; omega))))
    exact run_rt (g := g_long_rows rz) (seq_nx c1 (seq_nx (if_no t rfl) (seq_nx own (seq_nx (for_ok sq e1) last))))
end Pu
end TS28

section TS29
set_option Elab.async false
set_option linter.all false
set_option maxRecDepth 100000
set_option maxHeartbeats 410000
namespace Pu
open L2 PySem Cm
/-! ### round one wheel -/
abbrev wh (n : Nat) : List Int := [(n : Int)]
theorem okW1 {n : Nat} (h2 : 2 ≤ n) (hn : n ≤ 400) : okW (wh n) := ⟨Nat.le_refl 1, by show 1 ≤ 3; omega, fun w hw => by rw [List.mem_singleton.mp hw]; omega, by show (1 : Int) * n ≤ 400; omega⟩
theorem ok1 {n : Nat} {s : Stp} : okS (wh n) s ↔ ∃ v : Nat, v < n ∧ s = [(v : Int)] := by
  constructor
  · intro h
    match s, h with
    | [x], h =>
      obtain ⟨a, b, _⟩ := h
      exact ⟨x.toNat, by omega, by rw [Int.toNat_of_nonneg a]⟩
    | [], h => exact h.elim
    | _ :: _ :: _, h => exact h.2.2.elim
  · rintro ⟨v, hv, rfl⟩
    exact ⟨by omega, by omega, trivial⟩
theorem size1 (n : Nat) : sizeN (wh n) = n := by
  unfold sizeN wh
  show 1 * (n : Int).toNat = n
  omega
theorem mul1 {n : Nat} (n1 : 1 ≤ n) {v : Nat} (hv : v < n) (k : Nat) : mulS (wh n) [(v : Int)] k = [(v : Int) * k % n] := by
  rw [← times_mul (ok1.mpr ⟨v, hv, rfl⟩)]; rfl
theorem ord1 {n : Nat} (h2 : 2 ≤ n) (hn : n ≤ 400) {v : Nat} (hv : v < n) : ordN (wh n) [(v : Int)] = n / Nat.gcd v n := by
  show Nat.lcm 1 ((n : Int) / ((Nat.gcd (v : Int).natAbs (n : Int).natAbs : Nat) : Int)).natAbs = _
  rw [part_nat (by omega) (by omega), Nat.lcm_one_left, Int.natAbs_natCast, Int.natAbs_natCast]
theorem ord_unit {n : Nat} (h2 : 2 ≤ n) (hn : n ≤ 400) {u : Nat} (hu : u ∈ unitsN n) : ordN (wh n) [(u : Int)] = n := by
  obtain ⟨a, b, c⟩ := unit_le hu
  rw [ord1 h2 hn b, c, Nat.div_one]
/-- a long multiple's step is a unit -/
theorem unit_of {n : Nat} (h2 : 2 ≤ n) (hn : n ≤ 400) {v : Nat} (hv : v < n) (h : n / 2 < ordN (wh n) [(v : Int)]) : v ∈ unitsN n := by
  rw [ord1 h2 hn hv] at h
  have g0 : 0 < Nat.gcd v n := Nat.gcd_pos_of_pos_right v (by omega)
  have g1 : Nat.gcd v n = 1 := by
    rcases Nat.lt_or_ge (Nat.gcd v n) 2 with (l | l)
    · omega
    · have : n / Nat.gcd v n ≤ n / 2 := Nat.div_le_div_left l (by omega)
      omega
  have v1 : 1 ≤ v := by
    rcases Nat.eq_zero_or_pos v with (rfl | l)
    · rw [Nat.gcd_zero_left] at g1; omega
    · exact l
  exact List.mem_filter.mpr ⟨List.mem_range'_1.mpr ⟨v1, by omega⟩, decide_eq_true g1⟩
theorem perm_sum {a b : List Int} (p : a.Perm b) : a.sum = b.sum := by
  induction p with
  | nil => rfl
  | cons x p ih => rw [List.sum_cons, List.sum_cons, ih]
  | swap x y l => rw [List.sum_cons, List.sum_cons, List.sum_cons, List.sum_cons]; omega
  | trans p q h k => exact h.trans k
/-! ### told rows, and their integers -/
def timesL (l : Nat) (ps : Stp) : List Int := List.replicate (l - ps.length) 1 ++ ps.map (· + 1)
theorem sum_rep (k : Nat) : (List.replicate k (1 : Int)).sum = k := by
  induction k with
  | zero => rfl
  | succ k ih => rw [List.replicate_succ, List.sum_cons, ih]; omega
theorem sum_up (ps : Stp) : (ps.map (· + 1)).sum = ps.sum + ps.length := by
  induction ps with
  | nil => rfl
  | cons p ps ih => rw [List.map_cons, List.sum_cons, List.sum_cons, ih, List.length_cons]; omega
theorem timesL_sum {l : Nat} {ps : Stp} (h : ps.length ≤ l) : (timesL l ps).sum = l + ps.sum := by
  unfold timesL
  rw [List.sum_append, sum_rep, sum_up]; omega
theorem timesL_pos {l : Nat} {ps : Stp} (h : ∀ v ∈ ps, 1 ≤ v) : ∀ v ∈ timesL l ps, 1 ≤ v := fun v hv => by
  rcases List.mem_append.mp hv with (z | z)
  · rw [(List.mem_replicate.mp z).2]; exact Int.le_refl 1
  · obtain ⟨p, hp, rfl⟩ := List.mem_map.mp z
    have := h p hp
    omega
theorem plain_times {n l u : Nat} {ps : Stp} (n1 : 1 ≤ n) (hu : u < n) (h : ∀ v ∈ ps, 1 ≤ v) : plainRow n l u ps = (timesL l ps).map fun v => mulS (wh n) [(u : Int)] v.toNat := by
  unfold plainRow timesL
  rw [List.map_append, List.map_replicate, List.map_map]
  congr 1
  · congr 1
    show _ = mulS (wh n) [(u : Int)] 1
    rw [mul1 n1 hu, show (u : Int) * ((1 : Nat) : Int) = u by omega, Int.emod_eq_of_lt (by omega) (by omega)]
  · refine List.map_congr_left fun p hp => ?_
    have := h p hp
    show _ = mulS (wh n) [(u : Int)] (p + 1).toNat
    rw [mul1 n1 hu, Int.toNat_of_nonneg (by omega)]
theorem tell_perm {ws : List Int} {u : Stp} {S T : List Stp} {vs : List Int} (t : TellI ws u S vs) (p : T.Perm S) : ∃ vs', TellI ws u T vs' ∧ vs'.Perm vs := by
  rw [t.row] at p
  obtain ⟨L, q, e⟩ := perm_back (fun v : Int => mulS ws u v.toNat) p
  exact ⟨L, ⟨fun v hv => t.pos v (q.subset hv), e, by rw [perm_sum q]; exact t.low⟩, q⟩
theorem told_tell {n l u : Nat} {ps : Stp} (h2 : 2 ≤ n) (hn : n ≤ 400) (hu : u ∈ unitsN n) (h : ∀ v ∈ ps, 1 ≤ v) (hl : ps.length ≤ l) (hs : (l : Int) + ps.sum < n) : ∃ vs, TellI (wh n) [(u : Int)] (toldRow n l u ps) vs ∧ vs.Perm (timesL l ps) := by
  have t : TellI (wh n) [(u : Int)] (plainRow n l u ps) (timesL l ps) := ⟨timesL_pos h, plain_times (by omega) (unit_le hu).2.1 h, by rw [timesL_sum hl, ord_unit h2 hn hu]; exact hs⟩
  exact tell_perm t (isort_perm' leL _)
theorem plain_ok {n l u : Nat} {ps : Stp} (h2 : 2 ≤ n) (hn : n ≤ 400) (hu : u < n) (h : ∀ v ∈ ps, 1 ≤ v) : ∀ s ∈ plainRow n l u ps, okS (wh n) s := fun s hs => by
  rw [plain_times (by omega) hu h] at hs
  obtain ⟨v, _, rfl⟩ := List.mem_map.mp hs
  exact mulS_ok (okW1 h2 hn).wpos (ok1.mpr ⟨u, hu, rfl⟩) _
theorem told_okS {n l u : Nat} {ps : Stp} (h2 : 2 ≤ n) (hn : n ≤ 400) (hu : u < n) (h : ∀ v ∈ ps, 1 ≤ v) : ∀ s ∈ toldRow n l u ps, okS (wh n) s := fun s hs => plain_ok h2 hn hu h s ((isort_perm' leL _).subset hs)
def leI (a b : Int) : Bool := decide (a ≤ b)
theorem leI_le : PySem.W.TotalLe leI := ⟨fun a b c h k => decide_eq_true (Int.le_trans (of_decide_eq_true h) (of_decide_eq_true k)), fun a b => (Int.le_total a b).imp decide_eq_true decide_eq_true⟩
theorem leI_anti (a b : Int) (h : leI a b = true) (k : leI b a = true) : a = b := Int.le_antisymm (of_decide_eq_true h) (of_decide_eq_true k)
theorem up_one {a b : Stp} (ha : a.Pairwise (· ≤ ·)) (hb : b.Pairwise (· ≤ ·)) (p : a.Perm b) : a = b := order_one leI_anti (ha.imp fun h => decide_eq_true h) (hb.imp fun h => decide_eq_true h) p
/-- the parts back from the integers -/
def partsOf (vs : List Int) : Stp := isort leI ((vs.filter fun v => decide (2 ≤ v)).map (· - 1))
theorem parts_up (vs : List Int) : (partsOf vs).Pairwise (· ≤ ·) := (isort_pw leI_le _).imp fun h => of_decide_eq_true h
theorem parts_perm (vs : List Int) : (partsOf vs).Perm ((vs.filter fun v => decide (2 ≤ v)).map (· - 1)) := isort_perm' leI _
theorem filter_rest : ∀ {vs : List Int}, (∀ v ∈ vs, 1 ≤ v) → vs.Perm (List.replicate (vs.length - (vs.filter fun v => decide (2 ≤ v)).length) 1 ++ vs.filter fun v => decide (2 ≤ v))
  | [], _ => .refl _
  | v :: vs, h => by
    have ih := filter_rest fun w hw => h w (List.mem_cons_of_mem v hw)
    have h1 := h v List.mem_cons_self
    have fl := List.length_filter_le (fun v : Int => decide (2 ≤ v)) vs
    by_cases e : 2 ≤ v
    · rw [List.filter_cons_of_pos (p := fun v : Int => decide (2 ≤ v)) (decide_eq_true e), List.length_cons, List.length_cons, show vs.length + 1 - ((vs.filter fun v => decide (2 ≤ v)).length + 1) = vs.length - (vs.filter fun v => decide (2 ≤ v)).length by omega]
      exact (ih.cons v).trans List.perm_middle.symm
    · have : v = 1 := by omega
      subst this
      rw [List.filter_cons_of_neg (p := fun v : Int => decide (2 ≤ v)) (by simp), List.length_cons, show vs.length + 1 - (vs.filter fun v => decide (2 ≤ v)).length = (vs.length - (vs.filter fun v => decide (2 ≤ v)).length) + 1 by omega, List.replicate_succ, List.cons_append]
      exact ih.cons 1
theorem parts_times {vs : List Int} (h : ∀ v ∈ vs, 1 ≤ v) : vs.Perm (timesL vs.length (partsOf vs)) := by
  have len : (partsOf vs).length = (vs.filter fun v => decide (2 ≤ v)).length := by rw [(parts_perm vs).length_eq, List.length_map]
  unfold timesL
  rw [len]
  refine (filter_rest h).trans (List.Perm.append_left _ ?_)
  have p := (parts_perm vs).map (· + 1)
  rw [List.map_map] at p
  have e : (vs.filter fun v => decide (2 ≤ v)).map ((fun x : Int => x + 1) ∘ fun x => x - 1) = vs.filter fun v => decide (2 ≤ v) := by
    conv => rhs; rw [← List.map_id (vs.filter fun v => decide (2 ≤ v))]
    refine List.map_congr_left fun v _v => ?_
    show v - 1 + 1 = v
    omega
  rw [e] at p
  exact p.symm
theorem parts_pos (vs : List Int) : ∀ v ∈ partsOf vs, 1 ≤ v := fun v hv => by
  obtain ⟨w, hw, rfl⟩ := List.mem_map.mp ((parts_perm vs).subset hv)
  have := of_decide_eq_true (List.mem_filter.mp hw).2
  omega
theorem parts_len (vs : List Int) : (partsOf vs).length ≤ vs.length := by
  rw [(parts_perm vs).length_eq, List.length_map]
  exact List.length_filter_le _ _
theorem parts_sum {vs : List Int} (h : ∀ v ∈ vs, 1 ≤ v) : (partsOf vs).sum = vs.sum - vs.length := by
  have := perm_sum (parts_times h)
  rw [timesL_sum (parts_len vs)] at this
  omega
theorem timesL_back {l : Nat} {ps : Stp} (hu : ps.Pairwise (· ≤ ·)) (h : ∀ v ∈ ps, 1 ≤ v) {vs : List Int} (p : vs.Perm (timesL l ps)) : partsOf vs = ps := by
  refine up_one (parts_up vs) hu ((parts_perm vs).trans ?_)
  have q := (p.filter fun v => decide (2 ≤ v)).map (· - 1)
  refine q.trans (List.Perm.of_eq ?_)
  unfold timesL
  rw [List.filter_append, List.filter_eq_nil_iff.mpr (fun v hv => by rw [(List.mem_replicate.mp hv).2]; decide), List.nil_append, List.filter_eq_self.mpr (fun v hv => by
    obtain ⟨w, hw, rfl⟩ := List.mem_map.mp hv
    have := h w hw
    exact decide_eq_true (by omega)), List.map_map]
  conv => rhs; rw [← List.map_id ps]
  refine List.map_congr_left fun v _v => ?_
  show v + 1 - 1 = v
  omega
/-! ### the long rows -/
theorem few_sums1 {n : Nat} (h2 : 2 ≤ n) (hn : n ≤ 400) {S : List Stp} (hS : ∀ s ∈ S, okS (wh n) s) (free : zeroS (wh n) ∉ sumsOf (wh n) S S.length) : (sumsOf (wh n) S S.length).length ≤ n - 1 := by
  have hW := okW1 h2 hn
  have nd : (zeroS (wh n) :: sumsOf (wh n) S S.length).Nodup := List.nodup_cons.mpr ⟨free, sums_nodup _⟩
  have := ok_few hW nd fun k hk => by
    rcases List.mem_cons.mp hk with (e | z)
    · rw [e]; exact okS_zero hW.wpos
    · exact sums_ok hW hS (Nat.le_refl _) z
  rw [size1, List.length_cons] at this
  omega
/-- a long row that is never home is told -/
theorem long_tell {n : Nat} (h2 : 2 ≤ n) (hn : n ≤ 400) {S : List Stp} (hS : ∀ s ∈ S, okS (wh n) s) (hl : n / 2 + 1 ≤ S.length) (free : zeroS (wh n) ∉ sumsOf (wh n) S S.length) : ∃ u vs, u ∈ unitsN n ∧ TellI (wh n) [(u : Int)] S vs ∧ vs.sum ≤ (n : Int) - 1 := by
  have hW := okW1 h2 hn
  have few := few_sums1 h2 hn hS free
  obtain ⟨s, vs, hs, t, e⟩ := few_tell hW hS free (by omega)
  obtain ⟨u, hu, rfl⟩ := ok1.mp hs
  have ge : (S.length : Int) ≤ vs.sum := by
    rw [← t.len]
    have : ∀ {vs : List Int}, (∀ v ∈ vs, 1 ≤ v) → ((vs.length : Nat) : Int) ≤ vs.sum := by
      intro vs
      induction vs with
      | nil => intro _; exact Int.le_refl 0
      | cons v vs ih =>
        intro h
        have a := h v List.mem_cons_self
        have b := ih fun w hw => h w (List.mem_cons_of_mem _ hw)
        rw [List.length_cons, List.sum_cons]; omega
    exact this t.pos
  have low := t.low
  exact ⟨u, vs, unit_of h2 hn hu (by omega), t, by omega⟩
structure LongRow (n l : Nat) (x : List Stp) : Prop where
  len : x.length = l
  ok : ∀ s ∈ x, okS (wh n) s
  up : x.Pairwise (fun a b => leL a b = true)
  free : zeroS (wh n) ∉ sumsOf (wh n) x x.length
theorem mem_flat {n : Nat} {ps : Stp} : ps ∈ (lp n).flatten ↔ ∃ j, j ≤ n ∧ Part j ps := by
  constructor
  · intro h
    obtain ⟨P, hP, hx⟩ := List.mem_flatten.mp h
    obtain ⟨j, hj, e⟩ := List.getElem_of_mem hP
    rw [lp_len] at hj
    refine ⟨j, by omega, (mem_lp (n := n) (by omega)).mp ?_⟩
    rw [List.getD_eq_getElem?_getD, List.getElem?_eq_getElem (by rw [lp_len]; exact hj), e]
    exact hx
  · rintro ⟨j, hj, h⟩
    have m := (mem_lp hj).mpr h
    rw [List.getD_eq_getElem?_getD, List.getElem?_eq_getElem (by rw [lp_len]; omega)] at m
    exact List.mem_flatten.mpr ⟨_, List.getElem_mem _, m⟩
theorem nodup_flat (n : Nat) : (lp n).flatten.Nodup := by
  have key : ∀ (L : List (List Stp)) (c : Nat), (∀ j, ∀ x ∈ L.getD j [], x.sum = ((c + j : Nat) : Int)) → (∀ j, (L.getD j []).Nodup) → L.flatten.Nodup ∧ ∀ x ∈ L.flatten, ((c : Nat) : Int) ≤ x.sum := by
    intro L
    induction L with
    | nil => intro c _ _; exact ⟨List.nodup_nil, fun x hx => absurd hx List.not_mem_nil⟩
    | cons P L ih =>
      intro c hs hnd
      obtain ⟨a, b⟩ := ih (c + 1) (fun j x hx => by have := hs (j + 1) x hx; omega) fun j => hnd (j + 1)
      rw [List.flatten_cons]
      refine ⟨List.nodup_append.mpr ⟨hnd 0, a, fun x hx y hy e => ?_⟩, fun x hx => ?_⟩
      · subst e
        have h1 := hs 0 x hx
        have h2 := b x hy
        omega
      · rcases List.mem_append.mp hx with (z | z)
        · have := hs 0 x z; omega
        · have := b x z; omega
  refine (key (lp n) 0 (fun j x hx => ?_) fun j => ?_).1
  · rw [Nat.zero_add]
    by_cases hj : j ≤ n
    · exact ((mem_lp hj).mp hx).sum
    · rw [List.getD_eq_getElem?_getD, List.getElem?_eq_none (by rw [lp_len]; omega)] at hx
      exact absurd hx List.not_mem_nil
  · by_cases hj : j ≤ n
    · exact nodup_lp hj
    · rw [List.getD_eq_getElem?_getD, List.getElem?_eq_none (by rw [lp_len]; omega)]
      exact List.nodup_nil
theorem mem_rowsL {n l : Nat} {W : List Stp} {x : List Stp} : x ∈ rowsL n l W ↔ ∃ u ps, u ∈ unitsN n ∧ ps ∈ W ∧ x = toldRow n l u ps := by
  unfold rowsL
  rw [List.mem_flatMap]
  constructor
  · rintro ⟨u, hu, h⟩
    obtain ⟨ps, hp, rfl⟩ := List.mem_map.mp h
    exact ⟨u, ps, hu, hp, rfl⟩
  · rintro ⟨u, ps, hu, hp, rfl⟩
    exact ⟨u, hu, List.mem_map.mpr ⟨ps, hp, rfl⟩⟩
theorem long_mem {n l : Nat} (h2 : 2 ≤ n) (hn : n ≤ 400) (hl : n / 2 + 1 ≤ l) (ln : l < n) {x : List Stp} : x ∈ rowsL n l (lp (n - 1 - l)).flatten ↔ LongRow n l x := by
  have hW := okW1 h2 hn
  rw [mem_rowsL]
  constructor
  · rintro ⟨u, ps, hu, hp, rfl⟩
    obtain ⟨j, hj, pt⟩ := mem_flat.mp hp
    have pl := part_len pt
    have ok := told_okS (l := l) (ps := ps) h2 hn (unit_le hu).2.1 pt.pos
    obtain ⟨vs, t, _⟩ := told_tell (l := l) h2 hn hu pt.pos (by omega) (by rw [pt.sum]; omega)
    exact ⟨toldRow_len (by omega), ok, srt_pw _, tell_free hW ok (ok1.mpr ⟨u, (unit_le hu).2.1, rfl⟩) t⟩
  · intro h
    obtain ⟨u, vs, hu, t, e⟩ := long_tell h2 hn h.ok (by rw [h.len]; exact hl) h.free
    have tl := t.len
    rw [h.len] at tl
    have s := parts_sum t.pos
    have s0 := (le_sum (parts_pos vs)).1
    refine ⟨u, partsOf vs, hu, mem_flat.mpr ⟨(partsOf vs).sum.toNat, by omega, ⟨parts_up vs, parts_pos vs, by omega⟩⟩, ?_⟩
    refine order_one (fun _ _ => leL_anti) h.up (srt_pw _) (List.Perm.trans ?_ (isort_perm' leL _).symm)
    rw [t.row, plain_times (by omega) (unit_le hu).2.1 (parts_pos vs), ← tl]
    exact (parts_times t.pos).map _
/-- unlike units and parts: unlike rows -/
theorem told_inj {n l u u' : Nat} {ps ps' : Stp} (h2 : 2 ≤ n) (hn : n ≤ 400) (hl : n / 2 + 1 ≤ l) (hu : u ∈ unitsN n) (hu' : u' ∈ unitsN n) {j j' : Nat} (p : Part j ps) (p' : Part j' ps') (hj : l + j < n) (hj' : l + j' < n) (e : toldRow n l u ps = toldRow n l u' ps') : u = u' ∧ ps = ps' := by
  have hW := okW1 h2 hn
  have pl := part_len p
  have pl' := part_len p'
  obtain ⟨vs, t, q⟩ := told_tell (l := l) h2 hn hu p.pos (by omega) (by rw [p.sum]; omega)
  obtain ⟨vs', t', q'⟩ := told_tell (l := l) h2 hn hu' p'.pos (by omega) (by rw [p'.sum]; omega)
  rw [← e] at t'
  have ok := told_okS (l := l) (ps := ps) h2 hn (unit_le hu).2.1 p.pos
  have len : (toldRow n l u ps).length = l := toldRow_len (by omega)
  have s := perm_sum q
  have s' := perm_sum q'
  rw [timesL_sum (by omega), p.sum] at s
  rw [timesL_sum (by omega), p'.sum] at s'
  have o : okS (wh n) [(u : Int)] := ok1.mpr ⟨u, (unit_le hu).2.1, rfl⟩
  have o' : okS (wh n) [(u' : Int)] := ok1.mpr ⟨u', (unit_le hu').2.1, rfl⟩
  have eu := tell_one hW ok o o' t t' (by omega) (by omega)
  have eu : u = u' := by have := (List.cons.inj eu).1; omega
  subst eu
  have ev : vs = vs' := Option.some.inj (((toldI_iff hW o).mpr t).symm.trans ((toldI_iff hW o).mpr t'))
  subst ev
  exact ⟨rfl, (timesL_back p.up p.pos q).symm.trans (timesL_back p'.up p'.pos q')⟩
theorem nodup_units (n : Nat) : (unitsN n).Nodup := List.Pairwise.filter _ List.nodup_range'
theorem nodup_flatMap {α β : Type} {f : α → List β} : ∀ {xs : List α}, xs.Nodup → (∀ x ∈ xs, (f x).Nodup) → (∀ x ∈ xs, ∀ y ∈ xs, ∀ z, z ∈ f x → z ∈ f y → x = y) → (xs.flatMap f).Nodup
  | [], _, _, _ => List.nodup_nil
  | x :: xs, nd, h, k => by
    have ⟨n1, n2⟩ := List.nodup_cons.mp nd
    rw [List.flatMap_cons]
    refine List.nodup_append.mpr ⟨h x List.mem_cons_self, nodup_flatMap n2 (fun y hy => h y (List.mem_cons_of_mem _ hy)) fun y hy z hz => k y (List.mem_cons_of_mem _ hy) z (List.mem_cons_of_mem _ hz), fun a ha b hb e => ?_⟩
    subst e
    obtain ⟨y, hy, hb⟩ := List.mem_flatMap.mp hb
    exact n1 (k x List.mem_cons_self y (List.mem_cons_of_mem _ hy) a ha hb ▸ hy)
theorem nodup_rows {n l : Nat} {W : List Stp} (nd : W.Nodup) (inj : ∀ u ∈ unitsN n, ∀ u' ∈ unitsN n, ∀ ps ∈ W, ∀ ps' ∈ W, toldRow n l u ps = toldRow n l u' ps' → u = u' ∧ ps = ps') : (rowsL n l W).Nodup := by
  unfold rowsL
  refine nodup_flatMap (nodup_units n) (fun u hu => ?_) fun u hu u' hu' x hx hx' => ?_
  · refine List.pairwise_map.mpr (List.Pairwise.imp_of_mem ?_ nd)
    intro ps ps' h h' ne e
    exact ne (inj u hu u hu ps h ps' h' e).2
  · obtain ⟨ps, h, rfl⟩ := List.mem_map.mp hx
    obtain ⟨ps', h', e⟩ := List.mem_map.mp hx'
    exact (inj u hu u' hu' ps h ps' h' e.symm).1
theorem long_nodup {n l : Nat} (h2 : 2 ≤ n) (hn : n ≤ 400) (hl : n / 2 + 1 ≤ l) (ln : l < n) : (rowsL n l (lp (n - 1 - l)).flatten).Nodup := by
  refine nodup_rows (nodup_flat _) fun u hu u' hu' ps h ps' h' e => ?_
  obtain ⟨j, hj, p⟩ := mem_flat.mp h
  obtain ⟨j', hj', p'⟩ := mem_flat.mp h'
  exact told_inj h2 hn hl hu hu' p p' (by omega) (by omega) e
/-- the long rows in order -/
def longL (n l : Nat) : List (List Stp) := if n ≤ l then [] else srtR (rowsL n l (lp (n - 1 - l)).flatten)
theorem longL_len (n l : Nat) : (longL n l).length = longN n l := by
  unfold longL longN
  split
  · rfl
  · unfold srtR
    rw [isort_len, rowsL_len]
theorem longL_mem {n l : Nat} (h2 : 2 ≤ n) (hn : n ≤ 400) (hl : n / 2 + 1 ≤ l) {x : List Stp} : x ∈ longL n l ↔ LongRow n l x := by
  unfold longL
  by_cases e : n ≤ l
  · rw [if_pos e]
    refine ⟨fun h => absurd h List.not_mem_nil, fun h => ?_⟩
    exfalso
    obtain ⟨u, vs, hu, t, s⟩ := long_tell h2 hn h.ok (by rw [h.len]; exact hl) h.free
    have a := parts_sum t.pos
    have b := (le_sum (parts_pos vs)).1
    have tl := t.len
    rw [h.len] at tl
    omega
  · rw [if_neg e]
    exact (isort_perm' leR _).mem_iff.trans (long_mem h2 hn hl (by omega))
theorem longL_nodup {n l : Nat} (h2 : 2 ≤ n) (hn : n ≤ 400) (hl : n / 2 + 1 ≤ l) : (longL n l).Nodup := by
  unfold longL
  by_cases e : n ≤ l
  · rw [if_pos e]; exact List.nodup_nil
  · rw [if_neg e]
    exact (isort_perm' leR _).nodup_iff.mpr (long_nodup h2 hn hl (by omega))
theorem longL_pw (n l : Nat) : (longL n l).Pairwise (fun a b => leR a b = true) := by
  unfold longL
  split
  · exact List.Pairwise.nil
  · exact srtR_pw _
end Pu
end TS29

section TS30
set_option Elab.async false
set_option linter.all false
set_option maxRecDepth 100000
set_option maxHeartbeats 410000
namespace Pu
open L2 PySem Cm
/-! ### _law_lists -/
def okx (line : List Stp) (s : Stp) : Bool := match line.getLast? with
  | none => true
  | some t => decide (t ≤ s)
def ext1 (steps : List Stp) (line : List Stp) : List (List Stp) := (steps.filter (okx line)).map fun s => line ++ [s]
def lstL (steps : List Stp) : Nat → List (List Stp)
  | 0 => [[]]
  | k + 1 => (lstL steps k).flatMap (ext1 steps)
theorem pGe_tupI (a b : Stp) : pGe (tupI a) (tupI b) = some (.bool (decide (b ≤ a))) := by
  show (if ordB (tupI a) (tupI b) = true then some (PyData.bool (!PySem.W.dataLt (tupI a) (tupI b))) else none) = _
  rw [if_pos (by simp [ordB, tupI_alike, tupI_plain, tupI_depth, isNone_tupI]), show PySem.W.dataLt (tupI a) (tupI b) = decide (a < b) from PySem.W.dataLt_ints a b]
  by_cases z : a < b
  · rw [decide_eq_true z, decide_eq_false (fun y => y z)]; rfl
  · rw [decide_eq_false z, decide_eq_true (List.not_lt.mp z)]; rfl
theorem last_tup {xs : List PyData} (h : xs ≠ []) : pIx (.tuple xs) (.int (-1)) = some (xs.getLast h) := by
  show atI xs (-1) = _
  unfold atI ixN
  have p := List.length_pos_iff.mpr h
  have e : (-1 + (xs.length : Int)).toNat = xs.length - 1 := by omega
  rw [List.getLast_eq_getElem]
  simp [e, show -(xs.length : Int) ≤ -1 by omega, p]
theorem okx_test {line : List Stp} {s : Stp} {i j : Nat} {r : Pu.Env} (hi : fV i r = .ok (rowD line) r) (hj : fV j r = .ok (tupI s) r) : fOr (fTB (f2 pEq (fV i) (f1 kTup (fNil)))) (fTB (f2 pGe (fV j) (f2 pIx (fV i) (f1 pNeg (fC (.int 1)))))) r = .ok (okx line s) r := by
  have t1 : fTB (f2 pEq (fV i) (f1 kTup (fNil))) r = .ok (decide (line = [])) r := tb_ok (op2 hi (op1 (ρ1 := r) rfl kTup_0) (pEq_row line []))
  by_cases e : line = []
  · rw [decide_eq_true e] at t1
    subst e
    exact or_yes t1
  · rw [decide_eq_false e] at t1
    have ne : line.map tupI ≠ [] := fun h => e (List.map_eq_nil_iff.mp h)
    have l := last_tup ne
    have e2 : (line.map tupI).getLast ne = tupI (line.getLast e) := List.getLast_map ..
    rw [e2] at l
    have ox : okx line s = decide (line.getLast e ≤ s) := by
      unfold okx
      rw [List.getLast?_eq_some_getLast e]
    rw [ox]
    exact or_no t1 (tb_ok (op2 hj (op2 hi (op1 (ρ1 := r) rfl (show pNeg (.int 1) = some (.int (-1)) from rfl)) l) (pGe_tupI _ _)))
theorem law_lists_ok {steps : List Stp} {k : Nat} (hk : k ≤ 1000) (hs : steps.length ≤ 1000) (hb : ∀ j, j ≤ k → (lstL steps j).length ≤ LIM) : m__law_lists [.list (steps.map tupI), .int k] = .ok (.list ((lstL steps k).map rowD)) := by
  have lens : ∀ j, ∀ x ∈ lstL steps j, x.length = j := by
    intro j
    induction j with
    | zero => intro x hx; rw [List.mem_singleton.mp hx]; rfl
    | succ j ih =>
      intro x hx
      obtain ⟨l, hl, hx⟩ := List.mem_flatMap.mp hx
      obtain ⟨s, _, rfl⟩ := List.mem_map.mp hx
      rw [List.length_append, ih l hl]; rfl
  let body : SM := sSeq (sAsg (f1 kLst (fNil)) (gN 4)) (sSeq (sFor (fSeq (fV 2)) (gN 5) (sAsg (f2 pAdd (fV 4) (fLc (fSeq (fV 0)) (gN 6) (fOr (fTB (f2 pEq (fV 5) (f1 kTup (fNil)))) (fTB (f2 pGe (fV 6) (f2 pIx (fV 5) (f1 pNeg (fC (.int 1))))))) (f2 pAdd (fV 5) (f1 kTup (fCons (fV 6) (fNil)))) [6])) (gN 4))) (sAsg (fV 4) (gN 2)))
  obtain ⟨ρ', e, x, y, z, hx⟩ := forL_pre (fun (pre : List Nat) ρ => ∃ x y z, ρ = [.dat (.list (steps.map tupI)), .dat (.int k), .dat (.list ((lstL steps pre.length).map rowD)), x, y, z, .un]) (fun i : Nat => PyData.int i) (xs := List.range k) (g := gN 3) (b := body)
    (fun pre i post ρ es ⟨x, y, z, e⟩ => by
      subst e
      have lt : pre.length < k := by have := congrArg List.length es; rw [List.length_range, List.length_append, List.length_cons] at this; omega
      let F := lstL steps pre.length
      have bound := hb (pre.length + 1) (by omega)
      let r0 : Pu.Env := [.dat (.list (steps.map tupI)), .dat (.int k), .dat (.list (F.map rowD)), .dat (.int i), y, z, .un]
      let r1 : Pu.Env := [.dat (.list (steps.map tupI)), .dat (.int k), .dat (.list (F.map rowD)), .dat (.int i), .dat (.list []), z, .un]
      have c0 : sAsg (f1 kLst (fNil)) (gN 4) r0 = .nx r1 := asg_ok (op1 (ρ1 := r0) rfl kLst_0)
      obtain ⟨ρ2, e2, z', hz⟩ := forL_pre (fun (pre2 : List (List Stp)) ρ => ∃ z, ρ = [.dat (.list (steps.map tupI)), .dat (.int k), .dat (.list (F.map rowD)), .dat (.int i), .dat (.list ((pre2.flatMap (ext1 steps)).map rowD)), z, .un]) rowD (xs := F) (g := gN 5)
        (b := sAsg (f2 pAdd (fV 4) (fLc (fSeq (fV 0)) (gN 6) (fOr (fTB (f2 pEq (fV 5) (f1 kTup (fNil)))) (fTB (f2 pGe (fV 6) (f2 pIx (fV 5) (f1 pNeg (fC (.int 1))))))) (f2 pAdd (fV 5) (f1 kTup (fCons (fV 6) (fNil)))) [6])) (gN 4))
        (fun pre2 line post2 ρ es2 ⟨z, e⟩ => by
          subst e
          have ll : line.length = pre.length := lens pre.length line (by show line ∈ F; rw [es2]; exact List.mem_append_right _ List.mem_cons_self)
          let q : Pu.Env := [.dat (.list (steps.map tupI)), .dat (.int k), .dat (.list (F.map rowD)), .dat (.int i), .dat (.list ((pre2.flatMap (ext1 steps)).map rowD)), .dat (rowD line), .un]
          have lc := lc_filter tupI (okx line) (fun s => rowD (line ++ [s])) (fl := fSeq (fV 0)) (g := gN 6) (t := fOr (fTB (f2 pEq (fV 5) (f1 kTup (fNil)))) (fTB (f2 pGe (fV 6) (f2 pIx (fV 5) (f1 pNeg (fC (.int 1))))))) (e := f2 pAdd (fV 5) (f1 kTup (fCons (fV 6) (fNil)))) (vs := [6]) (ρ := q) (ρ0 := q) (ρ' := q) (xs := steps) rfl rfl rfl (by unfold LIM; omega) fun s hs => by
            let q2 : Pu.Env := [.dat (.list (steps.map tupI)), .dat (.int k), .dat (.list (F.map rowD)), .dat (.int i), .dat (.list ((pre2.flatMap (ext1 steps)).map rowD)), .dat (rowD line), .dat (tupI s)]
            refine ⟨q2, q2, rfl, okx_test (i := 5) (j := 6) (r := q2) rfl rfl, ?_⟩
            split
            · exact ⟨q2, op2 (ρ1 := q2) rfl (op1 (cons_ok (ρ1 := q2) rfl rfl) (kTup_1 _)) (pAdd_row (S := line) (T := [s]) (by show line.length + 1 ≤ LIM; unfold LIM; omega)), rfl⟩
            · rfl
          have ee : ((steps.filter (okx line)).map fun s => rowD (line ++ [s])) = (ext1 steps line).map rowD := by
            unfold ext1
            rw [List.map_map]; rfl
          rw [ee] at lc
          have al : ((pre2.flatMap (ext1 steps)).map rowD).length + ((ext1 steps line).map rowD).length ≤ LIM := by
            have : lstL steps (pre.length + 1) = F.flatMap (ext1 steps) := rfl
            rw [this, es2, List.flatMap_append, List.flatMap_cons, List.length_append, List.length_append] at bound
            (rw [List.length_map, List.length_map]); omega
          have ad := pAdd_lst al
          rw [← List.map_append] at ad
          refine ⟨q, [.dat (.list (steps.map tupI)), .dat (.int k), .dat (.list (F.map rowD)), .dat (.int i), .dat (.list (((pre2.flatMap (ext1 steps)) ++ ext1 steps line).map rowD)), .dat (rowD line), .un], rfl, asg_ok (i := 4) (op2 (ρ1 := q) rfl lc ad), .dat (rowD line), ?_⟩
          rw [List.flatMap_append, List.flatMap_cons, List.flatMap_nil, List.append_nil])
        (ρ := r1) ⟨_, rfl⟩
      subst hz
      have c1 : sFor (fSeq (fV 2)) (gN 5) (sAsg (f2 pAdd (fV 4) (fLc (fSeq (fV 0)) (gN 6) (fOr (fTB (f2 pEq (fV 5) (f1 kTup (fNil)))) (fTB (f2 pGe (fV 6) (f2 pIx (fV 5) (f1 pNeg (fC (.int 1))))))) (f2 pAdd (fV 5) (f1 kTup (fCons (fV 6) (fNil)))) [6])) (gN 4)) r1 = _ := for_ok (ds := F.map rowD) (ρ1 := r1) rfl e2
      exact ⟨r0, _, rfl, seq_nx c0 (seq_nx c1 (asg_ok (i := 2) rfl)), .dat (.int i), .dat (.list ((F.flatMap (ext1 steps)).map rowD)), z', by rw [List.length_append]; rfl⟩)
    (ρ := [.dat (.list (steps.map tupI)), .dat (.int k), .dat (.list [.tuple []]), .un, .un, .un, .un]) ⟨_, _, _, rfl⟩
  subst hx
  rw [List.length_range] at e
  let ra : Pu.Env := [.dat (.list (steps.map tupI)), .dat (.int k), .un, .un, .un, .un, .un]
  let rb : Pu.Env := [.dat (.list (steps.map tupI)), .dat (.int k), .dat (.list [.tuple []]), .un, .un, .un, .un]
  have f0 : sAsg (f1 kLst (fCons (f1 kTup (fNil)) (fNil))) (gN 2) ra = .nx rb := asg_ok (op1 (cons_ok (op1 (ρ1 := ra) rfl kTup_0) rfl) (kLst_1 _))
  have rg : fRng1 (fCons (fV 1) (fNil)) rb = .ok ((List.range k).map fun i : Nat => PyData.int i) rb := lift1 (as := [.int k]) rfl (asRng1_nat (by omega))
  exact run_rt (g := g__law_lists) (seq_nx f0 (seq_nx (for_ok rg e) (ret_ok rfl)))
/-! ### which lists, in which order -/
theorem mem_lst {steps : List Stp} : ∀ {k : Nat} {x : List Stp}, x ∈ lstL steps k ↔ x.length = k ∧ (∀ s ∈ x, s ∈ steps) ∧ x.Pairwise (fun a b => leL a b = true)
  | 0, x => by
    rw [lstL, List.mem_singleton]
    constructor
    · rintro rfl; exact ⟨rfl, fun s hs => absurd hs List.not_mem_nil, List.Pairwise.nil⟩
    · rintro ⟨h, _⟩; exact List.eq_nil_of_length_eq_zero h
  | k + 1, x => by
    rw [lstL, List.mem_flatMap]
    constructor
    · rintro ⟨l, hl, hx⟩
      obtain ⟨s, hs, rfl⟩ := List.mem_map.mp hx
      obtain ⟨a, b, c⟩ := mem_lst.mp hl
      obtain ⟨s1, s2⟩ := List.mem_filter.mp hs
      refine ⟨by rw [List.length_append, a]; rfl, fun t ht => ?_, List.pairwise_append.mpr ⟨c, List.pairwise_singleton _ _, fun t ht y hy => ?_⟩⟩
      · rcases List.mem_append.mp ht with (z | z)
        · exact b t z
        · rw [List.mem_singleton.mp z]; exact s1
      · rw [List.mem_singleton.mp hy]
        have ne : l ≠ [] := List.ne_nil_of_mem ht
        unfold okx at s2
        rw [List.getLast?_eq_some_getLast ne] at s2
        have s2 := of_decide_eq_true s2
        -- all stand ahead of the last
        have : leL t (l.getLast ne) = true := by
          have e := List.dropLast_concat_getLast ne
          rw [← e] at ht c
          obtain ⟨_, _, c3⟩ := List.pairwise_append.mp c
          rcases List.mem_append.mp ht with (z | z)
          · exact c3 t z _ List.mem_cons_self
          · rw [List.mem_singleton.mp z]; exact decide_eq_true (List.le_refl _)
        exact leL_trans _ _ _ this (decide_eq_true s2)
    · rintro ⟨h, b, c⟩
      rcases List.eq_nil_or_concat x with rfl | ⟨l, s, rfl⟩
      · cases h
      · rw [List.concat_eq_append] at *
        obtain ⟨c1, _, c3⟩ := List.pairwise_append.mp c
        rw [List.length_append] at h
        refine ⟨l, mem_lst.mpr ⟨by have : l.length + 1 = k + 1 := h; omega, fun t ht => b t (List.mem_append_left _ ht), c1⟩, List.mem_map.mpr ⟨s, List.mem_filter.mpr ⟨b s (List.mem_append_right _ List.mem_cons_self), ?_⟩, rfl⟩⟩
        unfold okx
        by_cases ne : l = []
        · rw [ne]; rfl
        · rw [List.getLast?_eq_some_getLast ne]
          exact c3 _ (List.getLast_mem ne) s List.mem_cons_self
theorem lt_app : ∀ {a b x y : List Stp}, a.length = b.length → a < b → a ++ x < b ++ y
  | [], [], _, _, _, h => absurd h (List.lt_irrefl _)
  | a :: as, b :: bs, x, y, l, h => by
    rw [List.cons_append, List.cons_append]
    rcases List.cons_lt_cons_iff.mp h with (k | ⟨k, m⟩)
    · exact List.cons_lt_cons_iff.mpr (.inl k)
    · exact List.cons_lt_cons_iff.mpr (.inr ⟨k, lt_app (Nat.succ.inj l) m⟩)
theorem lt_snoc {s t : Stp} (h : s < t) : ∀ a : List Stp, a ++ [s] < a ++ [t]
  | [] => List.cons_lt_cons_iff.mpr (.inl h)
  | x :: a => by
    rw [List.cons_append, List.cons_append]
    exact List.cons_lt_cons_iff.mpr (.inr ⟨rfl, lt_snoc h a⟩)
theorem lst_lt {steps : List Stp} (hs : steps.Pairwise (· < ·)) : ∀ k, (lstL steps k).Pairwise (· < ·)
  | 0 => List.pairwise_singleton _ _
  | k + 1 => by
    have ih := lst_lt hs k
    have key : ∀ {F : List (List Stp)}, F.Pairwise (· < ·) → (∀ x ∈ F, x.length = k) → (F.flatMap (ext1 steps)).Pairwise (· < ·) := by
      intro F
      induction F with
      | nil => intro _ _; exact List.Pairwise.nil
      | cons l F ih2 =>
        intro h hl
        have ⟨h1, h2⟩ := List.pairwise_cons.mp h
        rw [List.flatMap_cons]
        refine List.pairwise_append.mpr ⟨?_, ih2 h2 fun x hx => hl x (List.mem_cons_of_mem _ hx), fun x hx y hy => ?_⟩
        · exact List.pairwise_map.mpr ((hs.filter _).imp fun {a b} h => lt_snoc h l)
        · obtain ⟨s, _, rfl⟩ := List.mem_map.mp hx
          obtain ⟨m, hm, hy⟩ := List.mem_flatMap.mp hy
          obtain ⟨t, _, rfl⟩ := List.mem_map.mp hy
          exact lt_app ((hl l List.mem_cons_self).trans (hl m (List.mem_cons_of_mem _ hm)).symm) (h1 m hm)
    exact key ih fun x hx => (mem_lst.mp hx).1
/-! ### how many lists there are at most -/
theorem lst_pow {steps : List Stp} : ∀ k, (lstL steps k).length ≤ steps.length ^ k
  | 0 => Nat.le_refl _
  | k + 1 => by
    have ih := lst_pow (steps := steps) k
    have key : ∀ F : List (List Stp), (F.flatMap (ext1 steps)).length ≤ F.length * steps.length := by
      intro F
      induction F with
      | nil => exact Nat.zero_le _
      | cons l F ih2 =>
        rw [List.flatMap_cons, List.length_append, List.length_cons, Nat.succ_mul]
        have : (ext1 steps l).length ≤ steps.length := by unfold ext1; rw [List.length_map]; exact List.length_filter_le _ _
        omega
    refine Nat.le_trans (key _) ?_
    rw [Nat.pow_succ]
    exact Nat.mul_le_mul_right _ ih
def wgt (A : List Stp) (s : Stp) : Nat := (A.filter fun t => decide (s ≤ t)).length
theorem wgt_sum {A : List Stp} (h : A.Pairwise (· < ·)) (r : Nat) : (A.map fun s => 2 ^ (wgt A s + r)).sum ≤ 2 ^ (A.length + 1 + r) := by
  induction A with
  | nil => exact Nat.zero_le _
  | cons s A ih =>
    have ⟨h1, h2⟩ := List.pairwise_cons.mp h
    have ih := ih h2
    (rw [List.map_cons, List.sum_cons])
    have w0 : wgt (s :: A) s ≤ A.length + 1 := List.length_filter_le _ (s :: A)
    have e : A.map (fun t => 2 ^ (wgt (s :: A) t + r)) = A.map fun t => 2 ^ (wgt A t + r) := by
      refine List.map_congr_left fun t ht => ?_
      unfold wgt
      rw [List.filter_cons_of_neg (p := fun x => decide (t ≤ x)) (by
        rw [decide_eq_true_eq]
        exact fun k => k (h1 t ht))]
    rw [e]
    have p1 : 2 ^ (wgt (s :: A) s + r) ≤ 2 ^ (A.length + 1 + r) := Nat.pow_le_pow_right (by decide) (by omega)
    have p2 : 2 ^ (A.length + 1 + 1 + r) = 2 * 2 ^ (A.length + 1 + r) := by rw [show A.length + 1 + 1 + r = (A.length + 1 + r) + 1 by omega, Nat.pow_succ]; omega
    rw [List.length_cons, p2]
    omega
def itr (steps : List Stp) : Nat → List (List Stp) → List (List Stp)
  | 0, F => F
  | r + 1, F => itr steps r (F.flatMap (ext1 steps))
theorem itr_flat (steps : List Stp) : ∀ (r : Nat) (F : List (List Stp)), (itr steps r F).length = (F.map fun l => (itr steps r [l]).length).sum
  | 0, F => by
    show F.length = _
    induction F with
    | nil => rfl
    | cons l F ih => rw [List.map_cons, List.sum_cons, ← ih, List.length_cons]; show _ = 1 + F.length; omega
  | r + 1, F => by
    show (itr steps r (F.flatMap (ext1 steps))).length = _
    rw [itr_flat steps r]
    induction F with
    | nil => rfl
    | cons l F ih =>
      rw [List.flatMap_cons, List.map_append, List.sum_append, List.map_cons, List.sum_cons, ih]
      congr 1
      show _ = (itr steps r ([l].flatMap (ext1 steps))).length
      rw [List.flatMap_cons, List.flatMap_nil, List.append_nil]
      exact (itr_flat steps r _).symm
theorem itr_le {steps : List Stp} (hs : steps.Pairwise (· < ·)) : ∀ (r : Nat) (l : List Stp), (itr steps r [l]).length ≤ 2 ^ ((steps.filter (okx l)).length + r)
  | 0, l => Nat.pos_of_ne_zero (by simp)
  | r + 1, l => by
    show (itr steps r ([l].flatMap (ext1 steps))).length ≤ _
    rw [List.flatMap_cons, List.flatMap_nil, List.append_nil, itr_flat]
    let A := steps.filter (okx l)
    have hA : A.Pairwise (· < ·) := hs.filter _
    have b : ((ext1 steps l).map fun x => (itr steps r [x]).length).sum ≤ (A.map fun s => 2 ^ (wgt A s + r)).sum := by
      unfold ext1
      rw [List.map_map]
      have key : ∀ B : List Stp, (∀ s ∈ B, s ∈ A) → (B.map ((fun x => (itr steps r [x]).length) ∘ fun s => l ++ [s])).sum ≤ (B.map fun s => 2 ^ (wgt A s + r)).sum := by
        intro B
        induction B with
        | nil => intro _; exact Nat.le_refl _
        | cons s B ih =>
          intro hB
          rw [List.map_cons, List.map_cons, List.sum_cons, List.sum_cons]
          have i1 := itr_le hs r (l ++ [s])
          have ih := ih fun t ht => hB t (List.mem_cons_of_mem _ ht)
          have w : (steps.filter (okx (l ++ [s]))).length = wgt A s := by
            unfold wgt
            show _ = ((steps.filter (okx l)).filter _).length
            rw [List.filter_filter]
            congr 1
            refine List.filter_congr fun t ht => ?_
            have e1 : okx (l ++ [s]) t = decide (s ≤ t) := by unfold okx; rw [List.getLast?_append, List.getLast?_singleton]; rfl
            rw [e1]
            cases e2 : decide (s ≤ t) with
            | false => rfl
            | true =>
              have e2 := of_decide_eq_true e2
              have m := (List.mem_filter.mp (hB s List.mem_cons_self)).2
              have : okx l t = true := by
                unfold okx at m ⊢
                cases e3 : l.getLast? with
                | none => rfl
                | some u =>
                  rw [e3] at m
                  exact decide_eq_true (List.le_trans (of_decide_eq_true m) e2)
              rw [this]; rfl
          rw [w] at i1
          show (itr steps r [l ++ [s]]).length + _ ≤ _
          omega
      exact key A fun _ h => h
    have c := wgt_sum hA r
    have e : (steps.filter (okx l)).length + (r + 1) = A.length + 1 + r := by show A.length + (r + 1) = _; omega
    rw [e]
    omega
theorem itr_lst (steps : List Stp) : ∀ (r k : Nat), itr steps r (lstL steps k) = lstL steps (k + r)
  | 0, _ => rfl
  | r + 1, k => by
    show itr steps r (lstL steps (k + 1)) = _
    rw [itr_lst steps r (k + 1)]; congr 1; omega
theorem lst_two {steps : List Stp} (hs : steps.Pairwise (· < ·)) (k : Nat) : (lstL steps k).length ≤ 2 ^ (steps.length + k) := by
  have := itr_lst steps k 0
  rw [Nat.zero_add] at this
  rw [← this]
  refine Nat.le_trans (itr_le hs k []) (Nat.pow_le_pow_right (by decide) ?_)
  have := List.length_filter_le (okx []) steps
  omega
/-! ### long_teller -/
theorem long_teller_ok {rz : Rz} {n : Nat} (h2 : 2 ≤ n) (hn : n ≤ 400) {S : List Stp} (hS : ∀ s ∈ S, okS (wh n) s) (h40 : S.length ≤ 40) (hl : n / 2 + 1 ≤ S.length) : m_long_teller rz [.int n, rowD S] = .ok (optP ((tellL (wh n) S).head?)) := by
  have hW := okW1 h2 hn
  let r : Pu.Env := [.dat (.int n), .dat (rowD S)]
  have c1 : sDrop (fCall (m_check_places rz) (fCons (fV 0) (fNil))) r = .nx r := drop_ok (call_ok (cons_ok (ρ1 := r) rfl rfl) (check_places_ok h2 hn))
  let q : Pu.Env := [.dat (.int n), .dat (rowD S), .dat (.int ((n / 2 + 1 : Nat) : Int))]
  have lr : m_check_long_row rz [.int n, rowD S, .int ((n / 2 + 1 : Nat) : Int)] = .ok .none := by
    have k1 : sDrop (fCall (m_check_row rz) (fCons (f1 kTup (fCons (fV 0) (fNil))) (fCons (fV 1) (fNil)))) q = .nx q := drop_ok (call_ok (cons_ok (op1 (cons_ok (ρ1 := q) rfl rfl) (kTup_1 _)) (cons_ok (ρ1 := q) rfl rfl)) (check_row_ok hS h40))
    have k2 : sDrop (fCall (m_check_number rz) (fCons (f1 pLen (fCons (fV 1) (fNil))) (fCons (fV 2) (fCons (fC (.int 40)) (fNil))))) q = .nx q := drop_ok (check_number_ok' (r := q) (v := (S.length : Int)) (lo := ((n / 2 + 1 : Nat) : Int)) (hi := 40) (by omega) (by omega) (op1 (cons_ok (ρ1 := q) rfl rfl) (pLen_rowD S)) rfl rfl)
    exact run_nx (g := g_check_long_row rz) (seq_nx k1 k2)
  have c2 : sDrop (fCall (m_check_long_row rz) (fCons (fV 0) (fCons (fV 1) (fCons (fCall m_least_long (fCons (fV 0) (fNil))) (fNil))))) r = .nx r := drop_ok (call_ok (cons_ok (ρ1 := r) rfl (cons_ok (ρ1 := r) rfl (cons_ok (call_ok (cons_ok (ρ1 := r) rfl rfl) (least_long_ok n)) rfl))) lr)
  have f := find_teller_ok (rz := rz) hW (show S.length ≤ 1000 by omega) (n : Int)
  have e := findV_all (S := S) hW
  rw [size1] at e
  rw [e] at f
  exact run_rt (g := g_long_teller rz) (seq_nx c1 (seq_nx c2 (ret_ok (call_ok (cons_ok (op1 (cons_ok (ρ1 := r) rfl rfl) (kTup_1 _)) (cons_ok (ρ1 := r) rfl (cons_ok (ρ1 := r) rfl rfl))) f))))
/-- it is there just if the row is never home -/
theorem long_found {n : Nat} (h2 : 2 ≤ n) (hn : n ≤ 400) {S : List Stp} (hS : ∀ s ∈ S, okS (wh n) s) (hl : n / 2 + 1 ≤ S.length) : ((tellL (wh n) S).head?).isSome = !decide (zeroS (wh n) ∈ sumsOf (wh n) S S.length) := by
  have hW := okW1 h2 hn
  apply Bool.eq_iff_iff.mpr
  rw [Bool.not_eq_true', decide_eq_false_iff_not]
  constructor
  · intro h
    obtain ⟨p, hp⟩ := Option.isSome_iff_exists.mp h
    obtain ⟨a, b⟩ := mem_tellL.mp (List.mem_of_mem_head? hp)
    exact tell_free hW hS a ((toldI_iff hW a).mp b)
  · intro free
    obtain ⟨u, vs, hu, t, _⟩ := long_tell h2 hn hS hl free
    have o : okS (wh n) [(u : Int)] := ok1.mpr ⟨u, (unit_le hu).2.1, rfl⟩
    have m : ([(u : Int)], vs) ∈ tellL (wh n) S := mem_tellL.mpr ⟨o, (toldI_iff hW o).mpr t⟩
    cases e : tellL (wh n) S with
    | nil => rw [e] at m; exact absurd m List.not_mem_nil
    | cons p ps => rfl
end Pu
end TS30

section TS31
set_option Elab.async false
set_option linter.all false
set_option maxRecDepth 100000
set_option maxHeartbeats 410000
namespace Pu
open L2 PySem Cm
variable {ws : List Int} {S : List Stp}
/-! ### has_few, few_teller -/
theorem pNotIn_row (a : Stp) (ks : List Stp) : pNotIn (tupI a) (.tuple (ks.map tupI)) = some (.bool (!decide (a ∈ ks))) := pNotIn_tups a ks
theorem pIn_tups (a : Stp) (ks : List Stp) : pIn (tupI a) (.list (ks.map tupI)) = some (.bool (decide (a ∈ ks))) := by
  show (if okIn (tupI a) (ks.map tupI) = true then some (PyData.bool (anyEq (tupI a) (ks.map tupI))) else none) = _
  rw [if_pos (by simp [okIn, tups_plain, tupI_plain, tupI_depth]), anyEq_tups]
theorem twice (n : Nat) : pMul (.int 2) (.int n) = some (.int (2 * n)) := by
  unfold pMul
  exact if_pos (Or.inl ⟨by decide, by decide⟩)
theorem most_few_ok (S : List Stp) : m_most_few [rowD S] = .ok (.int (2 * (S.length : Int) - 2)) :=
  run_rt (g := g_most_few) (ret_ok (ρ := [.dat (rowD S)]) (op2 (op2 rfl (op1 (cons_ok (ρ1 := [.dat (rowD S)]) rfl rfl) (pLen_rowD S)) (twice _)) rfl rfl))
/-- not in and few, in one value -/
theorem few_val {fa fb : M PyData} {r r1 : Pu.Env} (h1 : fa r = .ok (.bool (!decide (zeroS ws ∈ sumsOf ws S S.length))) r1) (h2 : fb r1 = .ok (.bool (decide ((((sumsOf ws S S.length).length : Nat) : Int) ≤ 2 * (S.length : Int) - 2))) r1) : fAndV fa fb r = .ok (.bool (fewB ws S)) r1 := by
  unfold fewB
  cases e : !decide (zeroS ws ∈ sumsOf ws S S.length) with
  | true => rw [e] at h1; exact andV_yes h1 h2
  | false => rw [e] at h1; exact andV_no h1
theorem has_few_ok {rz : Rz} (hW : okW ws) (hS : ∀ s ∈ S, okS ws s) (hn : S.length ≤ 40) : m_has_few rz [tupI ws, rowD S] = .ok (.bool (fewB ws S)) := by
  have few : ws.length ≤ 1000 := by have := hW.few; omega
  let r0 : Pu.Env := [.dat (tupI ws), .dat (rowD S), .un]
  let r1 : Pu.Env := [.dat (tupI ws), .dat (rowD S), .dat (.tuple ((sumsOf ws S S.length).map tupI))]
  have c0 : sAsg (fCall (m_sums rz) (fCons (fV 0) (fCons (fV 1) (fNil)))) (gN 2) r0 = .nx r1 := asg_ok (call_ok (cons_ok (ρ1 := r0) rfl (cons_ok (ρ1 := r0) rfl rfl)) (sums_prog hW hS hn))
  have c1 : f2 pNotIn (fCall m_home_step (fCons (fV 0) (fNil))) (fV 2) r1 = .ok (.bool (!decide (zeroS ws ∈ sumsOf ws S S.length))) r1 := op2 (call_ok (cons_ok (ρ1 := r1) rfl rfl) (home_step_ok few)) (ρ2 := r1) rfl (pNotIn_row _ _)
  have hl : pLen [.tuple ((sumsOf ws S S.length).map tupI)] = some (.int ((sumsOf ws S S.length).length : Nat)) := by rw [pLen_tup, List.length_map]
  have c2 : f2 pLe (f1 pLen (fCons (fV 2) (fNil))) (fCall m_most_few (fCons (fV 1) (fNil))) r1 = .ok (.bool (decide ((((sumsOf ws S S.length).length : Nat) : Int) ≤ 2 * (S.length : Int) - 2))) r1 := op2 (op1 (cons_ok (ρ1 := r1) rfl rfl) hl) (call_ok (cons_ok (ρ1 := r1) rfl rfl) (most_few_ok S)) (pLe_int _ _)
  exact run_rt (g := g_has_few rz) (seq_nx c0 (ret_ok (few_val c1 c2)))
theorem few_teller_ok {rz : Rz} (hW : okW ws) (hS : ∀ s ∈ S, okS ws s) (hn : S.length ≤ 40) : m_few_teller rz [tupI ws, rowD S] = .ok (optP (findV ws S (2 * (S.length : Int) - 2))) := by
  let r : Pu.Env := [.dat (tupI ws), .dat (rowD S)]
  have c : fT (fCall (m_has_few rz) (fCons (fV 0) (fCons (fV 1) (fNil)))) r = .ok (fewB ws S) r := t_ok (call_ok (cons_ok (ρ1 := r) rfl (cons_ok (ρ1 := r) rfl rfl)) (has_few_ok hW hS hn))
  have i := few_find hW hS
  have last : fCall (m_find_teller rz) (fCons (fV 0) (fCons (fV 1) (fCons (fCall m_most_few (fCons (fV 1) (fNil))) (fNil)))) r = .ok (optP (findV ws S (2 * (S.length : Int) - 2))) r := call_ok (cons_ok (ρ1 := r) rfl (cons_ok (ρ1 := r) rfl (cons_ok (call_ok (cons_ok (ρ1 := r) rfl rfl) (most_few_ok S)) rfl))) (find_teller_ok hW (by omega) _)
  cases e : fewB ws S with
  | true =>
    rw [e] at c
    exact run_rt (g := g_few_teller rz) (seq_nx (if_no (not_ok c) rfl) (ret_ok last))
  | false =>
    rw [e] at c i
    rw [Option.isSome_eq_false_iff, Option.isNone_iff_eq_none] at i
    rw [i]
    exact run_rt (g := g_few_teller rz) (seq_rt (if_yes (not_ok c) (ret_ok (ρ := r) rfl)))
theorem pairT_flat (p : Stp × List Int) : (pairT p).plain = true ∧ (pairT p).depth ≤ 3 := by
  obtain ⟨a, b⟩ := p
  have h1 := tupI_plain a
  have h2 := tupI_plain b
  have h3 := tupI_depth a
  have h4 := tupI_depth b
  unfold pairT
  constructor
  · unfold PyData.plain PyData.plainAll PyData.plainAll PyData.plainAll
    simp [h1, h2]
  · unfold PyData.depth PyData.depthAll PyData.depthAll PyData.depthAll
    dsimp only
    omega
theorem pNotIn_pair {p : Stp × List Int} {ps : List (Stp × List Int)} (h : p ∈ ps) : pNotIn (pairT p) (.list (ps.map pairT)) = some (.bool false) := by
  have f := flat_of pairT_flat ps
  have g := pairT_flat p
  show (if okIn (pairT p) (ps.map pairT) = true then some (PyData.bool (!anyEq (pairT p) (ps.map pairT))) else none) = _
  have a : anyEq (pairT p) (ps.map pairT) = true := List.any_eq_true.mpr ⟨pairT p, List.mem_map.mpr ⟨p, h, rfl⟩, PySem.SeqAt.eqv_refl_plain _ g.1⟩
  rw [if_pos (by simp [okIn, f.1, g.1]; omega), a]; rfl
theorem uniq_len {ks : List Stp} (h : ks.Nodup) : (uniq ks).length = ks.length := ((List.perm_ext_iff_of_nodup (nodup_uniq ks) h).mpr fun _ => mem_uniq).length_eq
theorem mulL_nodup (hW : okW ws) {u : Stp} (hu : okS ws u) {k : Nat} (hk : k < ordN ws u) : (mulL ws u k).Nodup := by
  have := numD_nodup hW hu (ordN_is hW hu) hk
  rwa [mulL_keys] at this
theorem mem_mulL {u x : Stp} {k : Nat} : x ∈ mulL ws u k ↔ ∃ i : Nat, 1 ≤ i ∧ i ≤ k ∧ x = mulS ws u i := by
  unfold mulL
  rw [List.mem_map]
  constructor
  · rintro ⟨i, hi, rfl⟩; exact ⟨i + 1, by omega, by have := List.mem_range.mp hi; omega, rfl⟩
  · rintro ⟨i, a, b, rfl⟩; exact ⟨i - 1, List.mem_range.mpr (by omega), by rw [show i - 1 + 1 = i by omega]⟩
end Pu
end TS31

section TK03W
set_option Elab.async false
set_option linter.all false
set_option maxRecDepth 100000
set_option maxHeartbeats 410000
namespace K03
open PyProof.Rows L2 PySem PySem.Spec Pu Cm
variable {ns : List Int} {w : Drw}
theorem ite_yes {c : M Bool} {fa fb : M PyData} {d : PyData} {r r1 r2 : Pu.Env} (h : c r = .ok true r1) (k : fa r1 = .ok d r2) : fIte c fa fb r = .ok d r2 := by simp only [fIte, M.bind, h, if_true]; exact k
theorem ite_no {c : M Bool} {fa fb : M PyData} {d : PyData} {r r1 r2 : Pu.Env} (h : c r = .ok false r1) (k : fb r1 = .ok d r2) : fIte c fa fb r = .ok d r2 := by simp only [fIte, M.bind, h, Bool.false_eq_true, if_false]; exact k
theorem st_0 (ns : List Int) : g_law_0 (rhoL N_law.length ns) = .nx [.scr ns, .par true ⟨ns, 0, 5603, 0⟩, .un, .un, .un, .un, .un, .un, .un, .un, .un] := rfl
/-- a draw, and what it is compared with -/
theorem take_ok (hw : okD w) (k : Nat) (k1 : 1 ≤ k) (k2 : k < 1000) {fk : M PyData} {r : Pu.Env} {r' : Drw → Pu.Env} (e0 : r = r' w) (hk : fk r = .ok (.int k) r) (h0 : ∀ w, (r' w)[1]? = some (.par true w)) (hs : ∀ w w2, (r' w).set 1 (.par true w2) = r' w2) : ∃ (x : Nat) (w2 : Drw), x < k ∧ okD w2 ∧ fCallW 1 m__law_taken (fCons fk fNil) r = .ok (.int x) (r' w2) := by
  obtain ⟨x, w2, e, a, b, d⟩ := taken w k (by omega) (by omega) hw
  obtain ⟨y, rfl⟩ := Int.eq_ofNat_of_zero_le (a := x) a
  refine ⟨y, w2, by omega, d, ?_⟩
  subst e0
  rw [← hs w w2]
  exact callW_ok (i := 1) (w := w) (w0 := w) (l0 := true) (l := true) (ρ1 := r' w) (h0 w) (cons_ok hk rfl) (h0 w) e
theorem nat_gt0 (x : Nat) : pGt (.int (x : Nat)) (.int 0) = some (.bool (decide (0 < x))) := by
  rw [pGt_int]
  congr 2
  exact decide_eq_decide.mpr ⟨fun _ => by omega, fun _ => by omega⟩
theorem nat_eq0 (x : Nat) : pEq (.int (x : Nat)) (.int 0) = some (.bool (decide (x = 0))) := by
  rw [pEq_int]
  congr 2
  exact decide_eq_decide.mpr ⟨fun _ => by omega, fun _ => by omega⟩
/-! ### all rows round one wheel -/
def onesL (n : Nat) : List Stp := (List.range' 1 (n - 1)).map fun i : Nat => [(i : Int)]
theorem ones_lt (n : Nat) : (onesL n).Pairwise (· < ·) := by
  unfold onesL
  refine List.pairwise_map.mpr (List.Pairwise.imp (fun {i j} h => ?_) (List.pairwise_lt_range' (s := 1) (n := n - 1)))
  exact List.cons_lt_cons_iff.mpr (.inl (show (i : Int) < j by omega))
theorem ones_len (n : Nat) : (onesL n).length = n - 1 := by unfold onesL; rw [List.length_map, List.length_range']
theorem mem_ones {n : Nat} {s : Stp} : s ∈ onesL n ↔ ∃ v : Nat, 1 ≤ v ∧ v < n ∧ s = [(v : Int)] := by
  unfold onesL
  rw [List.mem_map]
  constructor
  · rintro ⟨i, hi, rfl⟩
    obtain ⟨a, b⟩ := List.mem_range'_1.mp hi
    exact ⟨i, a, by omega, rfl⟩
  · rintro ⟨i, a, b, rfl⟩
    exact ⟨i, List.mem_range'_1.mpr ⟨a, by omega⟩, rfl⟩
def freeB (n : Nat) (x : List Stp) : Bool := !decide (zeroS (wh n) ∈ sumsOf (wh n) x x.length)
def dueL (n l : Nat) : List (List Stp) := (lstL (onesL n) l).filter (freeB n)
theorem line_ok {n l : Nat} {x : List Stp} (h : x ∈ lstL (onesL n) l) : x.length = l ∧ ∀ s ∈ x, okS (wh n) s := by
  obtain ⟨a, b, _⟩ := mem_lst.mp h
  refine ⟨a, fun s hs => ?_⟩
  obtain ⟨v, _, hv, rfl⟩ := mem_ones.mp (b s hs)
  exact ok1.mpr ⟨v, hv, rfl⟩
theorem due_long {n l : Nat} (h2 : 2 ≤ n) (hn : n ≤ 400) (hl : n / 2 + 1 ≤ l) : dueL n l = longL n l := by
  have lt : (dueL n l).Pairwise (· < ·) := (lst_lt (ones_lt n) l).filter _
  have nd : (dueL n l).Nodup := lt.imp fun {a b} h (e : a = b) => List.lt_irrefl b (by rw [e] at h; exact h)
  refine order_one (le := leR) (fun _ _ => leR_anti) (lt.imp fun h => decide_eq_true (List.le_of_lt h)) (longL_pw n l) ((List.perm_ext_iff_of_nodup nd (longL_nodup h2 hn hl)).mpr fun x => ?_)
  rw [longL_mem h2 hn hl]
  unfold dueL
  rw [List.mem_filter, mem_lst]
  constructor
  · rintro ⟨⟨a, b, c⟩, d⟩
    unfold freeB at d
    rw [Bool.not_eq_true', decide_eq_false_iff_not] at d
    exact ⟨a, fun s hs => by
      obtain ⟨v, _, hv, rfl⟩ := mem_ones.mp (b s hs)
      exact ok1.mpr ⟨v, hv, rfl⟩, c, d⟩
  · intro h
    refine ⟨⟨h.len, fun s hs => ?_, h.up⟩, by unfold freeB; rw [Bool.not_eq_true', decide_eq_false_iff_not]; exact h.free⟩
    obtain ⟨v, hv, rfl⟩ := ok1.mp (h.ok s hs)
    refine mem_ones.mpr ⟨v, ?_, hv, rfl⟩
    rcases Nat.eq_zero_or_pos v with (rfl | p)
    · exfalso
      apply h.free
      -- a step that is home
      obtain ⟨pre, post, e⟩ := List.append_of_mem hs
      have hW := okW1 h2 hn
      obtain ⟨L, eL⟩ := lift_ex h.ok
      have hm : ∃ a ∈ L, a.1 = [((0 : Nat) : Int)] := by
        rw [← eL] at hs
        obtain ⟨a, ha, e⟩ := List.mem_map.mp hs
        exact ⟨a, ha, e⟩
      obtain ⟨a, ha, ea⟩ := hm
      obtain ⟨s1, t1, e1⟩ := List.append_of_mem ha
      letI := cg hW.wpos
      have z : (0 : Sub (wh n)) = a := Subtype.ext (show zeroS (wh n) = a.1 by rw [ea]; rfl)
      have i1 : Fs.In1 L 0 := by
        rw [e1]
        refine Fs.In1.perm (List.perm_middle (a := a) (l₁ := s1) (l₂ := t1)).symm (Fs.in1_cons.mpr (.inr ⟨0, Fs.in0_zero _, ?_⟩))
        rw [Fs.zda, z]
      have m := (in1_sums hW L 0).mp i1
      rw [eL] at m
      have : L.length = x.length := by rw [← eL, List.length_map]
      rw [this] at m
      exact m
    · exact p
theorem free_val {n l : Nat} (h2 : 2 ≤ n) (hn : n ≤ 9) {x : List Stp} (h : x ∈ lstL (onesL n) l) : m__law_sums [tupI (wh n), rowD x] = .ok (.list ((sumsOf (wh n) x x.length).map tupI)) :=
  law_sums_ok (okW1 h2 (by omega)) (by rw [size1]; omega) (line_ok h).2 (asSeq_rowD x)
abbrev ev (ns : List Int) (w : Drw) (n l : Nat) (D : List (List Stp)) (a7 a8 : Sl) : Pu.Env := [.scr ns, .par true w, .dat (.int n), .dat (.int l), .dat (.list ((onesL n).map tupI)), .dat (tupI (wh n)), .dat (.list (D.map rowD)), a7, a8, .un, .un]
theorem lst_few {n l : Nat} (hn : n ≤ 9) (hl : l ≤ 9) : (lstL (onesL n) l).length ≤ 131072 := by
  refine Nat.le_trans (lst_two (ones_lt n) l) ?_
  rw [ones_len]
  exact Nat.pow_le_pow_right (by decide) (show n - 1 + l ≤ 17 by omega)
theorem turn {n l : Nat} (h2 : 2 ≤ n) (hn : n ≤ 9) (hl : n / 2 + 1 ≤ l) (l9 : l ≤ 9) {x : List Stp} (hx : x ∈ lstL (onesL n) l) (hw : okD w) {D : List (List Stp)} (hD : D.length + 1 ≤ LIM) (a8 : Sl) : ∃ w2 a8', okD w2 ∧
    (sSeq (sAsg (f2 pNotIn (f1 kTup (fCons (fC (.int 0)) (fNil))) (fCall m__law_sums (fCons (fV 5) (fCons (fV 7) (fNil))))) (gN 8)) (sSeq (sAsg (f2 pAdd (fV 6) (fIte (fT (fV 8)) (f1 kLst (fCons (fV 7) (fNil))) (f1 kLst (fNil)))) (gN 6)) (sIf (fAnd (fTB (f2 pEq (fCallW 1 m__law_taken (fCons (fC (.int 9)) (fNil))) (fC (.int 0)))) (fTB (f2 pNe (f2 pIsNot (fCall (m_long_teller rz) (fCons (fV 2) (fCons (fV 7) (fNil)))) (fC .none)) (fV 8)))) (sRet (fC (.bool false))) (sNil)))) (ev ns w n l D (.dat (rowD x)) a8) = .nx (ev ns w2 n l (D ++ [x].filter (freeB n)) (.dat (rowD x)) a8') := by
  obtain ⟨xl, xo⟩ := line_ok hx
  let r0 := ev ns w n l D (.dat (rowD x)) a8
  let r1 := ev ns w n l D (.dat (rowD x)) (.dat (.bool (freeB n x)))
  have c1 : sAsg (f2 pNotIn (f1 kTup (fCons (fC (.int 0)) (fNil))) (fCall m__law_sums (fCons (fV 5) (fCons (fV 7) (fNil))))) (gN 8) r0 = .nx r1 := asg_ok (i := 8) (op2 (op1 (cons_ok (ρ1 := r0) rfl rfl) (kTup_1 _)) (call_ok (cons_ok (ρ1 := r0) rfl (cons_ok (ρ1 := r0) rfl rfl)) (free_val h2 hn hx)) (pNotIn_tups (zeroS (wh n)) _))
  let E := D ++ [x].filter (freeB n)
  have c2 : sAsg (f2 pAdd (fV 6) (fIte (fT (fV 8)) (f1 kLst (fCons (fV 7) (fNil))) (f1 kLst (fNil)))) (gN 6) r1 = .nx (ev ns w n l E (.dat (rowD x)) (.dat (.bool (freeB n x)))) := by
    have t : fT (fV 8) r1 = .ok (freeB n x) r1 := t_ok rfl
    have more : fIte (fT (fV 8)) (f1 kLst (fCons (fV 7) (fNil))) (f1 kLst (fNil)) r1 = .ok (.list (([x].filter (freeB n)).map rowD)) r1 := by
      cases e : freeB n x with
      | true =>
        rw [e] at t
        rw [List.filter_cons_of_pos e]
        exact ite_yes t (op1 (cons_ok (ρ1 := r1) rfl rfl) (kLst_1 _))
      | false =>
        rw [e] at t
        rw [List.filter_cons_of_neg (by rw [e]; decide)]
        exact ite_no t (op1 (ρ1 := r1) rfl kLst_0)
    have len : ([x].filter (freeB n)).length ≤ 1 := List.length_filter_le _ [x]
    have ad := pAdd_lst (xs := D.map rowD) (ys := ([x].filter (freeB n)).map rowD) (by rw [List.length_map, List.length_map]; omega)
    rw [← List.map_append] at ad
    exact asg_ok (i := 6) (op2 (ρ1 := r1) rfl more ad)
  obtain ⟨y, w2, _, d2, e2⟩ := take_ok hw 9 (by decide) (by decide) (fk := fC (.int 9)) (r := ev ns w n l E (.dat (rowD x)) (.dat (.bool (freeB n x)))) (r' := fun w => ev ns w n l E (.dat (rowD x)) (.dat (.bool (freeB n x)))) rfl rfl (fun _ => rfl) (fun _ _ => rfl)
  let r2 := ev ns w2 n l E (.dat (rowD x)) (.dat (.bool (freeB n x)))
  have t1 : fTB (f2 pEq (fCallW 1 m__law_taken (fCons (fC (.int 9)) (fNil))) (fC (.int 0))) (ev ns w n l E (.dat (rowD x)) (.dat (.bool (freeB n x)))) = .ok (decide (y = 0)) r2 := tb_ok (op2 e2 (ρ2 := r2) rfl (nat_eq0 y))
  have lt := long_teller_ok (rz := rz) h2 (by omega) xo (by omega) (by omega)
  have lf := long_found h2 (by omega) xo (by omega)
  have t2 : fTB (f2 pNe (f2 pIsNot (fCall (m_long_teller rz) (fCons (fV 2) (fCons (fV 7) (fNil)))) (fC .none)) (fV 8)) r2 = .ok false r2 := by
    refine tb_ok (op2 (op2 (call_ok (cons_ok (ρ1 := r2) rfl (cons_ok (ρ1 := r2) rfl rfl)) lt) (ρ2 := r2) rfl (show pIsNot (optP ((tellL (wh n) x).head?)) .none = some (.bool ((tellL (wh n) x).head?).isSome) by cases (tellL (wh n) x).head? <;> rfl)) (ρ2 := r2) rfl ?_)
    rw [lf, pNe_bool]
    show some (PyData.bool (!(freeB n x == freeB n x))) = _
    cases freeB n x <;> rfl
  have c3 : sIf (fAnd (fTB (f2 pEq (fCallW 1 m__law_taken (fCons (fC (.int 9)) (fNil))) (fC (.int 0)))) (fTB (f2 pNe (f2 pIsNot (fCall (m_long_teller rz) (fCons (fV 2) (fCons (fV 7) (fNil)))) (fC .none)) (fV 8)))) (sRet (fC (.bool false))) (sNil) (ev ns w n l E (.dat (rowD x)) (.dat (.bool (freeB n x)))) = .nx r2 := by
    cases e : decide (y = 0) with
    | true => rw [e] at t1; exact if_no (and_yes t1 t2) rfl
    | false => rw [e] at t1; exact if_no (and_no t1) rfl
  exact ⟨w2, _, d2, seq_nx c1 (seq_nx c2 c3)⟩
theorem longN_few : ∀ n, n < 10 → ∀ l, l < 10 → longN n l ≤ 5000 := by decide +kernel
theorem part1 {n l : Nat} (h2 : 2 ≤ n) (hn : n ≤ 9) (hl : n / 2 + 1 ≤ l) (l9 : l ≤ 9) (hw : okD w) : ∃ ρ, (sSeq (sFor (fSeq (fCall m__law_lists (fCons (fV 4) (fCons (fV 3) (fNil))))) (gN 7) (sSeq (sAsg (f2 pNotIn (f1 kTup (fCons (fC (.int 0)) (fNil))) (fCall m__law_sums (fCons (fV 5) (fCons (fV 7) (fNil))))) (gN 8)) (sSeq (sAsg (f2 pAdd (fV 6) (fIte (fT (fV 8)) (f1 kLst (fCons (fV 7) (fNil))) (f1 kLst (fNil)))) (gN 6)) (sIf (fAnd (fTB (f2 pEq (fCallW 1 m__law_taken (fCons (fC (.int 9)) (fNil))) (fC (.int 0)))) (fTB (f2 pNe (f2 pIsNot (fCall (m_long_teller rz) (fCons (fV 2) (fCons (fV 7) (fNil)))) (fC .none)) (fV 8)))) (sRet (fC (.bool false))) (sNil))))) (sRet (fCall (m__law_alike 5) (fCons (f1 kLst (fCons (fCall (m_long_rows rz) (fCons (fV 2) (fCons (fV 3) (fNil)))) (fCons (fCall (m_count_long rz) (fCons (fV 2) (fCons (fV 3) (fNil)))) (fNil)))) (fCons (f1 kLst (fCons (f1 pTuple (fCons (fV 6) (fNil))) (fCons (f1 pLen (fCons (fV 6) (fNil))) (fNil)))) (fNil)))))) (ev ns w n l [] .un .un) = .rt (.bool true) ρ := by
  have few := lst_few (l := l) hn l9
  let r0 := ev ns w n l [] .un .un
  have ll : m__law_lists [.list ((onesL n).map tupI), .int l] = .ok (.list ((lstL (onesL n) l).map rowD)) := law_lists_ok (by omega) (by rw [ones_len]; omega) fun j hj => by
    have := lst_few (l := j) hn (by omega)
    unfold LIM; omega
  have sq : fSeq (fCall m__law_lists (fCons (fV 4) (fCons (fV 3) (fNil)))) r0 = .ok ((lstL (onesL n) l).map rowD) r0 := by
    have c : fCall m__law_lists (fCons (fV 4) (fCons (fV 3) (fNil))) r0 = .ok (.list ((lstL (onesL n) l).map rowD)) r0 := call_ok (cons_ok (ρ1 := r0) rfl (cons_ok (ρ1 := r0) rfl rfl)) ll
    simp only [fSeq, M.bind, c, asSeq_lst, M.lift]
  obtain ⟨ρ', e, w2, a7, a8, rfl, d⟩ := forL_pre (fun (pre : List (List Stp)) ρ => ∃ w a7 a8, ρ = ev ns w n l (pre.filter (freeB n)) a7 a8 ∧ okD w) rowD (xs := lstL (onesL n) l) (g := gN 7)
    (b := (sSeq (sAsg (f2 pNotIn (f1 kTup (fCons (fC (.int 0)) (fNil))) (fCall m__law_sums (fCons (fV 5) (fCons (fV 7) (fNil))))) (gN 8)) (sSeq (sAsg (f2 pAdd (fV 6) (fIte (fT (fV 8)) (f1 kLst (fCons (fV 7) (fNil))) (f1 kLst (fNil)))) (gN 6)) (sIf (fAnd (fTB (f2 pEq (fCallW 1 m__law_taken (fCons (fC (.int 9)) (fNil))) (fC (.int 0)))) (fTB (f2 pNe (f2 pIsNot (fCall (m_long_teller rz) (fCons (fV 2) (fCons (fV 7) (fNil)))) (fC .none)) (fV 8)))) (sRet (fC (.bool false))) (sNil)))))
    (fun pre x post ρ es ⟨w1, a7, a8, e, d1⟩ => by
      subst e
      have hx : x ∈ lstL (onesL n) l := by rw [es]; exact List.mem_append_right _ List.mem_cons_self
      have pl : pre.length ≤ (lstL (onesL n) l).length := by rw [es, List.length_append]; omega
      have fl : (pre.filter (freeB n)).length ≤ pre.length := List.length_filter_le _ _
      obtain ⟨w2, a8', d2, t⟩ := turn (ns := ns) h2 hn hl l9 hx d1 (D := pre.filter (freeB n)) (by unfold LIM; omega) a8
      exact ⟨ev ns w1 n l (pre.filter (freeB n)) (.dat (rowD x)) a8, _, rfl, t, w2, .dat (rowD x), a8', by rw [List.filter_append], d2⟩)
    (ρ := r0) ⟨w, _, _, rfl, hw⟩
  have ed : (lstL (onesL n) l).filter (freeB n) = longL n l := due_long h2 (by omega) hl
  rw [ed] at e
  let r := ev ns w2 n l (longL n l) a7 a8
  have f5 := longN_few n (by omega) l (by omega)
  have v1 : fCall (m_long_rows rz) (fCons (fV 2) (fCons (fV 3) (fNil))) r = .ok (.tuple ((longL n l).map rowD)) r := call_ok (cons_ok (ρ1 := r) rfl (cons_ok (ρ1 := r) rfl rfl)) (long_rows_ok h2 (by omega) hl (by omega) f5)
  have v2 : fCall (m_count_long rz) (fCons (fV 2) (fCons (fV 3) (fNil))) r = .ok (.int (longN n l : Nat)) r := call_ok (cons_ok (ρ1 := r) rfl (cons_ok (ρ1 := r) rfl rfl)) (count_long_ok h2 (by omega) hl (by omega))
  have kl2 : ∀ a b : PyData, kLst [a, b] = some (.list [a, b]) := fun _ _ => rfl
  have s1 : f1 kLst (fCons (fCall (m_long_rows rz) (fCons (fV 2) (fCons (fV 3) (fNil)))) (fCons (fCall (m_count_long rz) (fCons (fV 2) (fCons (fV 3) (fNil)))) (fNil))) r = .ok (.list [.tuple ((longL n l).map rowD), .int (longN n l : Nat)]) r := op1 (cons_ok v1 (cons_ok v2 rfl)) (kl2 _ _)
  have s2 : f1 kLst (fCons (f1 pTuple (fCons (fV 6) (fNil))) (fCons (f1 pLen (fCons (fV 6) (fNil))) (fNil))) r = .ok (.list [.tuple ((longL n l).map rowD), .int (longN n l : Nat)]) r := op1 (cons_ok (op1 (cons_ok (ρ1 := r) rfl rfl) (pTuple_l _)) (cons_ok (op1 (cons_ok (ρ1 := r) rfl rfl) (by rw [pLen_lst, List.length_map, longL_len])) rfl)) (kl2 _ _)
  have len1 := longL_len n l
  have gd : Good 5 (.list [.tuple ((longL n l).map rowD), .int (longN n l : Nat)]) := .lst (by show 2 ≤ LIM; unfold LIM; decide) fun x hx => by
    rcases List.mem_cons.mp hx with (rfl | hx')
    · refine .tup (by rw [List.length_map, len1]; unfold LIM; omega) fun y hy => ?_
      obtain ⟨row, hr, rfl⟩ := List.mem_map.mp hy
      have lr := (longL_mem h2 (by omega) hl).mp hr
      exact good_tups (j := 0) (by rw [lr.len]; unfold LIM; omega) fun s hs => by have := (lr.ok s hs).len; rw [this]; show 1 ≤ LIM; unfold LIM; decide
    · cases List.mem_singleton.mp hx'
      exact .int 3 _
  exact ⟨r, seq_nx (for_ok sq e) (ret_ok (call_ok (cons_ok s1 (cons_ok s2 rfl)) (alike_refl gd)))⟩
theorem st_1 (ns : List Int) {k : SM} (h : ∀ w, okD w → ∃ ρ, k [.scr ns, .par true w, .un, .un, .un, .un, .un, .un, .un, .un, .un] = .rt (.bool true) ρ) : ∃ ρ, sSeq g_law_1 k [.scr ns, .par true ⟨ns, 0, 5603, 0⟩, .un, .un, .un, .un, .un, .un, .un, .un, .un] = .rt (.bool true) ρ := by
  let e0 (w : Drw) : Pu.Env := [.scr ns, .par true w, .un, .un, .un, .un, .un, .un, .un, .un, .un]
  obtain ⟨x, w1, _, d1, e1⟩ := take_ok (w := ⟨ns, 0, 5603, 0⟩) (Int.le_refl 0) 3 (by decide) (by decide) (fk := fC (.int 3)) (r := e0 _) (r' := e0) rfl rfl (fun _ => rfl) (fun _ _ => rfl)
  have t1 : fTB (f2 pGt (fCallW 1 m__law_taken (fCons (fC (.int 3)) (fNil))) (fC (.int 0))) (e0 ⟨ns, 0, 5603, 0⟩) = .ok (decide (0 < x)) (e0 w1) := tb_ok (op2 e1 (ρ2 := e0 w1) rfl (nat_gt0 x))
  by_cases hx : 0 < x
  · rw [decide_eq_true hx] at t1
    -- the places
    obtain ⟨y, w2, _, d2, e2⟩ := take_ok d1 4 (by decide) (by decide) (fk := fC (.int 4)) (r := e0 w1) (r' := e0) rfl rfl (fun _ => rfl) (fun _ _ => rfl)
    have t2 : fTB (f2 pGt (fCallW 1 m__law_taken (fCons (fC (.int 4)) (fNil))) (fC (.int 0))) (e0 w1) = .ok (decide (0 < y)) (e0 w2) := tb_ok (op2 e2 (ρ2 := e0 w2) rfl (nat_gt0 y))
    have pl : ∃ (p : Nat) (w3 : Drw), p < 8 ∧ okD w3 ∧ fCallW 1 m__law_taken (fCons (fIte (fTB (f2 pGt (fCallW 1 m__law_taken (fCons (fC (.int 4)) (fNil))) (fC (.int 0)))) (fC (.int 7)) (fC (.int 8))) (fNil)) (e0 w1) = .ok (.int p) (e0 w3) := by
      have go : ∀ k : Nat, 1 ≤ k → k ≤ 8 → fIte (fTB (f2 pGt (fCallW 1 m__law_taken (fCons (fC (.int 4)) (fNil))) (fC (.int 0)))) (fC (.int 7)) (fC (.int 8)) (e0 w1) = .ok (.int k) (e0 w2) → ∃ (p : Nat) (w3 : Drw), p < 8 ∧ okD w3 ∧ fCallW 1 m__law_taken (fCons (fIte (fTB (f2 pGt (fCallW 1 m__law_taken (fCons (fC (.int 4)) (fNil))) (fC (.int 0)))) (fC (.int 7)) (fC (.int 8))) (fNil)) (e0 w1) = .ok (.int p) (e0 w3) := fun k k1 k2 hk => by
        obtain ⟨p, w3, e, a, b, d⟩ := taken w2 k (by omega) (by omega) d2
        obtain ⟨p, rfl⟩ := Int.eq_ofNat_of_zero_le (a := p) a
        exact ⟨p, w3, by omega, d, callW_ok (i := 1) (w := w2) (w0 := w1) (l0 := true) (l := true) (ρ1 := e0 w2) rfl (cons_ok hk rfl) rfl e⟩
      cases e : decide (0 < y) with
      | true => rw [e] at t2; exact go 7 (by decide) (by decide) (ite_yes t2 rfl)
      | false => rw [e] at t2; exact go 8 (by decide) (by decide) (ite_no t2 rfl)
    obtain ⟨p, w3, hp, d3, e3⟩ := pl
    let n := 2 + p
    let e4 (w : Drw) : Pu.Env := [.scr ns, .par true w, .dat (.int (n : Nat)), .un, .un, .un, .un, .un, .un, .un, .un]
    have c1 : sAsg (f2 pAdd (fC (.int 2)) (fCallW 1 m__law_taken (fCons (fIte (fTB (f2 pGt (fCallW 1 m__law_taken (fCons (fC (.int 4)) (fNil))) (fC (.int 0)))) (fC (.int 7)) (fC (.int 8))) (fNil)))) (gN 2) (e0 w1) = .nx (e4 w3) := asg_ok (i := 2) (ρ1 := e0 w3) (op2 (ρ1 := e0 w1) rfl e3 (by rw [pAdd_int]; congr 2))
    -- the size
    obtain ⟨q, w4, hq, d4, e5⟩ := take_ok d3 (n - n / 2) (by omega) (by omega) (fk := f2 pSub (fV 2) (f2 pDiv (fV 2) (fC (.int 2)))) (r := e4 w3) (r' := e4) rfl (op2 (ρ1 := e4 w3) rfl (op2 (ρ1 := e4 w3) (ρ2 := e4 w3) rfl rfl (half_ok n)) (by rw [pSub_int]; congr 2; omega)) (fun _ => rfl) (fun _ _ => rfl)
    let l := n / 2 + 1 + q
    let e6 (w : Drw) : Pu.Env := [.scr ns, .par true w, .dat (.int (n : Nat)), .dat (.int (l : Nat)), .un, .un, .un, .un, .un, .un, .un]
    have c2 : sAsg (f2 pAdd (f2 pAdd (f2 pDiv (fV 2) (fC (.int 2))) (fC (.int 1))) (fCallW 1 m__law_taken (fCons (f2 pSub (fV 2) (f2 pDiv (fV 2) (fC (.int 2)))) (fNil)))) (gN 3) (e4 w3) = .nx (e6 w4) := asg_ok (i := 3) (ρ1 := e4 w4) (d := .int (l : Nat)) (op2 (op2 (op2 (ρ1 := e4 w3) (ρ2 := e4 w3) rfl rfl (half_ok n)) (ρ2 := e4 w3) rfl (c := .int ((n / 2 + 1 : Nat) : Int)) rfl) e5 (by rw [pAdd_int]; congr 2))
    have h2 : 2 ≤ n := by omega
    have hn : n ≤ 9 := by omega
    have lc := lc_map (fun i : Nat => PyData.int i) (fun i : Nat => tupI [(i : Int)]) (fl := fRng2 (fCons (fC (.int 1)) (fCons (fV 2) (fNil)))) (g := gN 10) (e := f1 kTup (fCons (fV 10) (fNil))) (vs := [10]) (ρ := e6 w4) (ρ0 := e6 w4) (ρ' := e6 w4) (xs := List.range' 1 (n - 1)) (lift1 (as := [.int ((1 : Nat) : Int), .int n]) (cons_ok (ρ1 := e6 w4) rfl (cons_ok (ρ1 := e6 w4) rfl rfl)) (asRng2_nat (by omega) (by omega))) rfl rfl (by rw [List.length_range']; unfold LIM; omega) fun i hi => by
      let z : Pu.Env := [.scr ns, .par true w4, .dat (.int (n : Nat)), .dat (.int (l : Nat)), .un, .un, .un, .un, .un, .un, .dat (.int i)]
      exact ⟨z, z, rfl, op1 (cons_ok (ρ1 := z) rfl rfl) (kTup_1 _), rfl⟩
    have eo : (List.range' 1 (n - 1)).map (fun i : Nat => tupI [(i : Int)]) = (onesL n).map tupI := by unfold onesL; rw [List.map_map]; rfl
    rw [eo] at lc
    have c3 : sPar [4, 5, 6] (fCons (fLc (fRng2 (fCons (fC (.int 1)) (fCons (fV 2) (fNil)))) (gN 10) (fYes) (f1 kTup (fCons (fV 10) (fNil))) [10]) (fCons (f1 kTup (fCons (fV 2) (fNil))) (fCons (f1 kLst (fNil)) (fNil)))) (e6 w4) = .nx (ev ns w4 n l [] .un .un) := by
      have h : (fCons (fLc (fRng2 (fCons (fC (.int 1)) (fCons (fV 2) (fNil)))) (gN 10) (fYes) (f1 kTup (fCons (fV 10) (fNil))) [10]) (fCons (f1 kTup (fCons (fV 2) (fNil))) (fCons (f1 kLst (fNil)) (fNil)))) (e6 w4) = .ok [.list ((onesL n).map tupI), tupI (wh n), .list []] (e6 w4) := cons_ok lc (cons_ok (op1 (cons_ok (ρ1 := e6 w4) rfl rfl) (kTup_1 _)) (cons_ok (op1 (ρ1 := e6 w4) rfl kLst_0) rfl))
      unfold sPar sE
      rw [h]; rfl
    obtain ⟨ρ, last⟩ := part1 (ns := ns) h2 hn (show n / 2 + 1 ≤ l by omega) (by omega) d4
    exact ⟨ρ, seq_rt (if_yes t1 (seq_nx c1 (seq_nx c2 (seq_nx c3 last))))⟩
  · rw [decide_eq_false hx] at t1
    obtain ⟨ρ, e⟩ := h w1 d1
    exact ⟨ρ, seq_nx (if_no t1 rfl) e⟩
/-! ### few sums, of all rows round some wheels -/
def somL : List (List Int) := [[2, 2], [2, 4], [3, 3], [2, 2, 2], [6], [2, 3], [7]]
theorem som_ok : ∀ ws ∈ somL, okW ws ∧ sizeN ws ≤ 9 := by
  intro ws h
  have : ∀ ws ∈ somL, (1 ≤ ws.length ∧ ws.length ≤ 3 ∧ (∀ w ∈ ws, 2 ≤ w ∧ w ≤ 400) ∧ ws.foldl (· * ·) 1 ≤ 400 ∧ sizeN ws ≤ 9) := by decide
  obtain ⟨a, b, c, d, e⟩ := this ws h
  exact ⟨⟨a, b, c, d⟩, e⟩
theorem last (ns : List Int) (hw : okD w) : ∃ ρ, sSeq g_law_2 (sSeq g_law_3 (sSeq g_law_4 g_law_5)) [.scr ns, .par true w, .un, .un, .un, .un, .un, .un, .un, .un, .un] = .rt (.bool true) ρ := by
  let e0 (w : Drw) : Pu.Env := [.scr ns, .par true w, .un, .un, .un, .un, .un, .un, .un, .un, .un]
  obtain ⟨ws, w1, hm, e1, d1⟩ := pick_ok w tupI somL (.inl rfl) (by decide) (by decide) hw
  obtain ⟨hW, sz⟩ := som_ok ws hm
  have few : ws.length ≤ 1000 := by have := hW.few; omega
  let e2 (w : Drw) : Pu.Env := [.scr ns, .par true w, .un, .un, .un, .dat (tupI ws), .un, .un, .un, .un, .un]
  have c1 : g_law_2 (e0 w) = .nx (e2 w1) := asg_ok (i := 5) (ρ1 := e0 w1) (callW_ok (i := 1) (w := w) (w0 := w) (l0 := true) (l := true) (ρ1 := e0 w) rfl rfl rfl e1)
  obtain ⟨q, w2, hq, d2, e3⟩ := take_ok d1 3 (by decide) (by decide) (fk := fC (.int 3)) (r := e2 w1) (r' := e2) rfl rfl (fun _ => rfl) (fun _ _ => rfl)
  let l := 2 + q
  let r : Pu.Env := [.scr ns, .par true w2, .un, .dat (.int (l : Nat)), .un, .dat (tupI ws), .un, .un, .un, .un, .un]
  have c2 : g_law_3 (e2 w1) = .nx r := asg_ok (i := 3) (ρ1 := e2 w2) (d := .int (l : Nat)) (op2 (ρ1 := e2 w1) rfl e3 (by rw [pAdd_int]; congr 2))
  have sl := steps_len ws
  have cut : pCut (.list ((stepsL ws).map tupI)) (some 1) none = some (.list ((stepsL ws).tail.map tupI)) := by
    show some (PyData.list (cutD ((stepsL ws).map tupI) (some 1) none)) = _
    have p : 1 ≤ (stepsL ws).length := by rw [sl]; exact fold_pos ws hW.wpos
    rw [cut_hi (by omega) (by rw [List.length_map]; omega)]
    cases stepsL ws <;> rfl
  have tl8 : (stepsL ws).tail.length ≤ 8 := by rw [List.length_tail]; omega
  have bnd : ∀ j, j ≤ l → (lstL (stepsL ws).tail j).length ≤ 4096 := fun j hj => by
    refine Nat.le_trans (lst_pow j) (Nat.le_trans (Nat.pow_le_pow_left tl8 j) ?_)
    exact Nat.pow_le_pow_right (by decide) (show j ≤ 4 by omega)
  have ll := law_lists_ok (steps := (stepsL ws).tail) (k := l) (by omega) (by omega) fun j hj => by have := bnd j hj; unfold LIM; omega
  have sq : fSeq (fCall m__law_lists (fCons (fCut (fCall m__law_steps (fCons (fV 5) (fNil))) (fO (fC (.int 1))) (fO0)) (fCons (fV 3) (fNil)))) r = .ok ((lstL (stepsL ws).tail l).map rowD) r := by
    have c : fCall m__law_lists (fCons (fCut (fCall m__law_steps (fCons (fV 5) (fNil))) (fO (fC (.int 1))) (fO0)) (fCons (fV 3) (fNil))) r = .ok (.list ((lstL (stepsL ws).tail l).map rowD)) r := call_ok (cons_ok (cut_ok (ρ1 := r) (ρ2 := r) (ρ3 := r) (call_ok (cons_ok (ρ1 := r) rfl rfl) (law_steps_ok hW)) (o_ok (i := 1) rfl) rfl cut) (cons_ok (ρ1 := r) rfl rfl)) ll
    simp only [fSeq, M.bind, c, asSeq_lst, M.lift]
  obtain ⟨ρ', e, a7, a9, rfl⟩ := forL_pre (fun (_ : List (List Stp)) ρ => ∃ a7 a9, ρ = [.scr ns, .par true w2, .un, .dat (.int (l : Nat)), .un, .dat (tupI ws), .un, a7, .un, a9, .un]) rowD (xs := lstL (stepsL ws).tail l) (g := gN 7)
    (b := sSeq (sAsg (fCall m__law_sums (fCons (fV 5) (fCons (fV 7) (fNil)))) (gN 9)) (sIf (fTB (f2 pNe (fCall (m_has_few rz) (fCons (fV 5) (fCons (fV 7) (fNil)))) (fAndV (f2 pNotIn (fCall m__law_home (fCons (fV 5) (fNil))) (fV 9)) (f2 pLe (f1 pLen (fCons (fV 9) (fNil))) (f2 pSub (f2 pMul (fC (.int 2)) (fV 3)) (fC (.int 2))))))) (sRet (fC (.bool false))) (sNil)))
    (fun pre x post ρ es ⟨a7, a9, e⟩ => by
      subst e
      have hx : x ∈ lstL (stepsL ws).tail l := by rw [es]; exact List.mem_append_right _ List.mem_cons_self
      obtain ⟨xl, xm, _⟩ := mem_lst.mp hx
      have xo : ∀ s ∈ x, okS ws s := fun s hs => mem_steps.mp (List.mem_of_mem_tail (xm s hs))
      let r1 : Pu.Env := [.scr ns, .par true w2, .un, .dat (.int (l : Nat)), .un, .dat (tupI ws), .un, .dat (rowD x), .un, a9, .un]
      let r2 : Pu.Env := [.scr ns, .par true w2, .un, .dat (.int (l : Nat)), .un, .dat (tupI ws), .un, .dat (rowD x), .un, .dat (.list ((sumsOf ws x x.length).map tupI)), .un]
      have k1 : sAsg (fCall m__law_sums (fCons (fV 5) (fCons (fV 7) (fNil)))) (gN 9) r1 = .nx r2 := asg_ok (i := 9) (call_ok (cons_ok (ρ1 := r1) rfl (cons_ok (ρ1 := r1) rfl rfl)) (law_sums_ok hW (by omega) xo (asSeq_rowD x)))
      have v1 : fCall (m_has_few rz) (fCons (fV 5) (fCons (fV 7) (fNil))) r2 = .ok (.bool (fewB ws x)) r2 := call_ok (cons_ok (ρ1 := r2) rfl (cons_ok (ρ1 := r2) rfl rfl)) (has_few_ok hW xo (by omega))
      have u1 : f2 pNotIn (fCall m__law_home (fCons (fV 5) (fNil))) (fV 9) r2 = .ok (.bool (!decide (zeroS ws ∈ sumsOf ws x x.length))) r2 := op2 (call_ok (cons_ok (ρ1 := r2) rfl rfl) (law_home_ok few)) (ρ2 := r2) rfl (pNotIn_tups _ _)
      have hl : pLen [.list ((sumsOf ws x x.length).map tupI)] = some (.int ((sumsOf ws x x.length).length : Nat)) := by rw [pLen_lst, List.length_map]
      have u2 : f2 pLe (f1 pLen (fCons (fV 9) (fNil))) (f2 pSub (f2 pMul (fC (.int 2)) (fV 3)) (fC (.int 2))) r2 = .ok (.bool (decide ((((sumsOf ws x x.length).length : Nat) : Int) ≤ 2 * (x.length : Int) - 2))) r2 := by
        rw [xl]
        exact op2 (op1 (cons_ok (ρ1 := r2) rfl rfl) (by rw [xl] at hl; rw [← hl]; show pLen [.list ((sumsOf ws x x.length).map tupI)] = _; rw [xl])) (op2 (op2 (ρ1 := r2) (ρ2 := r2) rfl rfl (twice _)) (ρ2 := r2) rfl rfl) (pLe_int _ _)
      have v2 := few_val u1 u2
      have t : fTB (f2 pNe (fCall (m_has_few rz) (fCons (fV 5) (fCons (fV 7) (fNil)))) (fAndV (f2 pNotIn (fCall m__law_home (fCons (fV 5) (fNil))) (fV 9)) (f2 pLe (f1 pLen (fCons (fV 9) (fNil))) (f2 pSub (f2 pMul (fC (.int 2)) (fV 3)) (fC (.int 2)))))) r2 = .ok false r2 := tb_ok (op2 v1 v2 (by rw [pNe_bool]; cases fewB ws x <;> rfl))
      exact ⟨r1, r2, rfl, seq_nx k1 (if_no t rfl), _, _, rfl⟩)
    (ρ := r) ⟨_, _, rfl⟩
  exact ⟨_, seq_nx c1 (seq_nx c2 (seq_nx (for_ok sq e) (ret_ok rfl)))⟩
theorem win (ns : List Int) (h : ns.length ≤ 63) : ∃ ρ, g_law (rhoL N_law.length ns) = .rt (.bool true) ρ := by
  obtain ⟨ρ, e⟩ := st_1 ns (k := sSeq g_law_2 (sSeq g_law_3 (sSeq g_law_4 g_law_5))) fun w hw => last ns hw
  exact ⟨ρ, seq_nx (st_0 ns) e⟩
end K03
end TK03W

open PyProof.Rows PySem PySem.Calls PySem.W
set_option maxRecDepth 110000 in
set_option maxHeartbeats 0 in
theorem PySem.Challenge.cw_nolothome_k03_whole_all_rows_holds : PySem.Challenge.rw_nolothome_k03_whole_all_rows.Holds := by
  w_on; o_law
  refine HandSHeadRun.head_imp (r := OpenLaw.row PySem.Challenge.rw_nolothome_k03_whole_all_rows) (q := view (OpenLaw.row PySem.Challenge.rw_nolothome_k03_whole_all_rows).prog [0, 61]) (H := K03.hk) (ob := K03.ob) (M := 40000) (loose := K03.lo) (d := HandSHeadRun.topDef (OpenLaw.row PySem.Challenge.rw_nolothome_k03_whole_all_rows).prog 61) (kwd := []) K03.ob_eq K03.run (by kernel_rfl) (by kernel_rfl) (by kernel_rfl) (by rfl) (by first | assumption | decide +kernel) (by decide +kernel) ⟨rfl, rfl, rfl, rfl, rfl, by decide +kernel⟩ ?hw ?hc
  case hw => w_witness2
  case hc =>
    refine Pu.walkX (l := PySem.Challenge.rw_nolothome_k03_whole_all_rows) (n := 63) (k := 8) (x := "script") rfl (by decide) (by kernel_rfl) ⟨rfl, by decide, by decide⟩ ?F
    intro w mg fa h Y G hmg0
    obtain ⟨K, KX, c⟩ := Y
    have at_law : mg ("law" : PySem.Str) = some (.ref fa) := by
      have e : (HandSHeadRun.topDef (OpenLaw.row PySem.Challenge.rw_nolothome_k03_whole_all_rows).prog 61).name = ("law" : PySem.Str) := by kernel_rfl
      rw [← e]
      exact hmg0
    obtain ⟨Gg, Aa⟩ := K03.facts KX G c
    obtain ⟨f, hf⟩ := Aa.alaw
    obtain ⟨fd, F⟩ := hf.fn
    have e := at_law.symm.trans hf.mg
    cases e
    exact ⟨K, fd, KX, fun s v => L2.FunD.bindsA (ps := ["script"]) F (fun _ _ _ _ _ _ us hl => match us, hl with | [_], _ => rfl) s [v] rfl, fun base _ _ => Pu.lawOk F K03.sc_law (K03.B_law Gg Aa) K03.win⟩
