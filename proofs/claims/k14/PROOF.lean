import PyProof.Rows.All
import Wide.All
import OpenK.AllK
import Wide.FinOn
import HandS.ForMost
import HandS.Exc
import HandS.TryOnly
import HandS.ExcOwn
import HandS.WordsExc
import HandS.Lambda
import HandS.Wide
import HandS.Gcd
import HandS.IsInst
import HandS.ExcCtx
import HandS.FStr
import HandS.TupAny
import HandS.TupMul
import HandS.EndTab
import HandS.HotCalls
import HandS.ExcIs
import HandS.SuiteRaise
import HandS.EndOwn
import KE.KNestM
import HandS.EndBits
import HandS.Dict
import HandS.DictComp
import PyProof.StrOps2
import HandS.Zip
import HandS.Style
import KE.KMathG
import HandS.SortRule
import HandS.SortInts
import PyProof.P3Eq
import HandS.Iter
import KE.GoesZip
import KE.GoesMore
import KE.GoesEnum
import HandS.More
import KE.KUnpack
import HandS.Conv
import HandS.Flow
import KE.KDictDisplayH
import HandS.SlotsOwn
import KE.DataMinMax
import KE.DataCmp
import KE.SortData
import PySem.Challenge.RW_roundwaves_k14_errors_apart
set_option Elab.async false
set_option linter.all false
set_option maxRecDepth 100000
set_option maxHeartbeats 2000000
/-! Data without addresses, over the hand layer: a value is data, what changes stands in a store by numbers. -/
namespace Dn
open PySem L2

inductive D where
  | non | bl (b : Bool) | int (i : Int) | str (s : Str) | tup (ds : List D) | ref (n : Nat) | ty (n : String) | kl (ds : List D) | ob (a : Addr)
inductive Cell where
  | lst (ds : List D) | dct (kvs : List (Key × D))
  | dtt (kvs : List (List Int × D)) | obj (C : Addr) (fs : List (Str × D)) | exc (C : Addr)
abbrev Sto := List Cell
abbrev Ev := List (Option D)

/-- a result: a value and the store; an exception of the n-th class; nothing is known -/
inductive R (α : Type) where
  | ok (a : α) (st : Sto) | er (n : Nat) (st : Sto) | no
def R.bind {α β : Type} (r : R α) (f : α → Sto → R β) : R β := match r with
  | .ok a st => f a st
  | .er n st => .er n st
  | .no => .no
@[simp] theorem R.bind_ok {α β : Type} (a : α) (st : Sto) (f : α → Sto → R β) : (R.ok a st).bind f = f a st := rfl
@[simp] theorem R.bind_er {α β : Type} (n : Nat) (st : Sto) (f : α → Sto → R β) : (R.er n st).bind f = .er n st := rfl
@[simp] theorem R.bind_no {α β : Type} (f : α → Sto → R β) : (R.no : R α).bind f = .no := rfl

/-- a list that never changes: locked, or the module's own -/
def SqF (K : PySem.W.Frag) (H : Hp) (ρ : List Addr) (a : Addr) (xs : List V) : Prop :=
  ((∃ o, H a = some (.frz o (.lst xs))) ∨ (H a = some (.lst xs) ∧ a ∉ ρ)) ∨
    ∃ (o : Obj) (its : Array Value) (n : Nat), K.lookup a = some o ∧ o.cls = .type "list" ∧ o.dict = none ∧ o.data = .seq its n ∧ its.size ≤ sizeLine ∧ Vals xs its.toList
theorem SqF.l {K : PySem.W.Frag} {H : Hp} {ρ : List Addr} {a : Addr} {xs : List V} (h : SqF K H ρ a xs) : SqL K H a xs := by
  rcases h with (⟨o, h⟩ | ⟨h, _⟩) | h
  · exact .inl (.inr ⟨o, h⟩)
  · exact .inl (.inl h)
  · exact .inr h
theorem SqF.cut {K : PySem.W.Frag} {H : Hp} {ρ l : List Addr} {a : Addr} {xs : List V} (h : SqF K H (ρ ++ l) a xs) : SqF K H ρ a xs := by
  rcases h with (h | ⟨h, n⟩) | h
  · exact .inl (.inl h)
  · exact .inl (.inr ⟨h, fun z => n (List.mem_append_left _ z)⟩)
  · exact .inr h
mutual
inductive EV (K : PySem.W.Frag) (H : Hp) (ρ : List Addr) : D → V → Prop
  | non : EV K H ρ .non .non
  | bl (b : Bool) : EV K H ρ (.bl b) (.bl b)
  | int (i : Int) : EV K H ρ (.int i) (.int i)
  | str (s : Str) : EV K H ρ (.str s) (.str s)
  | tup {a : Addr} {ds : List D} {vs : List V} : SqT K H a vs → EVs K H ρ ds vs → EV K H ρ (.tup ds) (.ref a)
  | ref {n : Nat} {a : Addr} : ρ[n]? = some a → EV K H ρ (.ref n) (.ref a)
  | ty (n : String) : EV K H ρ (.ty n) (.ty n)
  | kl {a : Addr} {ds : List D} {vs : List V} : SqF K H ρ a vs → EVs K H ρ ds vs → EV K H ρ (.kl ds) (.ref a)
  | ob (a : Addr) : EV K H ρ (.ob a) (.ref a)
inductive EVs (K : PySem.W.Frag) (H : Hp) (ρ : List Addr) : List D → List V → Prop
  | nil : EVs K H ρ [] []
  | cons {d : D} {v : V} {ds : List D} {vs : List V} : EV K H ρ d v → EVs K H ρ ds vs → EVs K H ρ (d :: ds) (v :: vs)
end
/-- a dict whose keys are tuples of ints, wherever these stand: its entries, the keys' places, its values -/
def TD (a : Addr) (ws : List (List Int × Addr × V)) (h : Heap) : Prop :=
  ws.length ≤ sizeLine ∧ (a == sysModules) = false ∧ (ws.map (·.1)).Nodup ∧ ∃ xs : List (List Int × Addr × Value), Paired (fun (p : List Int × Addr × V) (q : List Int × Addr × Value) => p.1 = q.1 ∧ p.2.1 = q.2.1 ∧ RelV p.2.2 q.2.2) ws xs ∧
    ∃ o es ep, h.get? a = some o ∧ o.ExactDict ∧ o.data = .dict es ep ∧ ∀ (P : Program) (w : World), es.toList = xs.map (entryOfKey (tupleKind (intKind P w)))
abbrev TDO (a : Addr) (ws : List (List Int × Addr × V)) : HO := .ext (TD a ws)
/-- an exception of the class cls, kept at a -/
def ExK (cls : Value) (a : Addr) : HO := .ext fun h => ∃ (oe : Obj) (vs : Array Value), h.get? a = some oe ∧ Zc cls none oe ∧ oe.data = .fields vs
def EC (K : PySem.W.Frag) (H : Hp) (ρ : List Addr) (a : Addr) : Cell → Prop
  | .lst ds => ∃ vs, H a = some (.lst vs) ∧ EVs K H ρ ds vs
  | .dct kvs => ∃ vvs : List (Key × V), H a = some (.dK vvs) ∧ kvs.map (·.1) = vvs.map (·.1) ∧ EVs K H ρ (kvs.map (·.2)) (vvs.map (·.2))
  | .dtt kvs => ∃ ws : List (List Int × Addr × V), H a = some (TDO a ws) ∧ kvs.map (·.1) = ws.map (·.1) ∧ (∀ x ∈ ws, SqT K H x.2.1 (x.1.map V.int)) ∧ EVs K H ρ (kvs.map (·.2)) (ws.map (·.2.2))
  | .obj C fs => ∃ (dx : Addr) (vs : List (Str × V)), H a = some (.ins C dx vs) ∧ fs.map (·.1) = vs.map (·.1) ∧ EVs K H ρ (fs.map (·.2)) (vs.map (·.2))
  | .exc C => H a = some (ExK (.ref C) a)
structure ES (K : PySem.W.Frag) (T : List (Addr × Str)) (H : Hp) (ρ : List Addr) (st : Sto) : Prop where
  tabs : LamX.Tabs T H
  len : ρ.length = st.length
  nd : ρ.Nodup
  cell : ∀ (i : Nat) (a : Addr) (c : Cell), ρ[i]? = some a → st[i]? = some c → EC K H ρ a c

/-- what a step leaves: only the store's objects have changed; the store has grown at its end -/
structure Fr (H : Hp) (ρ : List Addr) (H' : Hp) (ρ' : List Addr) : Prop where
  pre : ∃ l, ρ' = ρ ++ l
  keep : ∀ a o, H a = some o → a ∉ ρ → (∀ ps, o ≠ .tbl ps) → H' a = some o
  tup : ∀ a xs, H a = some (.tup xs) → H' a = some (.tup xs)
  frz : ∀ a o u, H a = some (.frz o u) → H' a = some (.frz o u)
  new : ∀ a, a ∈ ρ' → a ∉ ρ → ∀ o, H a = some o → ∃ ps, o = .tbl ps

theorem Fr.refl (H : Hp) (ρ : List Addr) : Fr H ρ H ρ := ⟨⟨[], (List.append_nil _).symm⟩, fun _ _ e _ _ => e, fun _ _ e => e, fun _ _ _ e => e, fun _ h n => absurd h n⟩
section
variable {K : PySem.W.Frag} {T : List (Addr × Str)} {H H' H1 H2 : Hp} {ρ ρ' ρ1 ρ2 : List Addr} {st st' : Sto} {a : Addr}
theorem Fr.sub (f : Fr H ρ H' ρ') (h : a ∈ ρ) : a ∈ ρ' := by
  obtain ⟨l, e⟩ := f.pre
  rw [e]
  exact List.mem_append_left _ h
theorem Fr.get (f : Fr H ρ H' ρ') {i : Nat} (h : ρ[i]? = some a) : ρ'[i]? = some a := by
  obtain ⟨l, e⟩ := f.pre
  have hl := (List.getElem?_eq_some_iff.mp h).1
  rw [e, List.getElem?_append_left hl]
  exact h
theorem Fr.trans (f : Fr H ρ H1 ρ1) (g : Fr H1 ρ1 H2 ρ2) : Fr H ρ H2 ρ2 where
  pre := by
    obtain ⟨l, e⟩ := f.pre
    obtain ⟨m, e'⟩ := g.pre
    exact ⟨l ++ m, by rw [e', e, List.append_assoc]⟩
  keep := fun a o h n t => g.keep a o (f.keep a o h n t) (fun hm => by
    obtain ⟨ps, z⟩ := f.new a hm n o h
    exact t ps z) t
  tup := fun a xs h => g.tup a xs (f.tup a xs h)
  frz := fun a o u h => g.frz a o u (f.frz a o u h)
  new := fun a h n o ho => by
    by_cases hm : a ∈ ρ1
    · exact f.new a hm n o ho
    · by_cases ht : ∃ ps, o = .tbl ps
      · exact ht
      · exact g.new a h hm o (f.keep a o ho n fun ps e => ht ⟨ps, e⟩)
theorem Fr.rd (f : Fr H ρ H' ρ') {xs : List V} (h : SqT K H a xs) : SqT K H' a xs := by
  rcases h with (h | ⟨o, h⟩) | h
  · exact .inl (.inl (f.tup _ _ h))
  · exact .inl (.inr ⟨o, f.frz _ _ _ h⟩)
  · exact .inr h
theorem Fr.rf (f : Fr H ρ H' ρ') {xs : List V} (h : SqF K H ρ a xs) : SqF K H' ρ' a xs := by
  rcases h with (⟨o, h⟩ | ⟨h, n⟩) | h
  · exact .inl (.inl ⟨o, f.frz _ _ _ h⟩)
  · exact .inl (.inr ⟨f.keep _ _ h n (fun _ z => nomatch z), fun z => by
      obtain ⟨ps, e⟩ := f.new a z n _ h
      cases e⟩)
  · exact .inr h
mutual
theorem EV.mono (f : Fr H ρ H' ρ') : ∀ {d : D} {v : V}, EV K H ρ d v → EV K H' ρ' d v
  | _, _, .non => .non
  | _, _, .bl b => .bl b
  | _, _, .int i => .int i
  | _, _, .str s => .str s
  | _, _, .tup h r => .tup (f.rd h) (EVs.mono f r)
  | _, _, .ref h => .ref (f.get h)
  | _, _, .ty n => .ty n
  | _, _, .kl h r => .kl (f.rf h) (EVs.mono f r)
  | _, _, .ob a => .ob a
theorem EVs.mono (f : Fr H ρ H' ρ') : ∀ {ds : List D} {vs : List V}, EVs K H ρ ds vs → EVs K H' ρ' ds vs
  | _, _, .nil => .nil
  | _, _, .cons h r => .cons (EV.mono f h) (EVs.mono f r)
end
theorem EVs.length : ∀ {ds : List D} {vs : List V}, EVs K H ρ ds vs → ds.length = vs.length
  | _, _, .nil => rfl
  | _, _, .cons _ r => congrArg Nat.succ (EVs.length r)
theorem EVs.get : ∀ {ds : List D} {vs : List V} {i : Nat} {d : D}, EVs K H ρ ds vs → ds[i]? = some d → ∃ v, vs[i]? = some v ∧ EV K H ρ d v
  | _, _, _, _, .nil, e => by simp at e
  | _, _, 0, _, .cons h _, e => by simp at e; subst e; exact ⟨_, rfl, h⟩
  | _, _, i + 1, d, .cons _ r, e => by
    obtain ⟨v, h1, h2⟩ := EVs.get (i := i) (d := d) r (by simpa using e)
    exact ⟨v, by simpa using h1, h2⟩
theorem EVs.getV : ∀ {ds : List D} {vs : List V} {i : Nat} {v : V}, EVs K H ρ ds vs → vs[i]? = some v → ∃ d, ds[i]? = some d ∧ EV K H ρ d v
  | _, _, _, _, .nil, e => by simp at e
  | _, _, 0, _, .cons h _, e => by simp at e; subst e; exact ⟨_, rfl, h⟩
  | _, _, i + 1, d, .cons _ r, e => by
    obtain ⟨v, h1, h2⟩ := EVs.getV (i := i) r (by simpa using e)
    exact ⟨v, by simpa using h1, h2⟩
theorem EVs.append : ∀ {ds es : List D} {vs ws : List V}, EVs K H ρ ds vs → EVs K H ρ es ws → EVs K H ρ (ds ++ es) (vs ++ ws)
  | _, _, _, _, .nil, s => s
  | _, _, _, _, .cons h r, s => .cons h (EVs.append r s)
theorem EVs.take : ∀ {ds : List D} {vs : List V} (n : Nat), EVs K H ρ ds vs → EVs K H ρ (ds.take n) (vs.take n)
  | _, _, 0, _ => .nil
  | _, _, _ + 1, .nil => .nil
  | _, _, n + 1, .cons h r => .cons h (EVs.take n r)
theorem EVs.drop : ∀ {ds : List D} {vs : List V} (n : Nat), EVs K H ρ ds vs → EVs K H ρ (ds.drop n) (vs.drop n)
  | _, _, 0, r => r
  | _, _, _ + 1, .nil => .nil
  | _, _, n + 1, .cons _ r => EVs.drop n r
theorem EVs.set {d : D} {v : V} (h : EV K H ρ d v) : ∀ {ds : List D} {vs : List V} (i : Nat), EVs K H ρ ds vs → EVs K H ρ (ds.set i d) (vs.set i v)
  | _, _, _, .nil => .nil
  | _, _, 0, .cons _ r => .cons h r
  | _, _, i + 1, .cons q r => .cons q (EVs.set h i r)
theorem EVs.reverse {ds : List D} {vs : List V} (h : EVs K H ρ ds vs) : EVs K H ρ ds.reverse vs.reverse := by
  induction ds generalizing vs with
  | nil => cases h; exact .nil
  | cons d ds ih => cases h with
    | cons h r =>
      rw [List.reverse_cons, List.reverse_cons]
      exact (ih r).append (.cons h .nil)
theorem EVs.dropLast {ds : List D} {vs : List V} (h : EVs K H ρ ds vs) : EVs K H ρ ds.dropLast vs.dropLast := by
  rw [List.dropLast_eq_take, List.dropLast_eq_take, h.length]
  exact h.take _
theorem EVs.rep {ds : List D} {vs : List V} (h : EVs K H ρ ds vs) : ∀ k : Nat, EVs K H ρ (List.replicate k ds).flatten (List.replicate k vs).flatten
  | 0 => .nil
  | k + 1 => by
    rw [List.replicate_succ, List.replicate_succ, List.flatten_cons, List.flatten_cons]
    exact h.append (EVs.rep h k)
theorem EC.mono (f : Fr H ρ H' ρ') (hk : ∀ o, H a = some o → (∀ ps, o ≠ .tbl ps) → H' a = some o) {c : Cell} (h : EC K H ρ a c) : EC K H' ρ' a c := by
  cases c with
  | lst ds =>
    obtain ⟨vs, h1, h2⟩ := h
    exact ⟨vs, hk _ h1 (fun _ z => nomatch z), h2.mono f⟩
  | dct kvs =>
    obtain ⟨vs, h1, h2, h3⟩ := h
    exact ⟨vs, hk _ h1 (fun _ z => nomatch z), h2, h3.mono f⟩
  | dtt kvs =>
    obtain ⟨vs, h1, h2, h3, h4⟩ := h
    exact ⟨vs, hk _ h1 (fun _ z => nomatch z), h2, fun x hx => f.rd (h3 x hx), h4.mono f⟩
  | obj C fs =>
    obtain ⟨dx, vs, h1, h2, h3⟩ := h
    exact ⟨dx, vs, hk _ h1 (fun _ z => nomatch z), h2, h3.mono f⟩
  | exc C => exact hk _ h (fun _ z => nomatch z)
theorem ES.addr (e : ES K T H ρ st) {i : Nat} {c : Cell} (h : st[i]? = some c) : ∃ a, ρ[i]? = some a ∧ EC K H ρ a c := by
  have hl := (List.getElem?_eq_some_iff.mp h).1
  rw [← e.len] at hl
  exact ⟨ρ[i], List.getElem?_eq_getElem hl, e.cell i _ c (List.getElem?_eq_getElem hl) h⟩
theorem nd_get {l : List Addr} (h : l.Nodup) {i j : Nat} {a : Addr} (h1 : l[i]? = some a) (h2 : l[j]? = some a) : i = j := by
  obtain ⟨q1, e1⟩ := List.getElem?_eq_some_iff.mp h1
  obtain ⟨q2, e2⟩ := List.getElem?_eq_some_iff.mp h2
  exact (List.getElem_inj h).mp (e1.trans e2.symm)
/-- an older store: the newer objects are forgotten -/
theorem Fr.back (f : Fr H ρ H' ρ') : Fr H ρ H' ρ := ⟨⟨[], (List.append_nil _).symm⟩, f.keep, f.tup, f.frz, fun _ h n => absurd h n⟩
/-- objects are laid: H grows at p, which is not the store's -/
theorem tab_of (hk : ∀ b o, H b = some o → (∀ xs, o ≠ .lst xs) → H' b = some o) {P : Addr} {q : Str} (t : LamX.TabS H P q) : LamX.TabS H' P q := by
  obtain ⟨ps, h1, h2, h3⟩ := t
  refine ⟨ps, hk _ _ h1 (fun _ z => nomatch z), h2, fun pos cv hc => ?_⟩
  obtain ⟨c, e1, e2⟩ := h3 pos cv hc
  exact ⟨c, e1, hk _ _ e2 (fun _ z => nomatch z)⟩
theorem tabs_of (hk : ∀ b o, H b = some o → (∀ xs, o ≠ .lst xs) → H' b = some o) (t : LamX.Tabs T H) : LamX.Tabs T H' := fun p hp => tab_of hk (t p hp)
theorem Fr.laid {p : Addr} {o : HO} (hp : H p = none) : Fr H ρ (upd H p o) ρ where
  pre := ⟨[], (List.append_nil _).symm⟩
  keep := fun a u h _ _ => by rw [upd_ne (ne_of_none h hp)]; exact h
  tup := fun a u h => by rw [upd_ne (ne_of_none h hp)]; exact h
  frz := fun a u z h => by rw [upd_ne (ne_of_none h hp)]; exact h
  new := fun _ h n => absurd h n
/-- .. and taken into the store -/
theorem Fr.laidS {p : Addr} {o : HO} (hp : H p = none) : Fr H ρ (upd H p o) (ρ ++ [p]) where
  pre := ⟨[p], rfl⟩
  keep := (Fr.laid (ρ := ρ) hp).keep
  tup := (Fr.laid (ρ := ρ) hp).tup
  frz := (Fr.laid (ρ := ρ) hp).frz
  new := fun a h n u hu => by
    rcases List.mem_append.mp h with h | h
    · exact absurd h n
    · rw [List.mem_singleton.mp h, hp] at hu
      cases hu
/-- a list of the store is written -/
theorem Fr.write {p : Addr} {xs ys : List V} (hm : p ∈ ρ) (hp : H p = some (.lst xs)) : Fr H ρ (upd H p (.lst ys)) ρ where
  pre := ⟨[], (List.append_nil _).symm⟩
  keep := fun a u h n _ => by rw [upd_ne (show a ≠ p from fun e => n (by rw [e]; exact hm))]; exact h
  tup := fun a u h => by rw [upd_ne (ne_of h hp (fun z => nomatch z))]; exact h
  frz := fun a u z h => by rw [upd_ne (ne_of h hp (fun z => nomatch z))]; exact h
  new := fun _ h n => absurd h n
theorem keepL {p : Addr} {xs ys : List V} (hp : H p = some (.lst xs)) : ∀ b o, H b = some o → (∀ xs, o ≠ .lst xs) → (upd H p (.lst ys)) b = some o := fun b u h n => by
  have e : b ≠ p := fun e => n xs (by rw [e, hp] at h; exact (Option.some.inj h).symm)
  rw [upd_ne e]
  exact h
theorem keepN {p : Addr} {o : HO} (hp : H p = none) : ∀ b u, H b = some u → (∀ xs, u ≠ .lst xs) → (upd H p o) b = some u := fun b u h _ => by
  rw [upd_ne (ne_of_none h hp)]
  exact h
/-- the store under a frame that has left it alone -/
theorem ES.laid {p : Addr} {o : HO} (e : ES K T H ρ st) (hp : H p = none) : ES K T (upd H p o) ρ st := ⟨tabs_of (keepN hp) e.tabs, e.len, e.nd, fun i a c h1 h2 => (e.cell i a c h1 h2).mono (Fr.laid hp) fun u h _ => by rw [upd_ne (ne_of_none h hp)]; exact h⟩
theorem EC.there {c : Cell} (h : EC K H ρ a c) : ∃ o, H a = some o := by
  cases c with
  | lst ds =>
    obtain ⟨vs, h1, _⟩ := h
    exact ⟨_, h1⟩
  | dct kvs =>
    obtain ⟨vs, h1, _⟩ := h
    exact ⟨_, h1⟩
  | dtt kvs =>
    obtain ⟨vs, h1, _⟩ := h
    exact ⟨_, h1⟩
  | obj C fs =>
    obtain ⟨dx, vs, h1, _⟩ := h
    exact ⟨_, h1⟩
  | exc C => exact ⟨_, h⟩
theorem ES.fresh (e : ES K T H ρ st) {p : Addr} (hp : H p = none) : p ∉ ρ := fun hm => by
  obtain ⟨i, hi⟩ := List.getElem?_of_mem hm
  have hl := (List.getElem?_eq_some_iff.mp hi).1
  rw [e.len] at hl
  obtain ⟨o, h⟩ := (e.cell i p _ hi (List.getElem?_eq_getElem hl)).there
  rw [hp] at h
  cases h
/-- a new list -/
theorem ES.lay {p : Addr} {ds : List D} {vs : List V} (e : ES K T H ρ st) (hp : H p = none) (h : EVs K H ρ ds vs) : ES K T (upd H p (.lst vs)) (ρ ++ [p]) (st ++ [.lst ds]) where
  tabs := tabs_of (keepN hp) e.tabs
  len := by rw [List.length_append, List.length_append, e.len]; rfl
  nd := by
    rw [List.nodup_append]
    refine ⟨e.nd, by simp, fun a ha b hb z => ?_⟩
    rw [List.mem_singleton.mp hb] at z
    exact e.fresh hp (z ▸ ha)
  cell := fun i a c h1 h2 => by
    have F : Fr H ρ (upd H p (.lst vs)) (ρ ++ [p]) := Fr.laidS hp
    by_cases hi : i < ρ.length
    · rw [List.getElem?_append_left hi] at h1
      rw [List.getElem?_append_left (by rw [← e.len]; exact hi)] at h2
      exact (e.cell i a c h1 h2).mono F fun o h _ => by rw [upd_ne (ne_of_none h hp)]; exact h
    · have hl : i = ρ.length := by
        have := (List.getElem?_eq_some_iff.mp h1).1
        rw [List.length_append, List.length_singleton] at this
        omega
      subst hl
      rw [List.getElem?_append_right (Nat.le_refl _), Nat.sub_self] at h1
      rw [e.len, List.getElem?_append_right (Nat.le_refl _), Nat.sub_self] at h2
      cases h1
      cases h2
      exact ⟨vs, upd_same, h.mono F⟩
/-- a list is written -/
theorem ES.write {p : Addr} {i : Nat} {ds : List D} {xs vs : List V} (e : ES K T H ρ st) (hi : ρ[i]? = some p) (hp : H p = some (.lst xs)) (h : EVs K H ρ ds vs) : ES K T (upd H p (.lst vs)) ρ (st.set i (.lst ds)) where
  tabs := tabs_of (keepL hp) e.tabs
  len := by rw [List.length_set]; exact e.len
  nd := e.nd
  cell := fun j a c h1 h2 => by
    have F : Fr H ρ (upd H p (.lst vs)) ρ := Fr.write (List.mem_of_getElem? hi) hp
    by_cases hj : j = i
    · subst hj
      rw [hi] at h1
      cases h1
      have hl : j < st.length := by rw [← e.len]; exact (List.getElem?_eq_some_iff.mp hi).1
      rw [List.getElem?_set_self hl] at h2
      cases h2
      exact ⟨vs, upd_same, h.mono F⟩
    · rw [List.getElem?_set_ne (Ne.symm hj)] at h2
      have hap : a ≠ p := fun z => hj (nd_get e.nd (z ▸ h1) hi)
      exact (e.cell j a c h1 h2).mono F fun o h _ => by rw [upd_ne hap]; exact h
mutual
theorem EV.narrow {l : List Addr} : ∀ {d : D} {v v' : V}, EV K H ρ d v → EV K H' (ρ ++ l) d v' → EV K H' ρ d v'
  | _, _, _, .non, h => by cases h; exact .non
  | _, _, _, .bl b, h => by cases h; exact .bl b
  | _, _, _, .int i, h => by cases h; exact .int i
  | _, _, _, .str s, h => by cases h; exact .str s
  | _, _, _, .tup _ r, h => by
    cases h with
    | tup h' r' => exact .tup h' (EVs.narrow r r')
  | _, _, _, .ref h0, h => by
    cases h with
    | ref h1 =>
      have hl := (List.getElem?_eq_some_iff.mp h0).1
      rw [List.getElem?_append_left hl] at h1
      exact .ref h1
  | _, _, _, .ty n, h => by cases h; exact .ty n
  | _, _, _, .ob a, h => by cases h; exact .ob a
  | _, _, _, .kl _ r, h => by
    cases h with
    | kl h' r' => exact .kl h'.cut (EVs.narrow r r')
theorem EVs.narrow {l : List Addr} : ∀ {ds : List D} {vs vs' : List V}, EVs K H ρ ds vs → EVs K H' (ρ ++ l) ds vs' → EVs K H' ρ ds vs'
  | _, _, _, .nil, h => by cases h; exact .nil
  | _, _, _, .cons h r, h' => by
    cases h' with
    | cons h1 r1 => exact .cons (EV.narrow h h1) (EVs.narrow r r1)
end
mutual
def D.cl (n : Nat) : D → Bool
  | .tup ds => D.clAll n ds
  | .ref k => decide (k < n)
  | .kl ds => D.clAll n ds
  | _ => true
def D.clAll (n : Nat) : List D → Bool
  | [] => true
  | d :: ds => d.cl n && D.clAll n ds
end
mutual
theorem EV.shrink {l : List Addr} : ∀ {d : D} {v : V}, d.cl ρ.length = true → EV K H (ρ ++ l) d v → EV K H ρ d v
  | _, _, _, .non => .non
  | _, _, _, .bl b => .bl b
  | _, _, _, .int i => .int i
  | _, _, _, .str s => .str s
  | _, _, c, .tup h r => .tup h (EVs.shrink (by unfold D.cl at c; exact c) r)
  | _, _, c, .ref h => by
    have hl : _ < ρ.length := of_decide_eq_true (by simpa [D.cl] using c)
    rw [List.getElem?_append_left hl] at h
    exact .ref h
  | _, _, _, .ty n => .ty n
  | _, _, _, .ob a => .ob a
  | _, _, c, .kl h r => .kl h.cut (EVs.shrink (by unfold D.cl at c; exact c) r)
theorem EVs.shrink {l : List Addr} : ∀ {ds : List D} {vs : List V}, D.clAll ρ.length ds = true → EVs K H (ρ ++ l) ds vs → EVs K H ρ ds vs
  | _, _, _, .nil => .nil
  | _, _, c, .cons h r => by
    unfold D.clAll at c
    have c' := (Bool.and_eq_true _ _).mp c
    exact .cons (EV.shrink c'.1 h) (EVs.shrink c'.2 r)
end
def Cell.cl (n : Nat) : Cell → Bool
  | .lst ds => D.clAll n ds
  | .dct kvs => D.clAll n (kvs.map (·.2))
  | .dtt kvs => D.clAll n (kvs.map (·.2))
  | .obj _ fs => D.clAll n (fs.map (·.2))
  | .exc _ => true
/-- the first part of a store that names no later object -/
theorem ES.pre {g : Sto} (hp : ∃ l, ρ' = ρ ++ l) (hl : ρ.length = st.length) (hc : ∀ c ∈ st, c.cl st.length = true) (e : ES K T H' ρ' (st ++ g)) : ES K T H' ρ st := by
  obtain ⟨l, hp⟩ := hp
  subst hp
  refine ⟨e.tabs, hl, (List.nodup_append.mp e.nd).1, fun i a c h1 h2 => ?_⟩
  have hi := (List.getElem?_eq_some_iff.mp h2).1
  have q := e.cell i a c (by rw [List.getElem?_append_left (by rw [hl]; exact hi)]; exact h1) (by rw [List.getElem?_append_left hi]; exact h2)
  have z := hc c (List.mem_of_getElem? h2)
  rw [← hl] at z
  cases c with
  | lst ds =>
    obtain ⟨vs, q1, q2⟩ := q
    exact ⟨vs, q1, q2.shrink (by simpa [Cell.cl] using z)⟩
  | dct kvs =>
    obtain ⟨vs, q1, q2, q3⟩ := q
    exact ⟨vs, q1, q2, q3.shrink (by simpa [Cell.cl] using z)⟩
  | dtt kvs =>
    obtain ⟨vs, q1, q2, q4, q3⟩ := q
    exact ⟨vs, q1, q2, q4, q3.shrink (by simpa [Cell.cl] using z)⟩
  | obj C fs =>
    obtain ⟨dx, vs, q1, q2, q3⟩ := q
    exact ⟨dx, vs, q1, q2, q3.shrink (by simpa [Cell.cl] using z)⟩
  | exc C => exact q
/-- .. that has not changed -/
theorem ES.same {g : Sto} (e0 : ES K T H ρ st) (f : Fr H ρ H' ρ') (e : ES K T H' ρ' (st ++ g)) : ES K T H' ρ st := by
  obtain ⟨l, hp⟩ := f.pre
  subst hp
  refine ⟨e.tabs, e0.len, e0.nd, fun i a c h1 h2 => ?_⟩
  have hi := (List.getElem?_eq_some_iff.mp h2).1
  have q := e.cell i a c (by rw [List.getElem?_append_left (by rw [e0.len]; exact hi)]; exact h1) (by rw [List.getElem?_append_left hi]; exact h2)
  have q0 := e0.cell i a c h1 h2
  cases c with
  | lst ds =>
    obtain ⟨vs, q1, q2⟩ := q
    obtain ⟨_, _, r2⟩ := q0
    exact ⟨vs, q1, r2.narrow q2⟩
  | dct kvs =>
    obtain ⟨vs, q1, q2, q3⟩ := q
    obtain ⟨_, _, _, r3⟩ := q0
    exact ⟨vs, q1, q2, r3.narrow q3⟩
  | dtt kvs =>
    obtain ⟨vs, q1, q2, q4, q3⟩ := q
    obtain ⟨_, _, _, _, r3⟩ := q0
    exact ⟨vs, q1, q2, q4, r3.narrow q3⟩
  | obj C fs =>
    obtain ⟨dx, vs, q1, q2, q3⟩ := q
    obtain ⟨_, _, _, _, r3⟩ := q0
    exact ⟨dx, vs, q1, q2, r3.narrow q3⟩
  | exc C => exact q

/-! ### what is wanted of a result -/
def Post {α β : Type} (Rel : Hp → List Addr → α → β → Prop) (K : PySem.W.Frag) (T : List (Addr × Str)) (C : Nat → Addr) (H : Hp) (ρ : List Addr) (Q : β → Hp → Prop) (E : XK) : R α → Prop
  | .ok a st' => ∀ ρ' H' b, Fr H ρ H' ρ' → Rel H' ρ' a b → ES K T H' ρ' st' → Q b H'
  | .er n st' => ∀ ρ' H', Fr H ρ H' ρ' → ES K T H' ρ' st' → E (.ref (C n)) none H'
  | .no => False
theorem Post.shift {α β : Type} {Rel : Hp → List Addr → α → β → Prop} {C : Nat → Addr} {Q : β → Hp → Prop} {E : XK} {r : R α} (f : Fr H ρ H1 ρ1) (h : Post Rel K T C H ρ Q E r) : Post Rel K T C H1 ρ1 Q E r := by
  cases r with
  | ok a st' => exact fun ρ' H' b g => h ρ' H' b (f.trans g)
  | er n st' => exact fun ρ' H' g => h ρ' H' (f.trans g)
  | no => exact h
theorem Post.bind {α β α' β' : Type} {Rel : Hp → List Addr → α → β → Prop} {Rel' : Hp → List Addr → α' → β' → Prop} {C : Nat → Addr} {Q : β → Hp → Prop} {Q' : β' → Hp → Prop} {E : XK} {r : R α} {k : α → Sto → R α'}
    (h : Post Rel' K T C H ρ Q' E (r.bind k)) (hk : ∀ a st1 ρ1 H1 b, Fr H ρ H1 ρ1 → Rel H1 ρ1 a b → ES K T H1 ρ1 st1 → Post Rel' K T C H1 ρ1 Q' E (k a st1) → Q b H1) : Post Rel K T C H ρ Q E r := by
  cases r with
  | ok a st1 => exact fun ρ1 H1 b f r e => hk a st1 ρ1 H1 b f r e (Post.shift f h)
  | er n st1 => exact h
  | no => exact h
/-- an answer as it stands -/
theorem Post.now {α β : Type} {Rel : Hp → List Addr → α → β → Prop} {C : Nat → Addr} {Q : β → Hp → Prop} {E : XK} {a : α} {b : β} (h : Post Rel K T C H ρ Q E (.ok a st)) (r : Rel H ρ a b) (e : ES K T H ρ st) : Q b H := h ρ H b (Fr.refl H ρ) r e

def EVo (K : PySem.W.Frag) (H : Hp) (ρ : List Addr) (env : Ev) (σ : L2.St) : Prop := env.length = σ.length ∧ ∀ (i : Nat) (d : D), env[i]? = some (some d) → ∃ v, σ[i]? = some (some v) ∧ EV K H ρ d v
theorem EVo.mono {env : Ev} {σ : L2.St} (f : Fr H ρ H' ρ') (e : EVo K H ρ env σ) : EVo K H' ρ' env σ := ⟨e.1, fun i d h => by
  obtain ⟨v, h1, h2⟩ := e.2 i d h
  exact ⟨v, h1, h2.mono f⟩⟩
theorem EVo.set {env : Ev} {σ : L2.St} {d : D} {v : V} (e : EVo K H ρ env σ) (h : EV K H ρ d v) (i : Nat) : EVo K H ρ (env.set i (some d)) (σ.set i (some v)) := ⟨by rw [List.length_set, List.length_set]; exact e.1, fun j x hj => by
  by_cases q : i = j
  · subst q
    by_cases hl : i < env.length
    · rw [List.getElem?_set_self hl] at hj
      cases hj
      exact ⟨v, List.getElem?_set_self (by rw [← e.1]; exact hl), h⟩
    · rw [List.getElem?_eq_none (by rw [List.length_set]; omega)] at hj
      cases hj
  · rw [List.getElem?_set_ne q] at hj
    rw [List.getElem?_set_ne q]
    exact e.2 j x hj⟩
theorem EVo.unset {env : Ev} {σ : L2.St} (e : EVo K H ρ env σ) (i : Nat) : EVo K H ρ (env.set i none) (σ.set i none) := ⟨by rw [List.length_set, List.length_set]; exact e.1, fun j x hj => by
  by_cases q : i = j
  · subst q
    by_cases hl : i < env.length
    · rw [List.getElem?_set_self hl] at hj
      cases hj
    · rw [List.getElem?_eq_none (by rw [List.length_set]; omega)] at hj
      cases hj
  · rw [List.getElem?_set_ne q] at hj
    rw [List.getElem?_set_ne q]
    exact e.2 j x hj⟩
def wipeD (env : Ev) : List Nat → Ev
  | [] => env
  | v :: vs => (wipeD env vs).set v none
theorem EVo.wipe {env : Ev} {σ : L2.St} (e : EVo K H ρ env σ) : ∀ vs : List Nat, EVo K H ρ (wipeD env vs) (L2.wipe σ vs)
  | [] => e
  | v :: vs => (EVo.wipe e vs).unset v
end
end Dn

set_option Elab.async false
set_option linter.all false
set_option maxRecDepth 100000
set_option maxHeartbeats 2000000
/-! The judgements: a piece of syntax, its reading, and what it makes of data. -/
namespace Dn
open PySem L2

/-- the classes of exceptions by their numbers; the tables of code objects; what is wanted of an exception -/
structure Gx where
  C : Nat → Addr
  T : List (Addr × Str)
  E : XK

abbrev PostE (K : PySem.W.Frag) (G : Gx) (H : Hp) (ρ : List Addr) (Q : VK) (r : R D) : Prop := Post (EV K) K G.T G.C H ρ Q G.E r
abbrev PostA (K : PySem.W.Frag) (G : Gx) (H : Hp) (ρ : List Addr) (Q : List V → Hp → Prop) (r : R (List D)) : Prop := Post (EVs K) K G.T G.C H ρ Q G.E r
abbrev PostT (K : PySem.W.Frag) (G : Gx) (H : Hp) (ρ : List Addr) (Q : Bool → Hp → Prop) (r : R Bool) : Prop := Post (fun _ _ a b => a = b) K G.T G.C H ρ Q G.E r

abbrev ME := Ev → Sto → R D
abbrev MA := Ev → Sto → R (List D)
abbrev MT := Ev → Sto → R Bool

structure SE (X : Cx) (G : Gx) (e : Expr) (t : TE) (m : ME) : Prop where
  pe : PE X e t
  sd : ∀ (σ : L2.St) (env : Ev) (ρ : List Addr) (st : Sto) (H : Hp) (Q : VK), EVo X.K H ρ env σ → ES X.K G.T H ρ st → PostE X.K G H ρ Q (m env st) → t σ H Q
structure SA (X : Cx) (G : Gx) (es : List Expr) (t : TA) (m : MA) : Prop where
  pe : PA X es t
  sd : ∀ (σ : L2.St) (env : Ev) (ρ : List Addr) (st : Sto) (H : Hp) (Q : List V → Hp → Prop), EVo X.K H ρ env σ → ES X.K G.T H ρ st → PostA X.K G H ρ Q (m env st) → t σ H Q
structure ST (X : Cx) (G : Gx) (e : Expr) (t : TT) (m : MT) : Prop where
  pe : PT X e t
  sd : ∀ (σ : L2.St) (env : Ev) (ρ : List Addr) (st : Sto) (H : Hp) (Q : Bool → Hp → Prop), EVo X.K H ρ env σ → ES X.K G.T H ρ st → PostT X.K G H ρ Q (m env st) → t σ H Q
structure SW (X : Cx) (G : Gx) (e : Expr) (t : TT) (m : MT) : Prop where
  pe : PW X e t
  sd : ∀ (σ : L2.St) (env : Ev) (ρ : List Addr) (st : Sto) (H : Hp) (Q : Bool → Hp → Prop), EVo X.K H ρ env σ → ES X.K G.T H ρ st → PostT X.K G H ρ Q (m env st) → t σ H Q
theorem SW.pt {X : Cx} {G : Gx} {e : Expr} {t : TT} {m : MT} (h : SW X G e t m) : ST X G e t m := ⟨h.pe.pt, h.sd⟩

/-! ### what the rules on values make of data -/
abbrev F2 := D → D → Sto → R D
def OpS (K : PySem.W.Frag) (G : Gx) (r : R2) (f : F2) : Prop :=
  ∀ (x y : D) (vx vy : V) (ρ : List Addr) (st : Sto) (H : Hp) (Q : VK), EV K H ρ x vx → EV K H ρ y vy → ES K G.T H ρ st → PostE K G H ρ Q (f x y st) → r vx vy H Q
abbrev F1 := D → Sto → R D
def UnS (K : PySem.W.Frag) (G : Gx) (r : V → Hp → VK → Prop) (f : F1) : Prop :=
  ∀ (x : D) (vx : V) (ρ : List Addr) (st : Sto) (H : Hp) (Q : VK), EV K H ρ x vx → ES K G.T H ρ st → PostE K G H ρ Q (f x st) → r vx H Q
abbrev FN := List D → Sto → R D
def CallS (K : PySem.W.Frag) (G : Gx) (r : List V → Hp → VK → Prop) (f : FN) : Prop :=
  ∀ (xs : List D) (vs : List V) (ρ : List Addr) (st : Sto) (H : Hp) (Q : VK), EVs K H ρ xs vs → ES K G.T H ρ st → PostE K G H ρ Q (f xs st) → r vs H Q

/-! ### expressions -/
def dVar (i : Nat) : ME := fun env st => match env[i]? with
  | some (some d) => .ok d st
  | _ => .no
def dC (d : D) : ME := fun _ st => .ok d st
def dBin (f : F2) (a b : ME) : ME := fun env st => (a env st).bind fun x st => (b env st).bind fun y st => f x y st
def dUn (f : F1) (a : ME) : ME := fun env st => (a env st).bind f
def dCall (f : FN) (as : MA) : ME := fun env st => (as env st).bind f
def aNil : MA := fun _ st => .ok [] st
def aCons (a : ME) (as : MA) : MA := fun env st => (a env st).bind fun x st => (as env st).bind fun xs st => .ok (x :: xs) st
def dTup (as : MA) : ME := fun env st => (as env st).bind fun xs st => if xs.length ≤ 100000 then .ok (.tup xs) st else .no
def dLst (as : MA) : ME := fun env st => (as env st).bind fun xs st => if xs.length ≤ 100000 then .ok (.ref st.length) (st ++ [.lst xs]) else .no
def tVal (a : ME) : MT := fun env st => (a env st).bind fun x st => match x with
  | .bl b => .ok b st
  | _ => .no
def tAndD (t u : MT) : MT := fun env st => (t env st).bind fun b st => if b = true then u env st else .ok false st
def tOrD (t u : MT) : MT := fun env st => (t env st).bind fun b st => if b = true then .ok true st else u env st
def tNotD (t : MT) : MT := fun env st => (t env st).bind fun b st => .ok (!b) st
def dAndV (a b : ME) : ME := fun env st => (a env st).bind fun x st => match x with
  | .bl k => if k = true then b env st else .ok (.bl false) st
  | _ => .no
def dOrV (a b : ME) : ME := fun env st => (a env st).bind fun x st => match x with
  | .bl k => if k = true then .ok (.bl true) st else b env st
  | _ => .no
def dNotV (a : ME) : ME := fun env st => (a env st).bind fun x st => match x with
  | .bl k => .ok (.bl (!k)) st
  | _ => .no
def dIf (t : MT) (a b : ME) : ME := fun env st => (t env st).bind fun k st => if k = true then a env st else b env st
def dChain (f g : F2) (a b c : ME) : ME := fun env st => (a env st).bind fun x st => (b env st).bind fun y st => (f x y st).bind fun z st => match z with
  | .bl k => if k = true then (c env st).bind fun w st => g y w st else .ok (.bl false) st
  | _ => .no
/-- a value's truth -/
def truthD : D → Sto → R Bool
  | .non, st => .ok false st
  | .bl b, st => .ok b st
  | .int i, st => .ok (i != 0) st
  | .str s, st => if s.length ≤ sizeLine then .ok ((s.length : Int) != 0) st else .no
  | .tup ds, st => .ok (!ds.isEmpty) st
  | .ref n, st => match st[n]? with
    | some (.lst ds) => .ok (!ds.isEmpty) st
    | _ => .no
  | .ty _, _ => .no
  | .ob _, _ => .no
  | .kl ds, st => .ok (!ds.isEmpty) st
def tTru (a : ME) : MT := fun env st => (a env st).bind truthD

section
variable {X : Cx} {G : Gx} {a b c e : Expr} {es : List Expr} {ta tb tc : TE} {tas : TA} {tt tu : TT} {ma mb mc : ME} {mas : MA} {mt mu : MT} {pos : Pos} {r r' : R2} {f g : F2}
theorem se_var (i : Nat) {x : Str} (hN : X.N[i]? = some x := by rfl) (hv : Vis X.env.scope x := by first | exact Or.inl rfl | exact Or.inr (Or.inl rfl) | exact Or.inr (Or.inr rfl)) (hd : (x == ("__debug__" : Str)) = false := by decide)
    (hcd : (x == ("__classdict__" : Str)) = false := by decide) : SE X G (.Name x pos) (tVar i) (dVar i) := ⟨pe_var hN hv hd hcd, fun σ env ρ st H Q ev es h => by
  unfold dVar at h
  split at h
  · rename_i d hd
    obtain ⟨v, h1, h2⟩ := ev.2 i d hd
    exact ⟨v, h1, h.now h2 es⟩
  · exact h.elim⟩
theorem se_const {d : D} {v : V} (hp : PE X e (tC v)) (hv : ∀ H ρ, EV X.K H ρ d v) : SE X G e (tC v) (dC d) := ⟨hp, fun σ env ρ st H Q ev es h => h.now (hv H ρ) es⟩
theorem se_int {i : Int} {j p} : SE X G (.Constant (.int i) j p) (tC (.int i)) (dC (.int i)) := se_const pe_int fun _ _ => .int i
theorem se_bl {k : Bool} {j p} : SE X G (.Constant (.bool k) j p) (tC (.bl k)) (dC (.bl k)) := se_const pe_bl fun _ _ => .bl k
theorem se_non {j p} : SE X G (.Constant .none j p) (tC .non) (dC .non) := se_const pe_non fun _ _ => .non
theorem se_str {x : Str} {j p} : SE X G (.Constant (.str x) j p) (tC (.str x)) (dC (.str x)) := se_const pe_str fun _ _ => .str x
/-- two in a row -/
theorem sd_bin (ha : SE X G a ta ma) (hb : SE X G b tb mb) {σ : L2.St} {env : Ev} {ρ : List Addr} {st : Sto} {H : Hp} {Q : VK} {k : V → V → Hp → Prop} {kf : D → D → Sto → R D} (ev : EVo X.K H ρ env σ) (es : ES X.K G.T H ρ st)
    (h : PostE X.K G H ρ Q ((ma env st).bind fun x st => (mb env st).bind fun y st => kf x y st))
    (hk : ∀ x y vx vy ρ2 st2 H2, EV X.K H2 ρ2 x vx → EV X.K H2 ρ2 y vy → ES X.K G.T H2 ρ2 st2 → EVo X.K H2 ρ2 env σ → PostE X.K G H2 ρ2 Q (kf x y st2) → k vx vy H2) : ta σ H fun x H1 => tb σ H1 fun y H2 => k x y H2 := by
  refine ha.sd σ env ρ st H _ ev es (h.bind fun x st1 ρ1 H1 vx f1 e1 es1 h1 => ?_)
  refine hb.sd σ env ρ1 st1 H1 _ (ev.mono f1) es1 (h1.bind fun y st2 ρ2 H2 vy f2 e2 es2 h2 => ?_)
  exact hk x y vx vy ρ2 st2 H2 (e1.mono f2) e2 es2 (ev.mono (f1.trans f2)) h2
theorem se_bin {op : Operator} (ho : OpR X (binaryOp op) r) (hs : OpS X.K G r f) (ha : SE X G a ta ma) (hb : SE X G b tb mb) : SE X G (.BinOp a op b pos) (tOp r ta tb) (dBin f ma mb) :=
  ⟨pe_op ho ha.pe hb.pe, fun σ env ρ st H Q ev es h => sd_bin ha hb ev es h fun x y vx vy ρ2 st2 H2 e1 e2 es2 _ h2 => hs x y vx vy ρ2 st2 H2 Q e1 e2 es2 h2⟩
theorem se_cmp {op : CmpOp} (ho : OpR X (compareOp op) r) (hs : OpS X.K G r f) (ha : SE X G a ta ma) (hb : SE X G b tb mb) (hm : behindInMarks op b = false) : SE X G (.Compare a [op] [b] pos) (tOp r ta tb) (dBin f ma mb) :=
  ⟨pe_cmpR ho ha.pe hb.pe hm, fun σ env ρ st H Q ev es h => sd_bin ha hb ev es h fun x y vx vy ρ2 st2 H2 e1 e2 es2 _ h2 => hs x y vx vy ρ2 st2 H2 Q e1 e2 es2 h2⟩
theorem sd_val (ha : ∀ (σ : L2.St) (env : Ev) (ρ : List Addr) (st : Sto) (H : Hp) (Q : VK), EVo X.K H ρ env σ → ES X.K G.T H ρ st → PostE X.K G H ρ Q (ma env st) → ta σ H Q) {σ : L2.St} {env : Ev} {ρ : List Addr} {st : Sto} {H : Hp} {Q : Bool → Hp → Prop} (ev : EVo X.K H ρ env σ) (es : ES X.K G.T H ρ st)
    (h : PostT X.K G H ρ Q (tVal ma env st)) : ta σ H fun x H' => ∃ k, x = .bl k ∧ Q k H' := by
  refine ha σ env ρ st H _ ev es (h.bind fun x st1 ρ1 H1 vx f1 e1 es1 h1 => ?_)
  cases e1 with
  | bl k => exact ⟨k, rfl, h1.now rfl es1⟩
  | _ => exact h1.elim
theorem st_cmp {op : CmpOp} (ho : OpR X (compareOp op) r) (hs : OpS X.K G r f) (ha : SE X G a ta ma) (hb : SE X G b tb mb) (hm : behindInMarks op b = false) : ST X G (.Compare a [op] [b] pos) (tTest (tOp r ta tb)) (tVal (dBin f ma mb)) :=
  ⟨pt_cmpR ho ha.pe hb.pe hm, fun σ env ρ st H Q ev es h => sd_val (se_cmp (pos := pos) ho hs ha hb hm).sd ev es h⟩
theorem sd_chain (hs : OpS X.K G r f) (hs' : OpS X.K G r' g) (ha : SE X G a ta ma) (hb : SE X G b tb mb) (hc : SE X G c tc mc) (σ : L2.St) (env : Ev) (ρ : List Addr) (st : Sto) (H : Hp) (Q : VK) (ev : EVo X.K H ρ env σ) (es : ES X.K G.T H ρ st)
    (h : PostE X.K G H ρ Q (dChain f g ma mb mc env st)) : tChain r r' ta tb tc σ H Q := by
  refine sd_bin ha hb ev es h fun x y vx vy ρ2 st2 H2 e1 e2 es2 ev2 h2 => ?_
  refine hs x y vx vy ρ2 st2 H2 _ e1 e2 es2 (h2.bind fun z st3 ρ3 H3 vz f3 e3 es3 h3 => ?_)
  cases e3 with
  | bl k =>
    refine ⟨k, rfl, ?_⟩
    cases k with
    | true => exact hc.sd σ env ρ3 st3 H3 _ (ev2.mono f3) es3 (h3.bind fun w st4 ρ4 H4 vw f4 e4 es4 h4 => hs' y w vy vw ρ4 st4 H4 Q (e2.mono (f3.trans f4)) e4 es4 h4)
    | false => exact h3.now (.bl false) es3
  | _ => exact h3.elim
theorem se_chain {op op' : CmpOp} (ho : OpR X (compareOp op) r) (hs : OpS X.K G r f) (ho' : OpR X (compareOp op') r') (hs' : OpS X.K G r' g) (ha : SE X G a ta ma) (hb : SE X G b tb mb) (hc : SE X G c tc mc)
    (hm : lastMarks [op, op'] [b, c] = false := by with_unfolding_all rfl) : SE X G (.Compare a [op, op'] [b, c] pos) (tChain r r' ta tb tc) (dChain f g ma mb mc) := ⟨pe_chain ho ho' ha.pe hb.pe hc.pe hm, sd_chain hs hs' ha hb hc⟩
theorem st_chain {op op' : CmpOp} (ho : OpR X (compareOp op) r) (hs : OpS X.K G r f) (ho' : OpR X (compareOp op') r') (hs' : OpS X.K G r' g) (ha : SE X G a ta ma) (hb : SE X G b tb mb) (hc : SE X G c tc mc)
    (hm : lastMarks [op, op'] [b, c] = false := by with_unfolding_all rfl) : ST X G (.Compare a [op, op'] [b, c] pos) (tTest (tChain r r' ta tb tc)) (tVal (dChain f g ma mb mc)) := ⟨pt_chain ho ho' ha.pe hb.pe hc.pe hm, fun σ env ρ st H Q ev es h => sd_val (sd_chain hs hs' ha hb hc) ev es h⟩
theorem se_un {op : UnaryOp} {r : V → Hp → VK → Prop} {f : F1} (ho : UnR X (unaryOp op) r) (hs : UnS X.K G r f) (ha : SE X G a ta ma) : SE X G (.UnaryOp op a pos) (tUn r ta) (dUn f ma) :=
  ⟨pe_un ho ha.pe, fun σ env ρ st H Q ev es h => ha.sd σ env ρ st H _ ev es (h.bind fun x st1 ρ1 H1 vx f1 e1 es1 h1 => hs x vx ρ1 st1 H1 Q e1 es1 h1)⟩
theorem se_not (ha : SE X G a ta ma) : SE X G (.UnaryOp .Not a pos) (tNotV ta) (dNotV ma) := ⟨pe_not ha.pe, fun σ env ρ st H Q ev es h => by
  refine ha.sd σ env ρ st H _ ev es (h.bind fun x st1 ρ1 H1 vx f1 e1 es1 h1 => ?_)
  cases e1 with
  | bl k => exact ⟨k, rfl, h1.now (.bl (!k)) es1⟩
  | _ => exact h1.elim⟩
theorem se_one {op} (h : SE X G a ta ma) : SE X G (.BoolOp op [a] pos) ta ma := ⟨pe_one h.pe, h.sd⟩
theorem se_and {rest : List Expr} (ha : SE X G a ta ma) (hb : SE X G (.BoolOp .And (b :: rest) pos) tb mb) : SE X G (.BoolOp .And (a :: b :: rest) pos) (tAndV ta tb) (dAndV ma mb) := ⟨pe_and ha.pe hb.pe, fun σ env ρ st H Q ev es h => by
  refine ha.sd σ env ρ st H _ ev es (h.bind fun x st1 ρ1 H1 vx f1 e1 es1 h1 => ?_)
  cases e1 with
  | bl k =>
    refine ⟨k, rfl, ?_⟩
    cases k with
    | true => exact hb.sd σ env ρ1 st1 H1 Q (ev.mono f1) es1 h1
    | false => exact h1.now (.bl false) es1
  | _ => exact h1.elim⟩
theorem se_or {rest : List Expr} (ha : SE X G a ta ma) (hb : SE X G (.BoolOp .Or (b :: rest) pos) tb mb) : SE X G (.BoolOp .Or (a :: b :: rest) pos) (tOrV ta tb) (dOrV ma mb) := ⟨pe_or ha.pe hb.pe, fun σ env ρ st H Q ev es h => by
  refine ha.sd σ env ρ st H _ ev es (h.bind fun x st1 ρ1 H1 vx f1 e1 es1 h1 => ?_)
  cases e1 with
  | bl k =>
    refine ⟨k, rfl, ?_⟩
    cases k with
    | false => exact hb.sd σ env ρ1 st1 H1 Q (ev.mono f1) es1 h1
    | true => exact h1.now (.bl true) es1
  | _ => exact h1.elim⟩
theorem se_if (ht : ST X G c tt mt) (ha : SE X G a ta ma) (hb : SE X G b tb mb) : SE X G (.IfExp c a b pos) (tIf tt ta tb) (dIf mt ma mb) := ⟨pe_ifExp ht.pe ha.pe hb.pe, fun σ env ρ st H Q ev es h => by
  refine ht.sd σ env ρ st H _ ev es (h.bind fun x st1 ρ1 H1 vx f1 e1 es1 h1 => ?_)
  subst e1
  cases x with
  | true => exact ha.sd σ env ρ1 st1 H1 Q (ev.mono f1) es1 h1
  | false => exact hb.sd σ env ρ1 st1 H1 Q (ev.mono f1) es1 h1⟩
/-! tests -/
theorem st_val (ha : SE X G a ta ma) (he : ∀ whole, isTrue a X.env whole = (do let v ← whole; standAt a.pos; holding [v] (truthy v)) := by intro _; rfl) : ST X G a (L2.tB ta) (tVal ma) := ⟨pt_val ha.pe he, fun σ env ρ st H Q ev es h => sd_val ha.sd ev es h⟩
theorem sd_truth {K : PySem.W.Frag} {x : D} {v : V} {ρ : List Addr} {st : Sto} {H : Hp} {Q : Bool → Hp → Prop} (e : EV K H ρ x v) (es : ES K G.T H ρ st) (h : PostT K G H ρ Q (truthD x st)) : ∃ k, TruV K v H k ∧ Q k H := by
  cases e with
  | non => exact ⟨false, rfl, h.now rfl es⟩
  | bl b => exact ⟨b, rfl, h.now rfl es⟩
  | int i => exact ⟨_, rfl, h.now rfl es⟩
  | str s =>
    simp only [truthD] at h
    by_cases hs : s.length ≤ sizeLine
    · rw [if_pos hs] at h
      exact ⟨_, ⟨hs, rfl⟩, h.now rfl es⟩
    · rw [if_neg hs] at h
      exact h.elim
  | @tup a ds vs hq r =>
    refine ⟨_, .inr (.inl ⟨vs, hq, rfl⟩), ?_⟩
    have e1 : ds.isEmpty = vs.isEmpty := by cases r <;> rfl
    rw [← e1]
    exact h.now rfl es
  | @ref n a hn =>
    simp only [truthD] at h
    cases hc : st[n]? with
    | none => rw [hc] at h; exact h.elim
    | some c =>
      have q := es.cell n a c hn hc
      rw [hc] at h
      cases c with
      | lst ds =>
        obtain ⟨vs, q1, q2⟩ := q
        refine ⟨_, .inl ⟨vs, .inl (.inl q1), rfl⟩, ?_⟩
        have e1 : ds.isEmpty = vs.isEmpty := by cases q2 <;> rfl
        rw [← e1]
        exact h.now rfl es
      | dct kvs => exact h.elim
      | dtt _ => exact h.elim
      | obj _ _ => exact h.elim
      | exc _ => exact h.elim
  | @kl a ds vs hq r =>
    refine ⟨_, .inl ⟨vs, hq.l, rfl⟩, ?_⟩
    have e1 : ds.isEmpty = vs.isEmpty := by cases r <;> rfl
    rw [← e1]
    exact h.now rfl es
  | ty n => exact h.elim
  | ob a => exact h.elim
theorem st_truth (ha : SE X G a ta ma) (he : ∀ whole, isTrue a X.env whole = (do let v ← whole; standAt a.pos; holding [v] (truthy v)) := by intro _; rfl) : ST X G a (fun σ H Q => ta σ H fun x H' => ∃ k, TruV X.K x H' k ∧ Q k H') (tTru ma) :=
  ⟨pt_truth ha.pe he, fun σ env ρ st H Q ev es h => ha.sd σ env ρ st H _ ev es (h.bind fun x st1 ρ1 H1 vx f1 e1 es1 h1 => sd_truth e1 es1 h1)⟩
theorem st_not (ha : ST X G a tt mt) : ST X G (.UnaryOp .Not a pos) (tNot tt) (tNotD mt) := ⟨pt_not ha.pe, fun σ env ρ st H Q ev es h => by
  refine ha.sd σ env ρ st H _ ev es (h.bind fun x st1 ρ1 H1 vx f1 e1 es1 h1 => ?_)
  subst e1
  exact h1.now rfl es1⟩
theorem sw_and1 (ha : ST X G a tt mt) : SW X G (.BoolOp .And [a] pos) tt mt := ⟨pw_and1 ha.pe, ha.sd⟩
theorem sw_or1 (ha : ST X G a tt mt) : SW X G (.BoolOp .Or [a] pos) tt mt := ⟨pw_or1 ha.pe, ha.sd⟩
theorem sw_and {rest : List Expr} (ha : ST X G a tt mt) (hb : SW X G (.BoolOp .And (b :: rest) pos) tu mu) : SW X G (.BoolOp .And (a :: b :: rest) pos) (tAnd tt tu) (tAndD mt mu) := ⟨pw_and ha.pe hb.pe, fun σ env ρ st H Q ev es h => by
  refine ha.sd σ env ρ st H _ ev es (h.bind fun x st1 ρ1 H1 vx f1 e1 es1 h1 => ?_)
  subst e1
  cases x with
  | true => exact hb.sd σ env ρ1 st1 H1 Q (ev.mono f1) es1 h1
  | false => exact h1.now rfl es1⟩
theorem sw_or {rest : List Expr} (ha : ST X G a tt mt) (hb : SW X G (.BoolOp .Or (b :: rest) pos) tu mu) : SW X G (.BoolOp .Or (a :: b :: rest) pos) (tOr tt tu) (tOrD mt mu) := ⟨pw_or ha.pe hb.pe, fun σ env ρ st H Q ev es h => by
  refine ha.sd σ env ρ st H _ ev es (h.bind fun x st1 ρ1 H1 vx f1 e1 es1 h1 => ?_)
  subst e1
  cases x with
  | false => exact hb.sd σ env ρ1 st1 H1 Q (ev.mono f1) es1 h1
  | true => exact h1.now rfl es1⟩
/-! arguments, displays -/
theorem sa_nil : SA X G [] tNil aNil := ⟨pa_nil, fun σ env ρ st H Q ev es h => h.now .nil es⟩
theorem sa_cons (ha : SE X G a ta ma) (hr : SA X G es tas mas) (hs : starEach (a :: es) X.env = (false, eval a X.env) :: starEach es X.env := by rfl) : SA X G (a :: es) (tCons ta tas) (aCons ma mas) := ⟨pa_cons ha.pe hr.pe hs, fun σ env ρ st H Q ev es h => by
  refine ha.sd σ env ρ st H _ ev es (h.bind fun x st1 ρ1 H1 vx f1 e1 es1 h1 => ?_)
  refine hr.sd σ env ρ1 st1 H1 _ (ev.mono f1) es1 (h1.bind fun xs st2 ρ2 H2 vs f2 e2 es2 h2 => ?_)
  exact h2.now (.cons (e1.mono f2) e2) es2⟩
theorem line5 : 100000 ≤ sizeLine := by rw [sizeLine_eq]; decide
theorem se_tup {x1} (h : SA X G es tas mas) : SE X G (.Tuple es x1 pos) (tTup tas) (dTup mas) := ⟨pe_tup h.pe, fun σ env ρ st H Q ev es hp => by
  refine h.sd σ env ρ st H _ ev es (hp.bind fun xs st1 ρ1 H1 vs f1 e1 es1 h1 => ?_)
  by_cases hl : xs.length ≤ 100000
  · rw [if_pos hl] at h1
    exact ⟨by rw [← e1.length]; exact Nat.le_trans hl line5, fun p hp => h1 ρ1 _ _ (Fr.laid hp) (.tup (.inl (.inl upd_same)) (e1.mono (Fr.laid hp))) (es1.laid hp)⟩
  · rw [if_neg hl] at h1
    exact h1.elim⟩
theorem ES.ref {K : PySem.W.Frag} {H : Hp} {ρ : List Addr} {st : Sto} (e : ES K G.T H ρ st) (p : Addr) : (ρ ++ [p])[st.length]? = some p := by
  rw [← e.len, List.getElem?_append_right (Nat.le_refl _), Nat.sub_self]
  rfl
theorem se_lst (h : SA X G es tas mas) : SE X G (.List es pos) (tLst tas) (dLst mas) := ⟨pe_lst h.pe, fun σ env ρ st H Q ev es hp => by
  refine h.sd σ env ρ st H _ ev es (hp.bind fun xs st1 ρ1 H1 vs f1 e1 es1 h1 => ?_)
  by_cases hl : xs.length ≤ 100000
  · rw [if_pos hl] at h1
    exact ⟨by rw [← e1.length]; exact Nat.le_trans hl line5, fun p hp => h1 (ρ1 ++ [p]) _ _ (Fr.laidS hp) (.ref (es1.ref p)) (es1.lay hp e1)⟩
  · rw [if_neg hl] at h1
    exact h1.elim⟩
/-! calls of built-ins -/
theorem se_callB {x : Str} {p : Pos} {id : String} {rc : List V → Hp → VK → Prop} {fn : FN} (hc : CallR X (.builtin id) rc) (hs : CallS X.K G rc fn) (hg : Gl X x) (hm : X.mg x = none) (hv : bootBuiltins x = some (.builtin id)) (ha : SA X G (e :: es) tas mas) (hn : x ≠ "__name__" := by decide) (hdb : (x == ("__debug__" : Str)) = false := by decide)
    (he : starEach (e :: es) X.env = (false, eval e X.env) :: starEach es X.env := by rfl) (hpl : (backTo pos (starEach es X.env)).any (·.1) = false := by rfl) : SE X G (.Call (.Name x p) (e :: es) [] pos) (tCB rc tas) (dCall fn mas) :=
  ⟨pe_callB hc hg hm hv ha.pe hn hdb he hpl, fun σ env ρ st H Q ev es h => ha.sd σ env ρ st H _ ev es (h.bind fun xs st1 ρ1 H1 vs f1 e1 es1 h1 => hs xs vs ρ1 st1 H1 Q e1 es1 h1)⟩
theorem se_callTy {x : Str} {p : Pos} {T : String} {rc : List V → Hp → VK → Prop} {fn : FN} (hc : CallR X (.type T) rc) (hs : CallS X.K G rc fn) (hg : Gl X x) (hm : X.mg x = none) (hv : bootBuiltins x = some (.type T)) (ha : SA X G (e :: es) tas mas) (hn : x ≠ "__name__" := by decide) (hdb : (x == ("__debug__" : Str)) = false := by decide)
    (he : starEach (e :: es) X.env = (false, eval e X.env) :: starEach es X.env := by rfl) (hpl : (backTo pos (starEach es X.env)).any (·.1) = false := by rfl) : SE X G (.Call (.Name x p) (e :: es) [] pos) (tCB rc tas) (dCall fn mas) :=
  ⟨pe_callTy hc hg hm hv ha.pe hn hdb he hpl, fun σ env ρ st H Q ev es h => ha.sd σ env ρ st H _ ev es (h.bind fun xs st1 ρ1 H1 vs f1 e1 es1 h1 => hs xs vs ρ1 st1 H1 Q e1 es1 h1)⟩
theorem se_callM {x : Str} {p : Pos} {id : String} {rc : List V → Hp → VK → Prop} {fn : FN} (hc : CallR X (.builtin id) rc) (hs : CallS X.K G rc fn) (hg : Gl X x) (hm : X.mg x = some (.builtin id)) (ha : SA X G (e :: es) tas mas) (hdb : (x == ("__debug__" : Str)) = false := by decide)
    (he : starEach (e :: es) X.env = (false, eval e X.env) :: starEach es X.env := by rfl) (hpl : (backTo pos (starEach es X.env)).any (·.1) = false := by rfl) : SE X G (.Call (.Name x p) (e :: es) [] pos) (tCB rc tas) (dCall fn mas) :=
  ⟨pe_callBfun hc hg hm ha.pe hdb he hpl, fun σ env ρ st H Q ev es h => ha.sd σ env ρ st H _ ev es (h.bind fun xs st1 ρ1 H1 vs f1 e1 es1 h1 => hs xs vs ρ1 st1 H1 Q e1 es1 h1)⟩
end
end Dn

set_option Elab.async false
set_option linter.all false
set_option maxRecDepth 100000
set_option maxHeartbeats 2000000
/-! Statements, loops, comprehensions, calls of defs. -/
namespace Dn
open PySem L2

inductive O where
  | nx (env : Ev) (st : Sto) | rt (d : D) (st : Sto) | bk (env : Ev) (st : Sto) | ct (env : Ev) (st : Sto) | er (n : Nat) (st : Sto) | no
def PostS (K : PySem.W.Frag) (G : Gx) (H : Hp) (ρ : List Addr) (Z : Ends) : O → Prop
  | .nx env st => ∀ ρ' H' σ', Fr H ρ H' ρ' → EVo K H' ρ' env σ' → ES K G.T H' ρ' st → Z.nx σ' H'
  | .bk env st => ∀ ρ' H' σ', Fr H ρ H' ρ' → EVo K H' ρ' env σ' → ES K G.T H' ρ' st → Z.bk σ' H'
  | .ct env st => ∀ ρ' H' σ', Fr H ρ H' ρ' → EVo K H' ρ' env σ' → ES K G.T H' ρ' st → Z.ct σ' H'
  | .rt d st => ∀ ρ' H' v, Fr H ρ H' ρ' → EV K H' ρ' d v → ES K G.T H' ρ' st → Z.rt v H'
  | .er n st => ∀ ρ' H', Fr H ρ H' ρ' → ES K G.T H' ρ' st → G.E (.ref (G.C n)) none H'
  | .no => False
/-- an expression, then what is made of its value -/
def R.toS {α : Type} (r : R α) (f : α → Sto → O) : O := match r with
  | .ok a st => f a st
  | .er n st => .er n st
  | .no => .no
@[simp] theorem R.toS_ok {α : Type} (a : α) (st : Sto) (f : α → Sto → O) : (R.ok a st).toS f = f a st := rfl
@[simp] theorem R.toS_er {α : Type} (n : Nat) (st : Sto) (f : α → Sto → O) : (R.er n st).toS f = .er n st := rfl
@[simp] theorem R.toS_no {α : Type} (f : α → Sto → O) : (R.no : R α).toS f = .no := rfl
def O.thn (o : O) (f : Ev → Sto → O) : O := match o with
  | .nx env st => f env st
  | o => o
@[simp] theorem O.thn_nx (env : Ev) (st : Sto) (f : Ev → Sto → O) : (O.nx env st).thn f = f env st := rfl
@[simp] theorem O.thn_rt (d : D) (st : Sto) (f : Ev → Sto → O) : (O.rt d st).thn f = .rt d st := rfl
@[simp] theorem O.thn_bk (env : Ev) (st : Sto) (f : Ev → Sto → O) : (O.bk env st).thn f = .bk env st := rfl
@[simp] theorem O.thn_ct (env : Ev) (st : Sto) (f : Ev → Sto → O) : (O.ct env st).thn f = .ct env st := rfl
@[simp] theorem O.thn_er (n : Nat) (st : Sto) (f : Ev → Sto → O) : (O.er n st).thn f = .er n st := rfl
@[simp] theorem O.thn_no (f : Ev → Sto → O) : O.no.thn f = .no := rfl

section
variable {K : PySem.W.Frag} {G : Gx} {H H1 : Hp} {ρ ρ1 : List Addr} {Z Z' : Ends}
theorem PostS.shift {o : O} (f : Fr H ρ H1 ρ1) (h : PostS K G H ρ Z o) : PostS K G H1 ρ1 Z o := by
  cases o with
  | nx env st => exact fun ρ' H' σ' g => h ρ' H' σ' (f.trans g)
  | bk env st => exact fun ρ' H' σ' g => h ρ' H' σ' (f.trans g)
  | ct env st => exact fun ρ' H' σ' g => h ρ' H' σ' (f.trans g)
  | rt d st => exact fun ρ' H' v g => h ρ' H' v (f.trans g)
  | er n st => exact fun ρ' H' g => h ρ' H' (f.trans g)
  | no => exact h
theorem PostS.bindR {α β : Type} {Rel : Hp → List Addr → α → β → Prop} {Q : β → Hp → Prop} {r : R α} {k : α → Sto → O} (h : PostS K G H ρ Z (r.toS k))
    (hk : ∀ a st1 ρ1 H1 b, Fr H ρ H1 ρ1 → Rel H1 ρ1 a b → ES K G.T H1 ρ1 st1 → PostS K G H1 ρ1 Z (k a st1) → Q b H1) : Post Rel K G.T G.C H ρ Q G.E r := by
  cases r with
  | ok a st1 => exact fun ρ1 H1 b f r e => hk a st1 ρ1 H1 b f r e (PostS.shift f h)
  | er n st1 => exact h
  | no => exact h
theorem PostS.thn {o : O} {k : Ev → Sto → O} {u : L2.St → Hp → Prop} (h : PostS K G H ρ Z (o.thn k))
    (hk : ∀ env1 st1 ρ1 H1 σ1, Fr H ρ H1 ρ1 → EVo K H1 ρ1 env1 σ1 → ES K G.T H1 ρ1 st1 → PostS K G H1 ρ1 Z (k env1 st1) → u σ1 H1) : PostS K G H ρ { Z with nx := u } o := by
  cases o with
  | nx env st => exact fun ρ1 H1 σ1 f ev es => hk env st ρ1 H1 σ1 f ev es (PostS.shift f h)
  | bk env st => exact h
  | ct env st => exact h
  | rt d st => exact h
  | er n st => exact h
  | no => exact h
end

abbrev MS := Ev → Sto → O
structure SS (X : Cx) (G : Gx) (s : Stmt) (t : TS) (m : MS) : Prop where
  pe : PS X s t
  sd : ∀ (σ : L2.St) (env : Ev) (ρ : List Addr) (st : Sto) (H : Hp) (Z : Ends), EVo X.K H ρ env σ → ES X.K G.T H ρ st → PostS X.K G H ρ Z (m env st) → t Z σ H
structure SSs (X : Cx) (G : Gx) (s : List Stmt) (t : TS) (m : MS) : Prop where
  pe : PSs X s t
  sd : ∀ (σ : L2.St) (env : Ev) (ρ : List Addr) (st : Sto) (H : Hp) (Z : Ends), EVo X.K H ρ env σ → ES X.K G.T H ρ st → PostS X.K G H ρ Z (m env st) → t Z σ H

def sNext : MS := fun env st => .nx env st
def sSeq (a b : MS) : MS := fun env st => (a env st).thn b
def sBreak : MS := fun env st => .bk env st
def sCont : MS := fun env st => .ct env st
def sDrop (a : ME) : MS := fun env st => (a env st).toS fun _ st => .nx env st
def sRet (a : ME) : MS := fun env st => (a env st).toS fun d st => .rt d st
def sRetN : MS := fun _ st => .rt .non st
def sIf (t : MT) (a b : MS) : MS := fun env st => (t env st).toS fun k st => if k = true then a env st else b env st
def sNo : MS := fun _ _ => .no
def sRaise (n : Nat) : MS := fun _ st => .er n st
/-- a target -/
abbrev MG := D → Ev → Sto → R Ev
abbrev MGs := List D → Ev → Sto → R Ev
abbrev PostG (K : PySem.W.Frag) (G : Gx) (H : Hp) (ρ : List Addr) (Q : L2.St → Hp → Prop) (r : R Ev) : Prop := Post (EVo K) K G.T G.C H ρ Q G.E r
structure SG (X : Cx) (G : Gx) (e : Expr) (g : TG) (m : MG) : Prop where
  pe : PG X e g
  sd : ∀ (d : D) (v : V) (σ : L2.St) (env : Ev) (ρ : List Addr) (st : Sto) (H : Hp) (Q : L2.St → Hp → Prop), EV X.K H ρ d v → EVo X.K H ρ env σ → ES X.K G.T H ρ st → PostG X.K G H ρ Q (m d env st) → g v σ H Q
structure SGs (X : Cx) (G : Gx) (es : List Expr) (g : TGs) (m : MGs) : Prop where
  pe : PGs X es g
  sd : ∀ (ds : List D) (vs : List V) (σ : L2.St) (env : Ev) (ρ : List Addr) (st : Sto) (H : Hp) (Q : L2.St → Hp → Prop), EVs X.K H ρ ds vs → EVo X.K H ρ env σ → ES X.K G.T H ρ st → PostG X.K G H ρ Q (m ds env st) → g vs σ H Q
def mName (i : Nat) : MG := fun d env st => .ok (env.set i (some d)) st
def mNil : MGs := fun ds env st => match ds with
  | [] => .ok env st
  | _ => .no
def mCons (g : MG) (gs : MGs) : MGs := fun ds env st => match ds with
  | d :: r => (g d env st).bind fun env st => gs r env st
  | [] => .no
def mTup (n : Nat) (gs : MGs) : MG := fun d env st => match d with
  | .tup ds => if ds.length = n then gs ds env st else .no
  | _ => .no
def mSub (a b : ME) (f : D → D → D → Sto → R Unit) : MG := fun d env st => (a env st).bind fun o st => (b env st).bind fun i st => (f o i d st).bind fun _ st => .ok env st
def sAsg (a : ME) (g : MG) : MS := fun env st => (a env st).toS fun d st => (g d env st).toS fun env st => .nx env st
def sPar (i j : Nat) (as : MA) : MS := fun env st => (as env st).toS fun ds st => match ds with
  | [d, e] => .nx ((env.set i (some d)).set j (some e)) st
  | _ => .no
def SetS (K : PySem.W.Frag) (G : Gx) (r : TSet) (f : D → D → D → Sto → R Unit) : Prop :=
  ∀ (o i d : D) (vo vi vd : V) (ρ : List Addr) (st : Sto) (H : Hp) (Q : Hp → Prop), EV K H ρ o vo → EV K H ρ i vi → EV K H ρ d vd → ES K G.T H ρ st → Post (fun _ _ (_ : Unit) (_ : Unit) => True) K G.T G.C H ρ (fun _ H => Q H) G.E (f o i d st) → r vo vi vd H Q

section
variable {X : Cx} {G : Gx} {a b c e : Expr} {es : List Expr} {ta tb tc te : TE} {tas : TA} {tt : TT} {ma mb mc me : ME} {mas : MA} {mt : MT} {pos : Pos} {s : Stmt} {ss : List Stmt} {ts tr tu : TS} {ms mr mu : MS} {g : TG} {gs : TGs} {mg : MG} {mgs : MGs}
theorem sss_nil : SSs X G [] tNext sNext := ⟨pss_nil, fun σ env ρ st H Z ev es h => h ρ H σ (Fr.refl H ρ) ev es⟩
theorem sss_cons (h1 : SS X G s ts ms) (h2 : SSs X G ss tr mr) : SSs X G (s :: ss) (tSeq ts tr) (sSeq ms mr) := ⟨pss_cons h1.pe h2.pe, fun σ env ρ st H Z ev es h =>
  h1.sd σ env ρ st H _ ev es (h.thn fun env1 st1 ρ1 H1 σ1 f ev1 es1 q => h2.sd σ1 env1 ρ1 st1 H1 Z ev1 es1 q)⟩
theorem sss_one (h1 : SS X G s ts ms) : SSs X G [s] ts ms := ⟨pss_one h1.pe, h1.sd⟩
theorem ss_pass : SS X G (.Pass pos) tNext sNext := ⟨ps_pass, fun σ env ρ st H Z ev es h => h ρ H σ (Fr.refl H ρ) ev es⟩
theorem ss_break : SS X G (.Break pos) tBreak sBreak := ⟨ps_break, fun σ env ρ st H Z ev es h => h ρ H σ (Fr.refl H ρ) ev es⟩
theorem ss_continue : SS X G (.Continue pos) tCont sCont := ⟨ps_continue, fun σ env ρ st H Z ev es h => h ρ H σ (Fr.refl H ρ) ev es⟩
theorem ss_doc {x j p p'} : SS X G (.Expr (.Constant (.str x) j p) p') tNext sNext := ⟨ps_doc, fun σ env ρ st H Z ev es h => h ρ H σ (Fr.refl H ρ) ev es⟩
theorem ss_expr (ha : SE X G a ta ma) (hs : swapsWith a none pos.line X.env = pure false := by rfl) : SS X G (.Expr a pos) (tDrop ta) (sDrop ma) := ⟨ps_expr ha.pe hs, fun σ env ρ st H Z ev es h =>
  ha.sd σ env ρ st H _ ev es (h.bindR fun d st1 ρ1 H1 v f e1 es1 q => q ρ1 H1 σ (Fr.refl H1 ρ1) (ev.mono f) es1)⟩
theorem ss_ret (ha : SE X G a ta ma) : SS X G (.Return (some a) pos) (tRet ta) (sRet ma) := ⟨ps_ret ha.pe, fun σ env ρ st H Z ev es h =>
  ha.sd σ env ρ st H _ ev es (h.bindR fun d st1 ρ1 H1 v f e1 es1 q => q ρ1 H1 v (Fr.refl H1 ρ1) e1 es1)⟩
theorem ss_retN : SS X G (.Return none pos) tRetN sRetN := ⟨ps_retN, fun σ env ρ st H Z ev es h => h ρ H .non (Fr.refl H ρ) .non es⟩
theorem ss_if {ss' : List Stmt} (ht : ST X G c tt mt) (h1 : SSs X G ss ts ms) (h2 : SSs X G ss' tr mr) : SS X G (.If c ss ss' pos) (tIfS tt ts tr) (sIf mt ms mr) := ⟨ps_if ht.pe h1.pe h2.pe, fun σ env ρ st H Z ev es h => by
  refine ht.sd σ env ρ st H _ ev es (h.bindR fun k st1 ρ1 H1 k' f e1 es1 q => ?_)
  subst e1
  cases k with
  | true => exact h1.sd σ env ρ1 st1 H1 Z (ev.mono f) es1 q
  | false => exact h2.sd σ env ρ1 st1 H1 Z (ev.mono f) es1 q⟩
theorem ss_never : SS X G s tNever sNo := ⟨ps_never, fun _ _ _ _ _ _ _ _ h => h⟩
/-! targets -/
theorem sg_name (i : Nat) {x : Str} (hN : X.N.Nodup) (hi : X.N[i]? = some x := by rfl) (hx : Loc X.env.scope x := by first | exact Or.inl rfl | exact Or.inr rfl) (hf : X.fn x = true ∨ X.env.scope.names.lookup x = some .local := by first | exact .inl rfl | exact .inr rfl | assumption) : SG X G (.Name x pos) (gName i) (mName i) :=
  ⟨pg_name hN hi hx hf, fun d v σ env ρ st H Q hd ev es h => h.now (ev.set hd i) es⟩
theorem sgs_nil : SGs X G [] gNil mNil := ⟨pgs_nil, fun ds vs σ env ρ st H Q hd ev es h => by
  cases hd with
  | nil => exact ⟨rfl, h.now ev es⟩
  | cons _ _ => exact h.elim⟩
theorem sgs_cons (h1 : SG X G e g mg) (h2 : SGs X G es gs mgs) (hs : (assignEach (e :: es) X.env).map (·.2) = assign e X.env :: (assignEach es X.env).map (·.2) := by rfl) : SGs X G (e :: es) (gCons g gs) (mCons mg mgs) := ⟨pgs_cons h1.pe h2.pe hs, fun ds vs σ env ρ st H Q hd ev es h => by
  cases hd with
  | nil => exact h.elim
  | @cons d v ds vs hd hr =>
    refine ⟨v, vs, rfl, h1.sd d v σ env ρ st H _ hd ev es (h.bind fun env1 st1 ρ1 H1 σ1 f ev1 es1 q => ?_)⟩
    exact h2.sd ds vs σ1 env1 ρ1 st1 H1 Q (hr.mono f) ev1 es1 q⟩
theorem sg_tup {k : Nat} {n : Nat} (hc : X.calm = true) (h : SGs X G es gs mgs) (hn : (assignEach es X.env).length = n := by rfl) (hst : (assignEach es X.env).findIdx? (·.1) = none := by rfl) : SG X G (.Tuple es k pos) (gTup X.K n gs) (mTup n mgs) :=
  ⟨pg_tup hc h.pe hn hst, fun d v σ env ρ st H Q hd ev es q => by
  cases hd with
  | @tup a ds vs hq hr =>
    simp only [mTup] at q
    by_cases hl : ds.length = n
    · rw [if_pos hl] at q
      exact ⟨a, vs, rfl, hq, by rw [← hr.length]; exact hl, h.sd ds vs σ env ρ st H Q hr ev es q⟩
    · rw [if_neg hl] at q
      exact q.elim
  | _ => exact q.elim⟩
theorem sg_sub {rs : TSet} {f : D → D → D → Sto → R Unit} (ha : SE X G a ta ma) (hb : SE X G b tb mb) (hp : PSet X rs) (hs : SetS X.K G rs f)
    (hh : ∀ v, assign (.Subscript a b pos) X.env v = (do
      let ov ← holding [v] (eval a X.env)
      let iv ← holding [v, ov] (eval b X.env)
      standAt pos
      holding [v, ov, iv] (setItem ov iv v)
      release [v, ov, iv] []) := by intro _; rfl) : SG X G (.Subscript a b pos) (gSub ta tb rs) (mSub ma mb f) := ⟨pg_sub ha.pe hb.pe hp hh, fun d v σ env ρ st H Q hd ev es h => by
  refine ha.sd σ env ρ st H _ ev es (h.bind fun o st1 ρ1 H1 vo f1 e1 es1 h1 => ?_)
  refine hb.sd σ env ρ1 st1 H1 _ (ev.mono f1) es1 (h1.bind fun i st2 ρ2 H2 vi f2 e2 es2 h2 => ?_)
  refine hs o i d vo vi v ρ2 st2 H2 _ (e1.mono f2) e2 (hd.mono (f1.trans f2)) es2 (h2.bind fun _ st3 ρ3 H3 _ f3 _ es3 h3 => ?_)
  exact h3.now (ev.mono ((f1.trans f2).trans f3)) es3⟩
theorem ss_asg (ha : SE X G a ta ma) (hg : SG X G e g mg) (hs : swapsWithSole [e] a pos.line X.env = pure false := by rfl) (hw : swappedStores [e] a X.env = pure none := by rfl) (h1 : (assignEach [e] X.env).map (·.2) = [assign e X.env] := by rfl) : SS X G (.Assign [e] a pos) (L2.tAsg ta g) (sAsg ma mg) :=
  ⟨ps_asg ha.pe hg.pe hs hw h1, fun σ env ρ st H Z ev es h => ha.sd σ env ρ st H _ ev es (h.bindR fun d st1 ρ1 H1 v f e1 es1 q =>
    hg.sd d v σ env ρ1 st1 H1 _ e1 (ev.mono f) es1 (q.bindR fun env2 st2 ρ2 H2 σ2 f2 ev2 es2 q2 => q2 ρ2 H2 σ2 (Fr.refl H2 ρ2) ev2 es2))⟩
theorem ss_set (i : Nat) {x : Str} {pos' : Pos} (hN : X.N.Nodup) (ha : SE X G a ta ma) (hi : X.N[i]? = some x := by rfl) (hx : Loc X.env.scope x := by first | exact Or.inl rfl | exact Or.inr rfl) (hs : swapsWith a (some (.Name x pos')) pos.line X.env = pure false := by rfl) (hf : X.fn x = true ∨ X.env.scope.names.lookup x = some .local := by first | exact .inl rfl | exact .inr rfl | assumption) :
    SS X G (.Assign [.Name x pos'] a pos) (L2.tAsg ta (gName i)) (sAsg ma (mName i)) := ⟨ps_set hN hi hx ha.pe hs hf, fun σ env ρ st H Z ev es h => ha.sd σ env ρ st H _ ev es (h.bindR fun d st1 ρ1 H1 v f e1 es1 q =>
    q ρ1 H1 _ (Fr.refl H1 ρ1) ((ev.mono f).set e1 i) es1)⟩
theorem ss_par (i j : Nat) {x y : Str} {px py pt : Pos} {kt k2 pt2} (hc : X.calm = true) (hN : X.N.Nodup) (ha : SA X G [a, b] tas mas) (hi : X.N[i]? = some x := by rfl) (hj : X.N[j]? = some y := by rfl) (hij : i ≠ j := by decide)
    (hx : X.env.scope.names.lookup x = some .local := by rfl) (hy : X.env.scope.names.lookup y = some .local := by rfl) (hw : swappedStores [.Tuple [.Name x px, .Name y py] kt pt] (.Tuple [a, b] k2 pt2) X.env = pure (some [x, y]) := by rfl)
    (hs : swapsWithSole [.Tuple [.Name x px, .Name y py] kt pt] (.Tuple [a, b] k2 pt2) pos.line X.env = pure false := by rfl) :
    SS X G (.Assign [.Tuple [.Name x px, .Name y py] kt pt] (.Tuple [a, b] k2 pt2) pos) (tPar i j tas) (sPar i j mas) := ⟨ps_par hc hN hi hj hij hx hy ha.pe hw hs, fun σ env ρ st H Z ev es h => ha.sd σ env ρ st H _ ev es (h.bindR fun ds st1 ρ1 H1 vs f e1 es1 q => by
  cases e1 with
  | nil => exact q.elim
  | @cons d v ds vs e1 r1 =>
    cases r1 with
    | nil => exact q.elim
    | @cons d2 v2 ds vs e2 r2 =>
      cases r2 with
      | nil => exact ⟨v, v2, rfl, q ρ1 H1 _ (Fr.refl H1 ρ1) (((ev.mono f).set e1 i).set e2 j) es1⟩
      | cons _ _ => exact q.elim)⟩
end
end Dn

set_option Elab.async false
set_option linter.all false
set_option maxRecDepth 100000
set_option maxHeartbeats 2000000
/-! Loops, comprehensions, defs. -/
namespace Dn
open PySem PySem.Spec PyProof.Rows L2

/-! ### defs -/
/-- the promise of a def that makes M of data: n arguments -/
def spM (K : PySem.W.Frag) (T : List (Addr × Str)) (C : Nat → Addr) (n : Nat) (M : FN) : Sp := fun vs H Q E => ∃ (xs : List D) (ρ : List Addr) (st : Sto), xs.length = n ∧ EVs K H ρ xs vs ∧ ES K T H ρ st ∧ Post (EV K) K T C H ρ Q E (M xs st)
def O.res : O → R D
  | .rt d st => .ok d st
  | .nx _ st => .ok .non st
  | .er n st => .er n st
  | _ => .no
def startE (N : Nat) (xs : List D) : Ev := xs.map some ++ List.replicate (N - xs.length) none
/-- the whole result r, told as r': newer objects forgotten -/
inductive Tells (st0 : Sto) : R D → R D → Prop where
  | no (r : R D) : Tells st0 r .no
  | same (r : R D) : Tells st0 r r
  /-- the store is as it was -/
  | ok (d : D) (g : Sto) (h : d.cl st0.length = true) : Tells st0 (.ok d (st0 ++ g)) (.ok d st0)
  | er (n : Nat) (g : Sto) : Tells st0 (.er n (st0 ++ g)) (.er n st0)
  /-- the store has changed -/
  | okC (d : D) (st g : Sto) (hl : st0.length ≤ st.length) (h : d.cl st.length = true) (hc : ∀ c ∈ st, c.cl st.length = true) : Tells st0 (.ok d (st ++ g)) (.ok d st)
  | erC (n : Nat) (st g : Sto) (hl : st0.length ≤ st.length) (hc : ∀ c ∈ st, c.cl st.length = true) : Tells st0 (.er n (st ++ g)) (.er n st)
theorem Fr.cut {H H' : Hp} {ρ ρ' : List Addr} (f : Fr H ρ H' ρ') {n : Nat} (hl : ρ.length ≤ n) : Fr H ρ H' (ρ'.take n) := by
  obtain ⟨l, e⟩ := f.pre
  refine ⟨⟨l.take (n - ρ.length), ?_⟩, f.keep, f.tup, f.frz, fun a h n => f.new a (List.mem_of_mem_take h) n⟩
  rw [e, List.take_append, List.take_of_length_le hl]
theorem Post.tells {K : PySem.W.Frag} {T : List (Addr × Str)} {C : Nat → Addr} {H : Hp} {ρ : List Addr} {Q : VK} {E : XK} {st : Sto} {r r' : R D} (es : ES K T H ρ st) (t : Tells st r r') (h : Post (EV K) K T C H ρ Q E r') : Post (EV K) K T C H ρ Q E r := by
  cases t with
  | no => exact h.elim
  | same => exact h
  | ok d g hd =>
    intro ρ' H' v f ev e1
    obtain ⟨l, hp⟩ := id f.pre
    subst hp
    exact h ρ H' v f.back (ev.shrink (by rw [es.len]; exact hd)) (es.same f e1)
  | er n g =>
    intro ρ' H' f e1
    exact h ρ H' f.back (es.same f e1)
  | okC d st1 g hl hd hc =>
    intro ρ' H' v f ev e1
    have hl' : ρ.length ≤ st1.length := by rw [es.len]; exact hl
    have hn : st1.length ≤ ρ'.length := by rw [e1.len, List.length_append]; omega
    have ht : (ρ'.take st1.length).length = st1.length := by rw [List.length_take]; omega
    have e2 : ρ' = ρ'.take st1.length ++ ρ'.drop st1.length := (List.take_append_drop _ _).symm
    refine h (ρ'.take st1.length) H' v (f.cut hl') ?_ (e1.pre ⟨_, e2⟩ ht hc)
    rw [e2] at ev
    exact ev.shrink (by rw [ht]; exact hd)
  | erC n st1 g hl hc =>
    intro ρ' H' f e1
    have hl' : ρ.length ≤ st1.length := by rw [es.len]; exact hl
    have hn : st1.length ≤ ρ'.length := by rw [e1.len, List.length_append]; omega
    have ht : (ρ'.take st1.length).length = st1.length := by rw [List.length_take]; omega
    exact h (ρ'.take st1.length) H' (f.cut hl') (e1.pre ⟨_, (List.take_append_drop _ _).symm⟩ ht hc)
theorem EVs.start {K : PySem.W.Frag} {H : Hp} {ρ : List Addr} {N : List Str} {xs : List D} {vs : List V} (h : EVs K H ρ xs vs) : EVo K H ρ (startE N.length xs) (L2.start N vs) := by
  have hl := h.length
  refine ⟨?_, fun i d hi => ?_⟩
  · unfold startE L2.start
    rw [List.length_append, List.length_append, List.length_map, List.length_map, List.length_replicate, List.length_replicate, hl]
  · unfold startE at hi
    unfold L2.start
    by_cases hx : i < xs.length
    · rw [List.getElem?_append_left (by rw [List.length_map]; exact hx), List.getElem?_map] at hi
      cases e : xs[i]? with
      | none => rw [e] at hi; cases hi
      | some x =>
        rw [e] at hi
        cases hi
        obtain ⟨v, h1, h2⟩ := h.get e
        refine ⟨v, ?_, h2⟩
        rw [List.getElem?_append_left (by rw [List.length_map, ← hl]; exact hx), List.getElem?_map, h1]
        rfl
    · rw [List.getElem?_append_right (by rw [List.length_map]; omega)] at hi
      have z := List.mem_of_getElem? hi
      rw [List.mem_replicate] at z
      cases z.2

section
variable {P : Program} {w : World} {K : PySem.W.Frag} {T : List (Addr × Str)} {mg : Str → Option Value} {base : Heap}
/-- THE RULE of a def: its body makes m of data; M tells what m gives -/
theorem fun_ok {x qual : Str} {st : Stmt} {f : Addr} {fd : FuncData} {N ps : List Str} {k : Nat} {C : Nat → Addr} {M : FN} {m : MS} {n : Nat} (F : Fun K x qual st f fd) (S : FnScope N ps (defScope st)) (hn : ps.length = n := by rfl)
    (hbody : ∀ (cdv : Value) (A : Around) (outer : List Env) (s : Shared) (H : Hp) (E : XK), Room k (A.deeper (envOfC qual (defScope st) s.heap.objs.size f cdv)) →
      ∃ t, SSs (cxOf (L2N.CX P w) P w K mg base N qual (defScope st) f cdv A outer s H E) ⟨C, T, E⟩ (defBody st) t m)
    (hM : ∀ (xs : List D) (st : Sto), xs.length = n → M xs st ≠ .no → Tells st (m (startE N.length xs) st).res (M xs st)) : FnOk P w K mg base (L2N.CX P w) (k + 1) f fd ps (spM K T C n M) := by
  obtain ⟨oc, od, kV, doc, pm, an, cdv, ct, osl, rfl, lk, hcd⟩ := F.ex
  refine fn_of lk hcd S (fun vs H Q E h => ?_) fun A outer s H vs Q E hr h => ?_
  · obtain ⟨xs, ρ, st, h1, h2, _⟩ := h
    rw [← h2.length, h1, hn]
  · obtain ⟨xs, ρ, st0, h1, h2, h3, h4⟩ := h
    obtain ⟨t, Tt⟩ := hbody cdv A outer s H E hr
    refine ⟨t, Tt.pe, Tt.sd _ (startE N.length xs) ρ st0 H _ h2.start h3 ?_⟩
    have hne : M xs st0 ≠ .no := fun z => by rw [z] at h4; exact h4
    have q := Post.tells h3 (hM xs st0 h1 hne) h4
    cases e : m (startE N.length xs) st0 with
    | rt d st1 => rw [e] at q; exact q
    | nx env st1 =>
      rw [e] at q
      exact fun ρ' H' σ' f _ e1 => q ρ' H' .non f .non e1
    | er n st1 => rw [e] at q; exact q
    | bk _ _ => rw [e] at q; exact q.elim
    | ct _ _ => rw [e] at q; exact q.elim
    | no => rw [e] at q; exact q
end
/-- the arguments of a call, n of them -/
def dFn (n : Nat) (M : FN) : FN := fun xs st => if xs.length = n then M xs st else .no
section
variable {X : Cx} {G : Gx} {a b c e : Expr} {es : List Expr} {ta tb tc te : TE} {tas : TA} {tt : TT} {ma mb mc me : ME} {mas : MA} {mt : MT} {pos p : Pos} {s : Stmt} {ss : List Stmt} {ts tr tu : TS} {ms mr mu : MS} {g : TG} {gs : TGs} {mg : MG} {mgs : MGs}
theorem se_fn {x : Str} {k n : Nat} {f : Addr} {fd : FuncData} {ps : List Str} {M : FN} (F : FnOk X.prog X.w X.K X.mg X.base (L2N.CX X.prog X.w) k f fd ps (spM X.K G.T G.C n M)) (hr : Room k X.A) (hg : Gl X x) (hm : X.mg x = some (.ref f)) (hk : PySem.W.keepIn X.K (.ref f) = true) (hb : L2.Binds X.K fd ps []) (hx : Passes (L2N.CX X.prog X.w) X G.E)
    (ha : SA X G (e :: es) tas mas) (hdb : (x == ("__debug__" : Str)) = false := by decide) (he : starEach (e :: es) X.env = (false, eval e X.env) :: starEach es X.env := by rfl) (hpl : (backTo pos (starEach es X.env)).any (·.1) = false := by rfl) :
    SE X G (.Call (.Name x p) (e :: es) [] pos) (L2.tCall (spM X.K G.T G.C n M) [] G.E tas) (dCall (dFn n M) mas) := ⟨pe_call F hr hg hm hk hb .nil hx ha.pe hdb he hpl, fun σ env ρ st H Q ev es h => by
  refine ha.sd σ env ρ st H _ ev es (h.bind fun xs st1 ρ1 H1 vs f1 e1 es1 h1 => ?_)
  unfold dFn at h1
  by_cases hl : xs.length = n
  · rw [if_pos hl] at h1
    exact ⟨xs, ρ1, st1, hl, by rw [List.append_nil]; exact e1, es1, h1⟩
  · rw [if_neg hl] at h1
    exact h1.elim⟩
theorem se_fn0 {x : Str} {k : Nat} {f : Addr} {fd : FuncData} {ps : List Str} {M : FN} (F : FnOk X.prog X.w X.K X.mg X.base (L2N.CX X.prog X.w) k f fd ps (spM X.K G.T G.C 0 M)) (hr : Room k X.A) (hg : Gl X x) (hm : X.mg x = some (.ref f)) (hk : PySem.W.keepIn X.K (.ref f) = true) (hb : L2.Binds X.K fd ps []) (hx : Passes (L2N.CX X.prog X.w) X G.E)
    (hdb : (x == ("__debug__" : Str)) = false := by decide) : SE X G (.Call (.Name x p) [] [] pos) (L2.tCall (spM X.K G.T G.C 0 M) [] G.E tNil) (dCall (dFn 0 M) aNil) := ⟨pe_call0 F hr hg hm hk hb .nil hx hdb, fun σ env ρ st H Q ev es h => ⟨[], ρ, st, rfl, .nil, es, h⟩⟩
/-- raise X('..') -/
theorem ss_raise {W : WX} (n : Nat) (hc : X.calm = true) (tk : L2N.Takes X W) (hW : ∀ cls d σ H, G.E cls d H → W cls d σ H) (he : L2N.PMk X e (fun _ H Q => Q (.ref (G.C n)) none H)) : SS X G (.Raise (some e) none pos) (fun _ σ H => W (.ref (G.C n)) none σ H) (sRaise n) :=
  ⟨L2N.ps_raise hc tk he, fun σ env ρ st H Z ev es h => hW _ _ _ _ (h ρ H (Fr.refl H ρ) es)⟩

/-! ### while -/
def O.loop (o : O) (f : Ev → Sto → O) : O := match o with
  | .nx env st => f env st
  | .ct env st => f env st
  | .bk env st => .nx env st
  | o => o
@[simp] theorem O.loop_nx (env : Ev) (st : Sto) (f : Ev → Sto → O) : (O.nx env st).loop f = f env st := rfl
@[simp] theorem O.loop_ct (env : Ev) (st : Sto) (f : Ev → Sto → O) : (O.ct env st).loop f = f env st := rfl
@[simp] theorem O.loop_bk (env : Ev) (st : Sto) (f : Ev → Sto → O) : (O.bk env st).loop f = .nx env st := rfl
@[simp] theorem O.loop_rt (d : D) (st : Sto) (f : Ev → Sto → O) : (O.rt d st).loop f = .rt d st := rfl
@[simp] theorem O.loop_er (n : Nat) (st : Sto) (f : Ev → Sto → O) : (O.er n st).loop f = .er n st := rfl
@[simp] theorem O.loop_no (f : Ev → Sto → O) : O.no.loop f = .no := rfl
theorem PostS.loop {K : PySem.W.Frag} {H : Hp} {ρ : List Addr} {Z : Ends} {o : O} {k : Ev → Sto → O} {N : L2.St → Hp → Prop} (h : PostS K G H ρ Z (o.loop k))
    (hk : ∀ env1 st1 ρ1 H1 σ1, Fr H ρ H1 ρ1 → EVo K H1 ρ1 env1 σ1 → ES K G.T H1 ρ1 st1 → PostS K G H1 ρ1 Z (k env1 st1) → N σ1 H1) : PostS K G H ρ { Z with nx := N, ct := N, bk := Z.nx } o := by
  cases o with
  | nx env st => exact fun ρ1 H1 σ1 f ev es => hk env st ρ1 H1 σ1 f ev es (PostS.shift f h)
  | ct env st => exact fun ρ1 H1 σ1 f ev es => hk env st ρ1 H1 σ1 f ev es (PostS.shift f h)
  | bk env st => exact h
  | rt d st => exact h
  | er n st => exact h
  | no => exact h
theorem R.toS_loop {α : Type} (r : R α) (k : α → Sto → O) (f : Ev → Sto → O) : (r.toS k).loop f = r.toS fun a st => (k a st).loop f := by cases r <;> rfl
theorem R.toS_thn {α : Type} (r : R α) (k : α → Sto → O) (f : Ev → Sto → O) : (r.toS k).thn f = r.toS fun a st => (k a st).thn f := by cases r <;> rfl
def sWhileN (c : MT) (b : MS) : Nat → MS
  | 0 => fun _ _ => .no
  | n + 1 => fun env st => (c env st).toS fun k st => if k = true then (b env st).loop (sWhileN c b n) else .nx env st
def sWhile (n : Ev → Sto → Nat) (c : MT) (b : MS) : MS := fun env st => sWhileN c b (n env st) env st
theorem ss_while (n : Ev → Sto → Nat) (hp : PassesOwn (model X.prog X.w) X.A X.env X.xe) (ht : ST X G c tt mt) (hb : SSs X G ss ts ms) : SS X G (.While c ss [] pos) (tWhile tt ts) (sWhile n mt ms) := ⟨ps_while hp ht.pe hb.pe, fun σ env ρ st H Z ev es h => by
  refine ⟨fun i σ H => ∃ env ρ st, EVo X.K H ρ env σ ∧ ES X.K G.T H ρ st ∧ PostS X.K G H ρ Z (sWhileN mt ms i env st), ⟨n env st, env, ρ, st, ev, es, h⟩, ?_⟩
  rintro i σ H ⟨env, ρ, st, ev, es, h⟩
  cases i with
  | zero => exact h.elim
  | succ i =>
    refine ht.sd σ env ρ st H _ ev es (h.bindR fun k st1 ρ1 H1 k' f e1 es1 q => ?_)
    subst e1
    cases k with
    | true =>
      refine ⟨fun σ' H' => ∃ env ρ st, EVo X.K H' ρ env σ' ∧ ES X.K G.T H' ρ st ∧ PostS X.K G H' ρ Z (sWhileN mt ms i env st), fun σ' H' w => ⟨i, Nat.lt_succ_self i, w⟩, ?_⟩
      refine hb.sd σ env ρ1 st1 H1 _ (ev.mono f) es1 (PostS.loop q fun env2 st2 ρ2 H2 σ2 f2 ev2 es2 q2 => ?_)
      exact ⟨env2, ρ2, st2, ev2, es2, q2⟩
    | false => exact q ρ1 H1 σ (Fr.refl H1 ρ1) (ev.mono f) es1⟩

/-! ### for -/
/-- what is walked: at turn i, by the store: not told, the end, an item -/
abbrev Feed := Nat → Sto → Option (Option D)
structure Live (K : PySem.W.Frag) (T : List (Addr × Str)) (H0 : Hp) (ρ0 : List Addr) (J : It) (fd : Feed) : Prop where
  stop : ∀ (H : Hp) (ρ : List Addr) (st : Sto) (i : Nat), Fr H0 ρ0 H ρ → ES K T H ρ st → fd i st = some none → J.stop i H
  go : ∀ (H : Hp) (ρ : List Addr) (st : Sto) (i : Nat) (d : D), Fr H0 ρ0 H ρ → ES K T H ρ st → fd i st = some (some d) → J.go i H ∧ ∀ x H', J.yld i H x H' → Fr H ρ H' ρ ∧ EV K H' ρ d x ∧ ES K T H' ρ st
abbrev MI := Ev → Sto → R (Feed × Nat)
structure SI (X : Cx) (G : Gx) (tg iter : Expr) (wi : TI) (m : MI) : Prop where
  pe : PI X tg iter wi
  sd : ∀ (σ : L2.St) (env : Ev) (ρ : List Addr) (st : Sto) (H : Hp) (Q : It → Hp → Prop), EVo X.K H ρ env σ → ES X.K G.T H ρ st → Post (fun H ρ (f : Feed × Nat) J => Live X.K G.T H ρ J f.1) X.K G.T G.C H ρ Q G.E (m env st) → wi σ H Q
def sForF (fd : Feed) (g : MG) (b : MS) : Nat → Nat → MS
  | 0, i => fun env st => match fd i st with
    | some none => .nx env st
    | _ => .no
  | n + 1, i => fun env st => match fd i st with
    | some none => .nx env st
    | some (some d) => ((g d env st).toS b).loop (sForF fd g b n (i + 1))
    | none => .no
def sFor (it : MI) (g : MG) (b : MS) : MS := fun env st => (it env st).toS fun f st => sForF f.1 g b f.2 0 env st
theorem ss_for {iter tg : Expr} {wi : TI} {mi : MI} (hp : PassesOwn (model X.prog X.w) X.A X.env X.xe) (hc : X.calm = true) (hi : SI X G tg iter wi mi) (hg : SG X G tg g mg) (hb : SSs X G ss ts ms)
    (hps : PS X (.For tg iter ss [] pos) (tFor wi g ts)) : SS X G (.For tg iter ss [] pos) (tFor wi g ts) (sFor mi mg ms) := ⟨hps, fun σ env ρ st H Z ev es h => by
  refine hi.sd σ env ρ st H _ ev es (h.bindR fun f st1 ρ1 H1 J f1 L es1 q => ?_)
  obtain ⟨fd, n⟩ := f
  refine ⟨fun i m σ H => ∃ env ρ st, Fr H1 ρ1 H ρ ∧ EVo X.K H ρ env σ ∧ ES X.K G.T H ρ st ∧ PostS X.K G H ρ Z (sForF fd mg ms m i env st), ⟨n, env, ρ1, st1, Fr.refl H1 ρ1, ev.mono f1, es1, q⟩, ?_⟩
  rintro i m σ H ⟨env, ρ, st, f, ev, es, h⟩
  cases m with
  | zero =>
    unfold sForF at h
    cases e : fd i st with
    | none => rw [e] at h; exact h.elim
    | some o =>
      rw [e] at h
      cases o with
      | none => exact .inl ⟨L.stop H ρ st i f es e, h ρ H σ (Fr.refl H ρ) ev es⟩
      | some d => exact h.elim
  | succ m =>
    unfold sForF at h
    cases e : fd i st with
    | none => rw [e] at h; exact h.elim
    | some o =>
      rw [e] at h
      cases o with
      | none => exact .inl ⟨L.stop H ρ st i f es e, h ρ H σ (Fr.refl H ρ) ev es⟩
      | some d =>
        obtain ⟨hgo, hy⟩ := L.go H ρ st i d f es e
        refine .inr ⟨hgo, fun σ' H' => ∃ env ρ st, Fr H1 ρ1 H' ρ ∧ EVo X.K H' ρ env σ' ∧ ES X.K G.T H' ρ st ∧ PostS X.K G H' ρ Z (sForF fd mg ms m (i + 1) env st), fun σ' H' w => ⟨m, Nat.lt_succ_self m, w⟩, fun x H' y => ?_⟩
        obtain ⟨f2, e2, es2⟩ := hy x H' y
        have q2 := PostS.shift f2 h
        dsimp only at q2
        rw [R.toS_loop] at q2
        refine hg.sd d x σ env ρ st H' _ e2 (ev.mono f2) es2 (q2.bindR fun env3 st3 ρ3 H3 σ3 f3 ev3 es3 q3 => ?_)
        refine hb.sd σ3 env3 ρ3 st3 H3 _ ev3 es3 (PostS.loop q3 fun env4 st4 ρ4 H4 σ4 f4 ev4 es4 q4 => ?_)
        exact ⟨env4, ρ4, st4, ((f.trans f2).trans f3).trans f4, ev4, es4, q4⟩⟩
theorem ss_forT {iter tg : Expr} {wi : TI} {mi : MI} (hp : PassesOwn (model X.prog X.w) X.A X.env X.xe) (hc : X.calm = true) (hi : SI X G tg iter wi mi) (hg : SG X G tg g mg) (hb : SSs X G ss ts ms)
    (hs : ∀ x, foldedSetIterable iter X.env x = pure x := by intro _; rfl) : SS X G (.For tg iter ss [] pos) (tFor wi g ts) (sFor mi mg ms) := ss_for hp hc hi hg hb (ps_for hp hc hi.pe hg.pe hb.pe hs)
end
/-! what is walked -/
def seqFeed (ds : List D) : Feed := fun i _ => some ds[i]?
def lstFeed (n : Nat) : Feed := fun i st => match st[n]? with
  | some (.lst ds) => some ds[i]?
  | _ => none
def rngFeed (lo : Int) (n : Nat) : Feed := fun i _ => some (if i < n then some (.int (lo + (i : Int))) else none)
def itSeq (a : ME) : MI := fun env st => (a env st).bind fun d st => match d with
  | .tup ds => .ok (seqFeed ds, ds.length) st
  | .ref n => match st[n]? with
    | some (.lst ds) => .ok (lstFeed n, ds.length) st
    | _ => .no
  | .kl ds => .ok (seqFeed ds, ds.length) st
  | _ => .no
def itRng1 (as : MA) : MI := fun env st => (as env st).bind fun xs st => match xs with
  | [.int j] => if -(2 ^ 62) ≤ j ∧ j < 2 ^ 62 then .ok (rngFeed 0 j.toNat, j.toNat) st else .no
  | _ => .no
def itRng2 (as : MA) : MI := fun env st => (as env st).bind fun xs st => match xs with
  | [.int i, .int j] => if -(2 ^ 62) ≤ i ∧ i < 2 ^ 62 ∧ -(2 ^ 62) ≤ j ∧ j < 2 ^ 62 then .ok (rngFeed i (j - i).toNat, (j - i).toNat) st else .no
  | _ => .no
section
variable {K : PySem.W.Frag} {T : List (Addr × Str)} {H : Hp} {ρ : List Addr}
theorem live_tup {a : Addr} {ds : List D} {vs : List V} (hq : SqT K H a vs) (r : EVs K H ρ ds vs) : Live K T H ρ (Itt K a) (seqFeed ds) := by
  refine ⟨fun H' ρ' st i f es e => ?_, fun H' ρ' st i d f es e => ?_⟩
  · have z : ds.length ≤ i := List.getElem?_eq_none_iff.mp (Option.some.inj e)
    exact ⟨vs, f.rd hq, by rw [← r.length]; exact z⟩
  · obtain ⟨v, h1, h2⟩ := r.get (Option.some.inj e)
    refine ⟨⟨vs, v, f.rd hq, h1⟩, fun x H'' y => ?_⟩
    obtain ⟨e1, hy⟩ := y
    subst e1
    have z := hy vs (f.rd hq)
    rw [h1] at z
    cases z
    exact ⟨Fr.refl _ _, h2.mono f, es⟩
theorem live_kl {a : Addr} {ds : List D} {vs : List V} (hq : SqF K H ρ a vs) (r : EVs K H ρ ds vs) : Live K T H ρ (Itl K a) (seqFeed ds) := by
  refine ⟨fun H' ρ' st i f es e => ?_, fun H' ρ' st i d f es e => ?_⟩
  · have z : ds.length ≤ i := List.getElem?_eq_none_iff.mp (Option.some.inj e)
    exact ⟨vs, (f.rf hq).l, by rw [← r.length]; exact z⟩
  · obtain ⟨v, h1, h2⟩ := r.get (Option.some.inj e)
    refine ⟨⟨vs, v, (f.rf hq).l, h1⟩, fun x H'' y => ?_⟩
    obtain ⟨e1, hy⟩ := y
    subst e1
    have z := hy vs (f.rf hq).l
    rw [h1] at z
    cases z
    exact ⟨Fr.refl _ _, h2.mono f, es⟩
theorem ES.seq {st : Sto} (es : ES K T H ρ st) {n : Nat} {a : Addr} {ds : List D} (hn : ρ[n]? = some a) (h : st[n]? = some (.lst ds)) : ∃ vs, SqL K H a vs ∧ EVs K H ρ ds vs := by
  obtain ⟨vs, q1, q2⟩ := es.cell n a _ hn h
  exact ⟨vs, .inl (.inl q1), q2⟩
theorem lstFeed_some {n i : Nat} {st : Sto} {o : Option D} (h : lstFeed n i st = some o) : ∃ ds, st[n]? = some (.lst ds) ∧ ds[i]? = o := by
  unfold lstFeed at h
  cases e : st[n]? with
  | none => rw [e] at h; cases h
  | some c =>
    rw [e] at h
    cases c with
    | lst ds => exact ⟨ds, rfl, Option.some.inj h⟩
    | dct kvs => cases h
    | dtt _ => cases h
    | obj _ _ => cases h
    | exc _ => cases h
theorem live_lst {a : Addr} {n : Nat} (hn : ρ[n]? = some a) : Live K T H ρ (Itl K a) (lstFeed n) := by
  refine ⟨fun H' ρ' st i f es e => ?_, fun H' ρ' st i d f es e => ?_⟩
  · obtain ⟨ds, h1, h2⟩ := lstFeed_some e
    obtain ⟨vs, q1, q2⟩ := es.seq (f.get hn) h1
    exact ⟨vs, q1, by rw [← q2.length]; exact List.getElem?_eq_none_iff.mp h2⟩
  · obtain ⟨ds, h1, h2⟩ := lstFeed_some e
    obtain ⟨vs, q1, q2⟩ := es.seq (f.get hn) h1
    obtain ⟨v, g1, g2⟩ := q2.get h2
    refine ⟨⟨vs, v, q1, g1⟩, fun x H'' y => ?_⟩
    obtain ⟨e1, hy⟩ := y
    subst e1
    have z := hy vs q1
    rw [g1] at z
    cases z
    exact ⟨Fr.refl _ _, g2, es⟩
theorem live_rng {lo : Int} {n : Nat} : Live K T H ρ (Itr lo n) (rngFeed lo n) := by
  refine ⟨fun H' ρ' st i f es e => ?_, fun H' ρ' st i d f es e => ?_⟩
  · have z := Option.some.inj e
    by_cases h : i < n
    · rw [if_pos h] at z; cases z
    · exact Nat.le_of_not_lt h
  · have z := Option.some.inj e
    by_cases h : i < n
    · rw [if_pos h] at z
      cases z
      refine ⟨h, fun x H'' y => ?_⟩
      obtain ⟨e1, hy⟩ := y
      subst e1
      subst hy
      exact ⟨Fr.refl _ _, .int _, es⟩
    · rw [if_neg h] at z; cases z
end
/-- a tuple or a list -/
def iSeq (K : PySem.W.Frag) (tl : TE) : TI := fun σ H R => tl σ H fun x H1 => ∃ a, x = .ref a ∧ (((∃ xs, SqL K H1 a xs) ∧ R (Itl K a) H1) ∨ ((∃ xs, SqT K H1 a xs) ∧ R (Itt K a) H1))
section
variable {X : Cx} {G : Gx} {a b c e l tg : Expr} {es : List Expr} {ta tl : TE} {tas : TA} {ma : ME} {mas : MA} {pos p : Pos}
theorem pi_seq (hl : PE X l tl) : PI X tg l (iSeq X.K tl) := by
  constructor
  intro pins s σ H R I h
  refine thn (hl.run pins s σ H _ I h) ?_
  intro v s1 hv
  obtain ⟨x, H1, I1, r1, a, e, q1⟩ := hv
  subst e
  cases r1
  have I2 := I1.kept (t' := s1.toks) (h' := s1.heap.push { cls := .type "list_iterator", data := .fields #[.ref a, rawInt 0] }) fun b o e => Heap.get?_push_of_some _ e
  have fp : ∀ b ∈ [s1.heap.objs.size], FpOk X pins H1 b := by
    intro b hb
    rw [List.mem_singleton.mp hb]
    exact I1.fpOk (Nat.le_refl _) (I1.hok.fresh (Nat.le_refl _))
  rcases q1 with ⟨⟨xs, hq⟩, q⟩ | ⟨⟨xs, hq⟩, q⟩
  · obtain ⟨its, rv, pl, hz⟩ := I1.list hq
    apply wpAny_pyIter_list pl.isList
    exact ⟨s1.heap.objs.size, [s1.heap.objs.size], _, _, H1, rfl, I1.kept (t' := s1.toks) (fun b o e => Heap.get?_push_of_some _ e), turn_list a _, ⟨_, Heap.get?_push_size _ rfl, rfl, rfl⟩, fp, q⟩
  · obtain ⟨its, rv, pl, hz⟩ := I1.tuple hq
    apply wpAny_pyIter_tuple (show s1.heap.IsTuple a its.toArray from pl)
    exact ⟨s1.heap.objs.size, [s1.heap.objs.size], _, _, H1, rfl, I1.kept (t' := s1.toks) (fun b o e => Heap.get?_push_of_some _ e), turn_tuple a _, ⟨_, Heap.get?_push_size _ rfl, rfl, rfl⟩, fp, q⟩
theorem si_seq (ha : SE X G l tl ma) : SI X G tg l (iSeq X.K tl) (itSeq ma) := ⟨pi_seq ha.pe, fun σ env ρ st H Q ev es h => by
  refine ha.sd σ env ρ st H _ ev es (h.bind fun d st1 ρ1 H1 v f1 e1 es1 q => ?_)
  cases e1 with
  | @tup a ds vs hq r => exact ⟨a, rfl, .inr ⟨⟨vs, hq⟩, q.now (live_tup hq r) es1⟩⟩
  | @ref n a hn =>
    dsimp only at q
    cases e : st1[n]? with
    | none => rw [e] at q; exact q.elim
    | some c =>
      rw [e] at q
      cases c with
      | lst ds =>
        obtain ⟨vs, q1, q2⟩ := es1.seq hn e
        exact ⟨a, rfl, .inl ⟨⟨vs, q1⟩, q.now (live_lst hn) es1⟩⟩
      | dct kvs => exact q.elim
      | dtt _ => exact q.elim
      | obj _ _ => exact q.elim
      | exc _ => exact q.elim
  | @kl a ds vs hq r => exact ⟨a, rfl, .inl ⟨⟨vs, hq.l⟩, q.now (live_kl hq r) es1⟩⟩
  | _ => exact q.elim⟩
theorem si_rng1 (hg : Gl X "range") (hm : X.mg "range" = none) (ha : SA X G [a] tas mas) (hs : starEach [a] X.env = [(false, eval a X.env)] := by rfl) : SI X G tg (.Call (.Name "range" p) [a] [] pos) (iRng1 tas) (itRng1 mas) := ⟨pi_range1 hg hm ha.pe hs, fun σ env ρ st H Q ev es h => by
  refine ha.sd σ env ρ st H _ ev es (h.bind fun xs st1 ρ1 H1 vs f1 e1 es1 q => ?_)
  split at q
  · rename_i j
    split at q
    · rename_i hj
      cases e1 with
      | cons h1 h2 =>
        cases h1
        cases h2
        exact ⟨j, rfl, hj.1, hj.2, q.now live_rng es1⟩
    · exact q.elim
  · exact q.elim⟩
theorem si_rng2 (hg : Gl X "range") (hm : X.mg "range" = none) (ha : SA X G [a, b] tas mas) (hs : starEach [a, b] X.env = [(false, eval a X.env), (false, eval b X.env)] := by rfl) (hs2 : starEach [b] X.env = [(false, eval b X.env)] := by rfl) :
    SI X G tg (.Call (.Name "range" p) [a, b] [] pos) (iRng2 tas) (itRng2 mas) := ⟨pi_range2 hg hm ha.pe hs hs2, fun σ env ρ st H Q ev es h => by
  refine ha.sd σ env ρ st H _ ev es (h.bind fun xs st1 ρ1 H1 vs f1 e1 es1 q => ?_)
  split at q
  · rename_i i j
    split at q
    · rename_i hj
      cases e1 with
      | cons h1 h2 =>
        cases h1
        cases h2 with
        | cons h2 h3 =>
          cases h2
          cases h3
          exact ⟨i, j, rfl, hj, q.now live_rng es1⟩
    · exact q.elim
  · exact q.elim⟩

/-! ### comprehensions -/
/-- a comprehension's target: its own names alone -/
structure SGO (X : Cx) (G : Gx) (vs : List Nat) (e : Expr) (g : TG) (m : MG) : Prop where
  pe : PG X e g
  sd : ∀ (d : D) (v : V) (σ : L2.St) (env : Ev) (ρ : List Addr) (st : Sto) (H : Hp) (Q : L2.St → Hp → Prop), EV X.K H ρ d v → EVo X.K H ρ env σ → ES X.K G.T H ρ st →
    Post (fun H ρ env σ' => EVo X.K H ρ env σ' ∧ L2.wipe σ' vs = L2.wipe σ vs) X.K G.T G.C H ρ Q G.E (m d env st) → g v σ H Q
theorem wipe_set {v : Option V} : ∀ {vs : List Nat} {σ : L2.St} {i : Nat}, i ∈ vs → L2.wipe (σ.set i v) vs = L2.wipe σ vs
  | [], _, _, h => nomatch h
  | j :: vs, σ, i, h => by
    unfold L2.wipe
    by_cases hm : i ∈ vs
    · rw [wipe_set hm]
    · have e : i = j := (List.mem_cons.mp h).resolve_right hm
      subst e
      have gen : ∀ (ws : List Nat), i ∉ ws → L2.wipe (σ.set i v) ws = (L2.wipe σ ws).set i v := by
        intro ws
        induction ws with
        | nil => intro _; rfl
        | cons k ws ih =>
          intro hn
          unfold L2.wipe
          rw [ih (fun z => hn (List.mem_cons_of_mem _ z)), List.set_comm _ _ (fun z : i = k => hn (z ▸ List.mem_cons_self))]
      rw [gen vs hm, List.set_set]
theorem sgo_name (i : Nat) {vs : List Nat} {x : Str} (hm : i ∈ vs) (hN : X.N.Nodup) (hi : X.N[i]? = some x := by rfl) (hx : Loc X.env.scope x := by first | exact Or.inl rfl | exact Or.inr rfl) (hf : X.fn x = true ∨ X.env.scope.names.lookup x = some .local := by first | exact .inl rfl | exact .inr rfl | assumption) :
    SGO X G vs (.Name x pos) (gName i) (mName i) := ⟨pg_name hN hi hx hf, fun d v σ env ρ st H Q hd ev es h => h.now ⟨ev.set hd i, wipe_set hm⟩ es⟩
def R.noEr {α : Type} (r : R α) : R α := match r with
  | .er _ _ => .no
  | r => r
@[simp] theorem R.noEr_ok {α : Type} (a : α) (st : Sto) : (R.ok a st).noEr = .ok a st := rfl
@[simp] theorem R.noEr_er {α : Type} (n : Nat) (st : Sto) : (R.er n st : R α).noEr = .no := rfl
@[simp] theorem R.noEr_no {α : Type} : (R.no : R α).noEr = .no := rfl
def lcGo (fd : Feed) (vs : List Nat) (g : MG) (t : MT) (e : ME) (loc : Nat) : Nat → Nat → Ev → Sto → R D
  | 0, i, _, st => match fd i st with
    | some none => .ok (.ref loc) st
    | _ => .no
  | n + 1, i, env, st => match fd i st with
    | some none => .ok (.ref loc) st
    | some (some d) => (g d env st).noEr.bind fun env1 st => (t env1 st).noEr.bind fun k st => if k = true then (e env1 st).noEr.bind fun y st => match st[loc]? with
        | some (.lst acc) => if acc.length < 100000 then lcGo fd vs g t e loc n (i + 1) env (st.set loc (.lst (acc ++ [y]))) else .no
        | _ => .no
      else lcGo fd vs g t e loc n (i + 1) env st
    | none => .no
def dLc (it : MI) (vs : List Nat) (g : MG) (t : MT) (e : ME) : ME := fun env st => (it env st).bind fun f st => lcGo f.1 vs g t e st.length f.2 0 (wipeD env vs) (st ++ [.lst []])
def tYesD : MT := fun _ st => .ok true st
theorem Post.noEr {α β : Type} {Rel : Hp → List Addr → α → β → Prop} {K : PySem.W.Frag} {T : List (Addr × Str)} {C : Nat → Addr} {H : Hp} {ρ : List Addr} {Q : β → Hp → Prop} {E E' : XK} {r : R α} (h : Post Rel K T C H ρ Q E r.noEr) : Post Rel K T C H ρ Q E' r := by
  cases r with
  | ok a st => exact h
  | er n st => exact h.elim
  | no => exact h
abbrev Gx.nox (G : Gx) : Gx := { G with E := L2.E0 }
structure STs (X : Cx) (G : Gx) (ifs : List Expr) (t : TT) (m : MT) : Prop where
  pe : PTs X ifs t
  sd : ∀ (σ : L2.St) (env : Ev) (ρ : List Addr) (st : Sto) (H : Hp) (Q : Bool → Hp → Prop), EVo X.K H ρ env σ → ES X.K G.T H ρ st → PostT X.K G H ρ Q (m env st) → t σ H Q
theorem sts_nil : STs X G [] tYes tYesD := ⟨pts_nil, fun σ env ρ st H Q ev es h => h.now rfl es⟩
theorem sts_one {tt : TT} {mt : MT} (h : ST X G c tt mt) : STs X G [c] tt mt := ⟨pts_one h.pe, h.sd⟩
theorem sd_lc {iter : Expr} {wi : TI} {mi : MI} {g : TG} {mg : MG} {tt : TT} {mt : MT} {te : TE} {me : ME} {vs : List Nat} {K : PySem.W.Frag}
    (hi : ∀ (σ : L2.St) (env : Ev) (ρ : List Addr) (st : Sto) (H : Hp) (Q : It → Hp → Prop), EVo K H ρ env σ → ES K G.T H ρ st → Post (fun H ρ (f : Feed × Nat) J => Live K G.T H ρ J f.1) K G.T G.C H ρ Q G.E (mi env st) → wi σ H Q)
    (hg : ∀ (d : D) (v : V) (σ : L2.St) (env : Ev) (ρ : List Addr) (st : Sto) (H : Hp) (Q : L2.St → Hp → Prop), EV K H ρ d v → EVo K H ρ env σ → ES K G.T H ρ st → Post (fun H ρ env σ' => EVo K H ρ env σ' ∧ L2.wipe σ' vs = L2.wipe σ vs) K G.T G.C H ρ Q L2.E0 (mg d env st) → g v σ H Q)
    (ht : ∀ (σ : L2.St) (env : Ev) (ρ : List Addr) (st : Sto) (H : Hp) (Q : Bool → Hp → Prop), EVo K H ρ env σ → ES K G.T H ρ st → PostT K G.nox H ρ Q (mt env st) → tt σ H Q)
    (he : ∀ (σ : L2.St) (env : Ev) (ρ : List Addr) (st : Sto) (H : Hp) (Q : VK), EVo K H ρ env σ → ES K G.T H ρ st → PostE K G.nox H ρ Q (me env st) → te σ H Q)
    (σ : L2.St) (env : Ev) (ρ : List Addr) (st : Sto) (H : Hp) (Q : VK) (ev : EVo K H ρ env σ) (es : ES K G.T H ρ st) (h : PostE K G H ρ Q (dLc mi vs mg mt me env st)) : tLc wi g tt te vs σ H Q := by
  refine hi σ env ρ st H _ ev es (h.bind fun f st1 ρ1 H1 J f1 L es1 q => ?_)
  obtain ⟨fd, n⟩ := f
  intro Dl hD
  have FD : Fr H1 ρ1 (upd H1 Dl (.lst [])) (ρ1 ++ [Dl]) := Fr.laidS hD
  have hloc : (ρ1 ++ [Dl])[st1.length]? = some Dl := es1.ref Dl
  refine ⟨fun i m H => ∃ ρ st, Fr H1 ρ1 H ρ ∧ EVo K H ρ (wipeD env vs) (L2.wipe σ vs) ∧ ES K G.T H ρ st ∧ ρ[st1.length]? = some Dl ∧ PostE K G H ρ Q (lcGo fd vs mg mt me st1.length m i (wipeD env vs) st),
    ⟨n, ρ1 ++ [Dl], st1 ++ [.lst []], FD, ((ev.mono f1).mono FD).wipe vs, es1.lay hD .nil, hloc, Post.shift FD q⟩, ?_⟩
  rintro i m H ⟨ρ, st, f, ev, es, hl, h⟩
  have fin : ∀ o, fd i st = some o → (o = none → PostE K G H ρ Q (.ok (.ref st1.length) st)) → o = none → (J.stop i H ∧ Q (.ref Dl) H) := fun o e hh ho => by
    subst ho
    exact ⟨L.stop H ρ st i f es e, (hh rfl).now (.ref hl) es⟩
  cases m with
  | zero =>
    unfold lcGo at h
    cases e : fd i st with
    | none => rw [e] at h; exact h.elim
    | some o =>
      rw [e] at h
      cases o with
      | none => exact .inl (fin none e (fun _ => h) rfl)
      | some d => exact h.elim
  | succ m =>
    unfold lcGo at h
    cases e : fd i st with
    | none => rw [e] at h; exact h.elim
    | some o =>
      rw [e] at h
      cases o with
      | none => exact .inl (fin none e (fun _ => h) rfl)
      | some d =>
        obtain ⟨hgo, hy⟩ := L.go H ρ st i d f es e
        refine .inr ⟨hgo, fun H' => ∃ ρ st, Fr H1 ρ1 H' ρ ∧ EVo K H' ρ (wipeD env vs) (L2.wipe σ vs) ∧ ES K G.T H' ρ st ∧ ρ[st1.length]? = some Dl ∧ PostE K G H' ρ Q (lcGo fd vs mg mt me st1.length m (i + 1) (wipeD env vs) st), fun H' w => ⟨m, Nat.lt_succ_self m, w⟩, fun x H' y => ?_⟩
        obtain ⟨f2, e2, es2⟩ := hy x H' y
        have q2 := Post.shift f2 h
        dsimp only at q2
        have ww : L2.wipe (L2.wipe σ vs) vs = L2.wipe σ vs := by
          have gen : ∀ (us ws : List Nat), (∀ u ∈ us, u ∈ ws) → L2.wipe (L2.wipe σ us) ws = L2.wipe σ ws := by
            intro us
            induction us with
            | nil => intro ws _; rfl
            | cons u us ih =>
              intro ws hw
              show L2.wipe ((L2.wipe σ us).set u none) ws = _
              rw [wipe_set (hw u List.mem_cons_self)]
              exact ih ws fun z hz => hw z (List.mem_cons_of_mem _ hz)
          exact gen vs vs fun _ h => h
        refine hg d x _ (wipeD env vs) ρ st H' _ e2 (ev.mono f2) es2 (Post.noEr (q2.bind fun env3 st3 ρ3 H3 σ3 f3 r3 es3 q3 => ?_))
        obtain ⟨ev3, w3⟩ := r3
        refine ⟨by rw [w3, ww], ?_⟩
        refine ht σ3 env3 ρ3 st3 H3 _ ev3 es3 (Post.noEr (q3.bind fun k st4 ρ4 H4 k' f4 e4 es4 q4 => ?_))
        subst e4
        have f24 := f2.trans (f3.trans f4)
        cases k with
        | false => exact ⟨ρ4, st4, f.trans f24, ev.mono f24, es4, f24.get hl, q4⟩
        | true =>
          dsimp only
          rw [if_pos rfl]
          rw [if_pos rfl] at q4
          refine he σ3 env3 ρ4 st4 H4 _ (ev3.mono f4) es4 (Post.noEr (q4.bind fun y st5 ρ5 H5 vy f5 e5 es5 q5 => ?_))
          have f25 := f24.trans f5
          cases ec : st5[st1.length]? with
          | none => rw [ec] at q5; exact q5.elim
          | some c =>
            rw [ec] at q5
            cases c with
            | lst acc =>
              dsimp only at q5
              by_cases hz : acc.length < 100000
              · rw [if_pos hz] at q5
                obtain ⟨vacc, g1, g2⟩ := es5.cell st1.length Dl _ (f25.get hl) ec
                have fw : Fr H5 ρ5 (upd H5 Dl (.lst (vacc ++ [vy]))) ρ5 := Fr.write (List.mem_of_getElem? (f25.get hl)) g1
                refine ⟨vacc, g1, by rw [← g2.length]; exact Nat.lt_of_lt_of_le hz line5, ρ5, _, f.trans (f25.trans fw), ev.mono (f25.trans fw), es5.write (f25.get hl) g1 (g2.append (.cons e5 .nil)), (f25.trans fw).get hl, Post.shift fw q5⟩
              · rw [if_neg hz] at q5
                exact q5.elim
            | dct kvs => exact q5.elim
            | dtt _ => exact q5.elim
            | obj _ _ => exact q5.elim
            | exc _ => exact q5.elim
/-- a reading by what is made of data -/
def canE (K : PySem.W.Frag) (G : Gx) (m : ME) : TE := fun σ H Q => ∃ env ρ st, EVo K H ρ env σ ∧ ES K G.T H ρ st ∧ PostE K G H ρ Q (m env st)
def canT (K : PySem.W.Frag) (G : Gx) (m : MT) : TT := fun σ H Q => ∃ env ρ st, EVo K H ρ env σ ∧ ES K G.T H ρ st ∧ PostT K G H ρ Q (m env st)
theorem SE.can {te : TE} {me : ME} (h : SE X G e te me) : PE X e (canE X.K G me) := ⟨fun pins s σ H Q I q => by
  obtain ⟨env, ρ, st, h1, h2, h3⟩ := q
  exact h.pe.run pins s σ H Q I (h.sd σ env ρ st H Q h1 h2 h3)⟩
theorem STs.can {ifs : List Expr} {tt : TT} {mt : MT} (h : STs X G ifs tt mt) : PTs X ifs (canT X.K G mt) := ⟨fun pins s σ H Q I q => by
  obtain ⟨env, ρ, st, h1, h2, h3⟩ := q
  exact h.pe.run pins s σ H Q I (h.sd σ env ρ st H Q h1 h2 h3)⟩
theorem se_lc {elt iter : Expr} {ifs : List Expr} {scope : Scope} {own : List (Str × Nat)} {wi : TI} {mi : MI} {g : TG} {mg : MG} {mt : MT} {me : ME} (hc : X.calm = true) (hN : X.N.Nodup) (hi : SI X G tg iter wi mi) (ok : BlkOk X.N X.env.scope scope own)
    (hg : ∀ (s : Shared) (H : Hp) (C : Addr) (cl : List (Str × Addr)) (fp : List Addr), SGO (X.blk s H scope (compEnvC scope cl C X.env) fp) G.nox (own.map (·.2)) tg g mg)
    (ht : ∀ (s : Shared) (H : Hp) (C : Addr) (cl : List (Str × Addr)) (fp : List Addr), ∃ tt, STs (X.blk s H scope (compEnvC scope cl C X.env) fp) G.nox ifs tt mt)
    (he : ∀ (s : Shared) (H : Hp) (C : Addr) (cl : List (Str × Addr)) (fp : List Addr), ∃ te, SE (X.blk s H scope (compEnvC scope cl C X.env) fp) G.nox elt te me) (hs : ∀ x, foldedSetIterable iter X.env x = pure x := by intro _; rfl) :
    SE X G (.ListComp elt [⟨tg, iter, ifs, 0⟩] scope pos) (tLc wi g (canT X.K G.nox mt) (canE X.K G.nox me) (own.map (·.2))) (dLc mi (own.map (·.2)) mg mt me) :=
  ⟨pe_lc hc hN hi.pe ok (fun s H C cl fp => (hg s H C cl fp).pe) (fun s H C cl fp => let ⟨_, z⟩ := ht s H C cl fp; z.can) (fun s H C cl fp => let ⟨_, z⟩ := he s H C cl fp; z.can) hs, sd_lc (iter := iter) hi.sd
    (fun d v σ env ρ st H Q => (hg X.s_0 H 0 [] []).sd d v σ env ρ st H Q) (fun σ env ρ st H Q h1 h2 h3 => ⟨env, ρ, st, h1, h2, h3⟩) (fun σ env ρ st H Q h1 h2 h3 => ⟨env, ρ, st, h1, h2, h3⟩)⟩
end
end Dn

set_option Elab.async false
set_option linter.all false
set_option maxRecDepth 100000
set_option maxHeartbeats 2000000
/-! Operations on data. -/
namespace Dn
open PySem PySem.Spec PyProof.Rows L2

section
variable {K : PySem.W.Frag} {G : Gx} {H : Hp} {ρ : List Addr} {st : Sto} {Q : VK}
theorem EV.ofInt {i : Int} {v : V} (h : EV K H ρ (.int i) v) : v = .int i := by cases h; rfl
theorem EV.ofBl {i : Bool} {v : V} (h : EV K H ρ (.bl i) v) : v = .bl i := by cases h; rfl
theorem EV.ofStr {i : Str} {v : V} (h : EV K H ρ (.str i) v) : v = .str i := by cases h; rfl
theorem EV.ofTup {ds : List D} {v : V} (h : EV K H ρ (.tup ds) v) : ∃ a vs, v = .ref a ∧ SqT K H a vs ∧ EVs K H ρ ds vs := by
  cases h with
  | tup h1 h2 => exact ⟨_, _, rfl, h1, h2⟩
theorem EV.ofRef {n : Nat} {v : V} (h : EV K H ρ (.ref n) v) : ∃ a, v = .ref a ∧ ρ[n]? = some a := by
  cases h with
  | ref h1 => exact ⟨_, rfl, h1⟩
/-- a list of the store -/
def Sto.seq (st : Sto) (n : Nat) : Option (List D) := match st[n]? with
  | some (.lst ds) => some ds
  | _ => none
theorem Sto.seq_of {n : Nat} {ds : List D} (h : st.seq n = some ds) : st[n]? = some (.lst ds) := by
  unfold Sto.seq at h
  cases e : st[n]? with
  | none => rw [e] at h; cases h
  | some c =>
    rw [e] at h
    cases c with
    | lst es => cases h; rfl
    | dct kvs => cases h
    | dtt _ => cases h
    | obj _ _ => cases h
    | exc _ => cases h
/-- a tuple or a list, as its items -/
def D.items (st : Sto) : D → Option (List D)
  | .tup ds => some ds
  | .kl ds => some ds
  | .ref n => st.seq n
  | _ => none
theorem EV.items {d : D} {v : V} {ds : List D} (h : EV K H ρ d v) (es : ES K G.T H ρ st) (e : d.items st = some ds) : ∃ a vs, v = .ref a ∧ (SqL K H a vs ∨ SqT K H a vs) ∧ EVs K H ρ ds vs := by
  cases h with
  | @tup a ds' vs h1 h2 =>
    cases e
    exact ⟨a, vs, rfl, .inr h1, h2⟩
  | @kl a ds' vs h1 h2 =>
    cases e
    exact ⟨a, vs, rfl, .inl h1.l, h2⟩
  | @ref n a h1 =>
    obtain ⟨vs, q1, q2⟩ := es.seq h1 (Sto.seq_of e)
    exact ⟨a, vs, rfl, .inl q1, q2⟩
  | _ => cases e

/-! ### ints -/
def CMulA (i j : Int) : Prop := CMul i j ∨ CMulW i j
def intOp (C : Int → Int → Prop) [∀ i j, Decidable (C i j)] (g : Int → Int → D) : F2 := fun x y st => match x, y with
  | .int i, .int j => if C i j then .ok (g i j) st else .no
  | _, _ => .no
theorem os_int {C : Int → Int → Prop} [∀ i j, Decidable (C i j)] {C' : Int → Int → Prop} (hC : ∀ i j, C i j → C' i j) {g : Int → Int → D} {g' : Int → Int → V} (hg : ∀ i j H ρ, C i j → EV K H ρ (g i j) (g' i j)) : OpS K G (rI C' g') (intOp C g) := by
  intro x y vx vy ρ st H Q ex ey es h
  unfold intOp at h
  split at h
  · rename_i i j
    split at h
    · rename_i hc
      cases ex.ofInt
      cases ey.ofInt
      exact ⟨i, j, rfl, rfl, hC i j hc, h.now (hg i j H ρ hc) es⟩
    · exact h.elim
  · exact h.elim
theorem os_or {r r' : R2} {f f' : F2} {f'' : F2} (h : OpS K G r f) (h' : OpS K G r' f') (hf : ∀ x y st, (f'' x y st = f x y st) ∨ (f'' x y st = f' x y st)) : OpS K G (fun x y H Q => r x y H Q ∨ r' x y H Q) f'' := by
  intro x y vx vy ρ st H Q ex ey es q
  rcases hf x y st with e | e
  · rw [e] at q
    exact .inl (h x y vx vy ρ st H Q ex ey es q)
  · rw [e] at q
    exact .inr (h' x y vx vy ρ st H Q ex ey es q)
end

theorem newT {K : PySem.W.Frag} {G : Gx} {H : Hp} {ρ : List Addr} {st : Sto} {Q : VK} {ds : List D} {vs : List V} (h : PostE K G H ρ Q (.ok (.tup ds) st)) (r : EVs K H ρ ds vs) (es : ES K G.T H ρ st) (p : Addr) (hp : H p = none) : Q (.ref p) (upd H p (.tup vs)) :=
  h ρ _ _ (Fr.laid hp) (.tup (.inl (.inl upd_same)) (r.mono (Fr.laid hp))) (es.laid hp)
theorem newL {K : PySem.W.Frag} {G : Gx} {H : Hp} {ρ : List Addr} {st : Sto} {Q : VK} {ds : List D} {vs : List V} (h : PostE K G H ρ Q (.ok (.ref st.length) (st ++ [.lst ds]))) (r : EVs K H ρ ds vs) (es : ES K G.T H ρ st) (p : Addr) (hp : H p = none) : Q (.ref p) (upd H p (.lst vs)) :=
  h (ρ ++ [p]) _ _ (Fr.laidS hp) (.ref (es.ref p)) (es.lay hp r)
theorem EVs.nil_iff {K : PySem.W.Frag} {H : Hp} {ρ : List Addr} {ds : List D} {vs : List V} (h : EVs K H ρ ds vs) : ds = [] ↔ vs = [] := by
  cases h with
  | nil => simp
  | cons _ _ => simp
/-! #### + -/
def addD : F2 := fun x y st => match x, y with
  | .int i, .int j => .ok (.int (i + j)) st
  | .str a, .str b => if a.length + b.length ≤ sizeLine then .ok (.str (a ++ b)) st else .no
  | .tup a, .tup b => if a.length + b.length ≤ 100000 then .ok (.tup (a ++ b)) st else .no
  | .ref n, .ref m => match st[n]?, st[m]? with
    | some (.lst a), some (.lst b) => if a.length + b.length ≤ 100000 then .ok (.ref st.length) (st ++ [.lst (a ++ b)]) else .no
    | _, _ => .no
  | _, _ => .no
def rAddA (K : PySem.W.Frag) : R2 := fun x y H Q => (((∃ i j, x = .int i ∧ y = .int j ∧ Q (.int (i + j)) H) ∨ (∃ i j : Str, x = .str i ∧ y = .str j ∧ i.length + j.length ≤ sizeLine ∧ Q (.str (i ++ j)) H)) ∨ rCatA K x y H Q) ∨ rCat x y H Q
section
variable {X : Cx} {K : PySem.W.Frag} {G : Gx}
theorem op_addA : OpR X (binaryOp .Add) (rAddA X.K) := ((op_add.or op_add_str).or op_catA).or op_cat
theorem os_add : OpS K G (rAddA K) addD := by
  intro x y vx vy ρ st H Q ex ey es h
  cases ex with
  | int i =>
    cases ey with
    | int j => exact .inl (.inl (.inl ⟨i, j, rfl, rfl, h.now (.int _) es⟩))
    | _ => exact h.elim
  | str a =>
    cases ey with
    | str b =>
      simp only [addD] at h
      split at h
      · rename_i hl
        exact .inl (.inl (.inr ⟨a, b, rfl, rfl, hl, h.now (.str _) es⟩))
      · exact h.elim
    | _ => exact h.elim
  | @tup p ds vs h1 h2 =>
    cases ey with
    | @tup p' ds' vs' h1' h2' =>
      simp only [addD] at h
      split at h
      · rename_i hl
        refine .inl (.inr ⟨p, p', vs, vs', rfl, rfl, h1, h1', by rw [← h2.length, ← h2'.length]; exact Nat.le_trans hl line5, fun z => ?_, fun _ z => ?_, fun _ _ => newT h (h2.append h2') es⟩)
        · have e := h2.nil_iff.mpr z
          subst e
          exact h.now (.tup h1' h2') es
        · have e := h2'.nil_iff.mpr z
          subst e
          rw [List.append_nil] at h
          exact h.now (.tup h1 h2) es
      · exact h.elim
    | _ => exact h.elim
  | @ref n a hn =>
    cases ey with
    | @ref m b hm =>
      simp only [addD] at h
      split at h
      · rename_i xs ys e1 e2
        split at h
        · rename_i hl
          obtain ⟨vs, q1, q2⟩ := es.cell n a _ hn e1
          obtain ⟨ws, r1, r2⟩ := es.cell m b _ hm e2
          exact .inr ⟨a, b, vs, ws, rfl, rfl, q1, r1, by rw [← q2.length, ← r2.length]; exact Nat.le_trans hl line5, newL h (q2.append r2) es⟩
        · exact h.elim
      · exact h.elim
    | _ => exact h.elim
  | _ => cases ey <;> exact h.elim
/-! #### the others on ints -/
def subD : F2 := fun x y st => match x, y with
  | .int i, .int j => .ok (.int (i - j)) st
  | _, _ => .no
theorem os_sub : OpS K G (rI0 fun i j => .int (i - j)) subD := by
  intro x y vx vy ρ st H Q ex ey es h
  cases ex with
  | int i =>
    cases ey with
    | int j => exact ⟨i, j, rfl, rfl, h.now (.int _) es⟩
    | _ => exact h.elim
  | _ => cases ey <;> exact h.elim
/-- sizes of factors -/
def mulOk (i j : Int) : Bool := decide ((-(2 ^ 64) < i ∧ i < 2 ^ 64) ∨ (-(2 ^ 64) < j ∧ j < 2 ^ 64) ∨ i.natAbs.log2 + j.natAbs.log2 < 1000000)
def mulD : F2 := fun x y st => match x, y with
  | .int i, .int j => if mulOk i j = true then .ok (.int (i * j)) st else .no
  | .tup ds, .int k => if ds ≠ [] ∧ 2 ≤ k ∧ k ≤ 1000 ∧ ds.length ≤ 1000 then .ok (.tup (List.replicate k.toNat ds).flatten) st else .no
  | .ref n, .int k => match st[n]? with
    | some (.lst a) => if -(2 ^ 63) ≤ k ∧ k < 2 ^ 63 ∧ a.length * k.toNat ≤ 100000 then .ok (.ref st.length) (st ++ [.lst (List.replicate k.toNat a).flatten]) else .no
    | _ => .no
  | _, _ => .no
def rMulA (K : PySem.W.Frag) : R2 := fun x y H Q => ((rI CMul (fun i j => .int (i * j)) x y H Q ∨ rI CMulW (fun i j => .int (i * j)) x y H Q) ∨ rRepT K x y H Q) ∨ rRep x y H Q
theorem op_mulA : OpR X (binaryOp .Mult) (rMulA X.K) := ((op_mul.or op_mulW).or op_repT).or op_rep
theorem os_mul : OpS K G (rMulA K) mulD := by
  intro x y vx vy ρ st H Q ex ey es h
  cases ex with
  | int i =>
    cases ey with
    | int j =>
      simp only [mulD] at h
      split at h
      · rename_i hc
        unfold mulOk at hc
        rcases of_decide_eq_true hc with hc | hc | hc
        · exact .inl (.inl (.inl ⟨i, j, rfl, rfl, .inl hc, h.now (.int _) es⟩))
        · exact .inl (.inl (.inl ⟨i, j, rfl, rfl, .inr hc, h.now (.int _) es⟩))
        · exact .inl (.inl (.inr ⟨i, j, rfl, rfl, hc, h.now (.int _) es⟩))
      · exact h.elim
    | _ => exact h.elim
  | @tup p ds vs h1 h2 =>
    cases ey with
    | int k =>
      simp only [mulD] at h
      split at h
      · rename_i hc
        obtain ⟨c1, c2, c3, c4⟩ := hc
        exact .inl (.inr ⟨p, k, vs, rfl, rfl, h1, fun z => c1 (h2.nil_iff.mpr z), c2, c3, by rw [← h2.length]; exact c4, newT h (h2.rep _) es⟩)
      · exact h.elim
    | _ => exact h.elim
  | @ref n a hn =>
    cases ey with
    | int k =>
      simp only [mulD] at h
      split at h
      · rename_i xs e1
        split at h
        · rename_i hc
          obtain ⟨vs, q1, q2⟩ := es.cell n a _ hn e1
          exact .inr ⟨a, k, vs, rfl, rfl, q1, hc.1, hc.2.1, by rw [← q2.length]; exact Nat.le_trans hc.2.2 line5, newL h (q2.rep _) es⟩
        · exact h.elim
      · exact h.elim
    | _ => exact h.elim
  | _ => cases ey <;> exact h.elim
def fdivD : F2 := fun x y st => match x, y with
  | .int i, .int j => if 0 < j ∧ j.natAbs.log2 < 9000 then .ok (.int (i / j)) st else if j < 0 ∧ j.natAbs < 1073741824 then .ok (.int (i.fdiv j)) st else .no
  | _, _ => .no
def rFdivA : R2 := fun x y H Q => rI CDivW (fun i j => .int (i / j)) x y H Q ∨ rI CDivN (fun i j => .int (i.fdiv j)) x y H Q
theorem op_fdivA : OpR X (binaryOp .FloorDiv) rFdivA := op_fdivW.or op_fdivN
theorem os_fdiv : OpS K G rFdivA fdivD := by
  intro x y vx vy ρ st H Q ex ey es h
  cases ex with
  | int i =>
    cases ey with
    | int j =>
      simp only [fdivD] at h
      split at h
      · rename_i hc
        exact .inl ⟨i, j, rfl, rfl, hc, h.now (.int _) es⟩
      · split at h
        · rename_i hc
          exact .inr ⟨i, j, rfl, rfl, ⟨by omega, hc.2⟩, h.now (.int _) es⟩
        · exact h.elim
    | _ => exact h.elim
  | _ => cases ey <;> exact h.elim
def modD : F2 := fun x y st => match x, y with
  | .int i, .int j => if 0 < j then .ok (.int (i % j)) st else if j < 0 then .ok (.int (i.fmod j)) st else .no
  | _, _ => .no
theorem os_mod : OpS K G (rI (fun _ j => j ≠ 0) fun i j => .int (i.fmod j)) modD := by
  intro x y vx vy ρ st H Q ex ey es h
  cases ex with
  | int i =>
    cases ey with
    | int j =>
      simp only [modD] at h
      split at h
      · rename_i hc
        refine ⟨i, j, rfl, rfl, by omega, ?_⟩
        dsimp only
        rw [Int.fmod_eq_emod_of_nonneg i (by omega)]
        exact h.now (.int _) es
      · split at h
        · rename_i hc
          exact ⟨i, j, rfl, rfl, by omega, h.now (.int _) es⟩
        · exact h.elim
    | _ => exact h.elim
  | _ => cases ey <;> exact h.elim
def powD : F2 := fun x y st => match x, y with
  | .int i, .int j => if 0 ≤ j ∧ j ≤ 1000000 ∧ i.natAbs < 2 ^ 64 then .ok (.int (i ^ j.toNat)) st else .no
  | _, _ => .no
theorem os_pow : OpS K G (rI CPow fun i j => .int (i ^ j.toNat)) powD := by
  intro x y vx vy ρ st H Q ex ey es h
  cases ex with
  | int i =>
    cases ey with
    | int j =>
      simp only [powD] at h
      split at h
      · rename_i hc
        exact ⟨i, j, rfl, rfl, hc, h.now (.int _) es⟩
      · exact h.elim
    | _ => exact h.elim
  | _ => cases ey <;> exact h.elim
def negD : F1 := fun x st => match x with
  | .int i => .ok (.int (-i)) st
  | _ => .no
theorem us_neg : UnS K G (rU fun i => .int (-i)) negD := by
  intro x vx ρ st H Q ex es h
  cases ex with
  | int i => exact ⟨i, rfl, h.now (.int _) es⟩
  | _ => exact h.elim
/-! #### order of ints -/
def cmpD (g : Int → Int → Bool) : F2 := fun x y st => match x, y with
  | .int i, .int j => .ok (.bl (g i j)) st
  | _, _ => .no
theorem os_cmp {g : Int → Int → Bool} : OpS K G (rI0 fun i j => .bl (g i j)) (cmpD g) := by
  intro x y vx vy ρ st H Q ex ey es h
  cases ex with
  | int i =>
    cases ey with
    | int j => exact ⟨i, j, rfl, rfl, h.now (.bl _) es⟩
    | _ => exact h.elim
  | _ => cases ey <;> exact h.elim
abbrev ltD : F2 := cmpD fun i j => decide (i < j)
abbrev leD : F2 := cmpD fun i j => decide (i ≤ j)
abbrev gtD : F2 := cmpD fun i j => decide (j < i)
abbrev geD : F2 := cmpD fun i j => decide (j ≤ i)
/-! #### == -/
mutual
/-- data without lists -/
def D.pyN : D → Option PyData
  | .non => some .none
  | .bl b => some (.bool b)
  | .int i => some (.int i)
  | .str x => some (.str x)
  | .tup ds => (D.pyAll ds).map .tuple
  | .ref _ => none
  | .ty _ => none
  | .ob _ => none
  | .kl ds => (D.pyAll ds).map .list
def D.pyAll : List D → Option (List PyData)
  | [] => some []
  | d :: ds => match d.pyN, D.pyAll ds with
    | some x, some xs => some (x :: xs)
    | _, _ => none
end
def D.py (st : Sto) (d : D) : Option PyData := match d with
  | .ref n => match st.seq n with
    | some ds => (D.pyAll ds).map .list
    | none => none
  | d => d.pyN
section
variable {H : Hp} {ρ : List Addr}
mutual
theorem dp_N : ∀ {d : D} {v : V} {p : PyData}, EV K H ρ d v → d.pyN = some p → Dp K H v p
  | _, _, _, .non, e => by cases e; exact .non
  | _, _, _, .bl b, e => by cases e; exact .bl b
  | _, _, _, .int i, e => by cases e; exact .int i
  | _, _, _, .str s, e => by cases e; exact .str s
  | _, _, _, @EV.tup _ _ _ a ds vs h r, e => by
    unfold D.pyN at e
    cases q : D.pyAll ds with
    | none => rw [q] at e; cases e
    | some xs =>
      rw [q] at e
      cases e
      exact .tup h (dp_All r q)
  | _, _, _, .ref _, e => by cases e
  | _, _, _, .ty _, e => by cases e
  | _, _, _, .ob _, e => by cases e
  | _, _, _, @EV.kl _ _ _ a ds vs h r, e => by
    unfold D.pyN at e
    cases q : D.pyAll ds with
    | none => rw [q] at e; cases e
    | some xs =>
      rw [q] at e
      cases e
      exact .lst h.l (dp_All r q)
theorem dp_All : ∀ {ds : List D} {vs : List V} {ps : List PyData}, EVs K H ρ ds vs → D.pyAll ds = some ps → DpAll K H vs ps
  | _, _, _, .nil, e => by cases e; exact .nil
  | _, _, _, @EVs.cons _ _ _ d v ds vs h r, e => by
    unfold D.pyAll at e
    cases q : d.pyN with
    | none => rw [q] at e; cases e
    | some x =>
      cases q2 : D.pyAll ds with
      | none => rw [q, q2] at e; cases e
      | some xs =>
        rw [q, q2] at e
        cases e
        exact .cons (dp_N h q) (dp_All r q2)
end
theorem dp_of {d : D} {v : V} {p : PyData} {st : Sto} (h : EV K H ρ d v) (es : ES K G.T H ρ st) (e : d.py st = some p) : Dp K H v p := by
  cases h with
  | @ref n a hn =>
    unfold D.py at e
    dsimp only at e
    cases q : st.seq n with
    | none => rw [q] at e; cases e
    | some ds =>
      rw [q] at e
      dsimp only at e
      cases q2 : D.pyAll ds with
      | none => rw [q2] at e; cases e
      | some ps =>
        rw [q2] at e
        cases e
        obtain ⟨vs, g1, g2⟩ := es.seq hn (Sto.seq_of q)
        exact .lst g1 (dp_All g2 q2)
  | non => exact dp_N (ρ := ρ) .non e
  | bl b => exact dp_N (ρ := ρ) (.bl b) e
  | int i => exact dp_N (ρ := ρ) (.int i) e
  | str x => exact dp_N (ρ := ρ) (.str x) e
  | tup h r => exact dp_N (.tup h r) e
  | ty n => cases e
  | ob a => cases e
  | kl h r => exact dp_N (.kl h r) e
end
/-- scalars: told apart as they stand -/
def scalD : D → D → Option Bool
  | .non, .non => some true
  | .int i, .int j => some (decide (i = j))
  | .bl i, .bl j => some (decide (i = j))
  | .str i, .str j => some (decide (i = j))
  | .non, .int _ => some false | .int _, .non => some false
  | .non, .bl _ => some false | .bl _, .non => some false
  | .non, .str _ => some false | .str _, .non => some false
  | .int _, .str _ => some false | .str _, .int _ => some false
  | .bl _, .str _ => some false | .str _, .bl _ => some false
  | _, _ => none
def eqvD (x y : D) (st : Sto) : Option Bool := match scalD x y with
  | some b => some b
  | none => match x.py st, y.py st with
    | some d, some e => if SeqAt.shaped d = true ∧ SeqAt.shaped e = true then some (PyData.eqv d e) else none
    | _, _ => none
def eqD : F2 := fun x y st => match eqvD x y st with
  | some b => .ok (.bl b) st
  | none => .no
def neD : F2 := fun x y st => match eqvD x y st with
  | some b => .ok (.bl (!b)) st
  | none => .no
theorem scal_of {H : Hp} {ρ : List Addr} {x y : D} {vx vy : V} {b : Bool} (ex : EV K H ρ x vx) (ey : EV K H ρ y vy) (h : scalD x y = some b) : scal vx vy = true ∧ decide (vx = vy) = b := by
  cases ex <;> cases ey <;> first
    | (cases h; exact ⟨rfl, by simp⟩)
    | (cases h; done)
def rEqA (K : PySem.W.Frag) : R2 := fun x y H Q => rEq x y H Q ∨ rEqD K x y H Q
def rNeA (K : PySem.W.Frag) : R2 := fun x y H Q => rNe x y H Q ∨ rNeD K x y H Q
theorem op_eqA (hu : X.A.units + 64 < cLine) : OpR X (compareOp .Eq) (rEqA X.K) := op_eq.or (op_eqD hu)
theorem op_neA (hu : X.A.units + 64 < cLine) : OpR X (compareOp .NotEq) (rNeA X.K) := op_ne.or (op_neD hu)
theorem eqv_or {H : Hp} {ρ : List Addr} {st : Sto} {x y : D} {vx vy : V} {b : Bool} (ex : EV K H ρ x vx) (ey : EV K H ρ y vy) (es : ES K G.T H ρ st) (h : eqvD x y st = some b) :
    (scal vx vy = true ∧ decide (vx = vy) = b) ∨ ∃ d e, Dp K H vx d ∧ Dp K H vy e ∧ SeqAt.shaped d = true ∧ SeqAt.shaped e = true ∧ PyData.eqv d e = b := by
  unfold eqvD at h
  cases q : scalD x y with
  | some c =>
    rw [q] at h
    cases h
    exact .inl (scal_of ex ey q)
  | none =>
    rw [q] at h
    dsimp only at h
    cases q1 : x.py st with
    | none => rw [q1] at h; cases h
    | some d =>
      cases q2 : y.py st with
      | none => rw [q1, q2] at h; cases h
      | some e =>
        rw [q1, q2] at h
        dsimp only at h
        split at h
        · rename_i hs
          cases h
          exact .inr ⟨d, e, dp_of ex es q1, dp_of ey es q2, hs.1, hs.2, rfl⟩
        · cases h
theorem os_eq : OpS K G (rEqA K) eqD := by
  intro x y vx vy ρ st H Q ex ey es h
  unfold eqD at h
  cases q : eqvD x y st with
  | none => rw [q] at h; exact h.elim
  | some b =>
    rw [q] at h
    have z := h.now (.bl b) es
    rcases eqv_or ex ey es q with ⟨h1, h2⟩ | ⟨d, e, h1, h2, h3, h4, h5⟩
    · exact .inl ⟨h1, by rw [h2]; exact z⟩
    · exact .inr ⟨d, e, h1, h2, h3, h4, by rw [h5]; exact z⟩
theorem os_ne : OpS K G (rNeA K) neD := by
  intro x y vx vy ρ st H Q ex ey es h
  unfold neD at h
  cases q : eqvD x y st with
  | none => rw [q] at h; exact h.elim
  | some b =>
    rw [q] at h
    have z := h.now (.bl (!b)) es
    rcases eqv_or ex ey es q with ⟨h1, h2⟩ | ⟨d, e, h1, h2, h3, h4, h5⟩
    · exact .inl ⟨h1, by rw [h2]; exact z⟩
    · exact .inr ⟨d, e, h1, h2, h3, h4, by rw [h5]; exact z⟩
/-! #### in -/
def D.flat : D → Bool
  | .tup _ => false
  | .ref _ => false
  | .ty _ => false
  | .ob _ => false
  | .kl _ => false
  | _ => true
def eqF : D → D → Bool
  | .non, .non => true
  | .bl a, .bl b => a == b
  | .bl a, .int b => (if a then 1 else 0) == b
  | .int a, .bl b => a == (if b then 1 else 0)
  | .int a, .int b => a == b
  | .str a, .str b => a == b
  | _, _ => false
def inD (x : D) (ds : List D) : Bool := ds.any fun y => eqF y x
def memD (neg : Bool) : F2 := fun x y st => match y.items st with
  | some ds => if x.flat = true ∧ ds.all D.flat = true then .ok (.bl (if neg then !inD x ds else inD x ds)) st else .no
  | none => .no
theorem flat_of {H : Hp} {ρ : List Addr} {x : D} {v : V} (e : EV K H ρ x v) (h : x.flat = true) : flatV v = true := by
  cases e <;> first | rfl | (cases h; done)
theorem flats_of {H : Hp} {ρ : List Addr} : ∀ {ds : List D} {vs : List V}, EVs K H ρ ds vs → ds.all D.flat = true → vs.all flatV = true
  | _, _, .nil, _ => rfl
  | _, _, .cons h r, e => by
    rw [List.all_cons, Bool.and_eq_true] at e ⊢
    exact ⟨flat_of h e.1, flats_of r e.2⟩
theorem eqF_of {H : Hp} {ρ : List Addr} {x y : D} {v w : V} (e : EV K H ρ x v) (e' : EV K H ρ y w) (h : x.flat = true) (h' : y.flat = true) : eqV v w = eqF x y := by
  cases e <;> cases e' <;> first | rfl | (cases h; done) | (cases h'; done)
theorem inV_of {H : Hp} {ρ : List Addr} {x : D} {v : V} (e : EV K H ρ x v) (h : x.flat = true) : ∀ {ds : List D} {vs : List V}, EVs K H ρ ds vs → ds.all D.flat = true → inV v vs = inD x ds
  | _, _, .nil, _ => rfl
  | _, _, .cons q r, hd => by
    rw [List.all_cons, Bool.and_eq_true] at hd
    have ih := inV_of e h r hd.2
    unfold inV inD at ih ⊢
    rw [List.any_cons, List.any_cons, ih, eqF_of q e hd.1 h]
theorem os_mem {neg : Bool} : OpS K G (rIn K neg) (memD neg) := by
  intro x y vx vy ρ st H Q ex ey es h
  unfold memD at h
  cases q : y.items st with
  | none => rw [q] at h; exact h.elim
  | some ds =>
    rw [q] at h
    dsimp only at h
    split at h
    · rename_i hf
      obtain ⟨a, vs, e1, e2, e3⟩ := ey.items es q
      refine ⟨a, vs, e1, e2, flat_of ex hf.1, flats_of e3 hf.2, ?_⟩
      rw [inV_of ex hf.1 e3 hf.2]
      exact h.now (.bl _) es
    · exact h.elim
/-! #### is None -/
def isND (neg : Bool) (a : ME) : ME := fun env st => (a env st).bind fun x st => .ok (.bl (match x with
  | .non => !neg
  | _ => neg)) st
/-! #### places -/
def ixD : F2 := fun x y st => match y with
  | .int i => match x with
    | .str s => if s.length ≤ sizeLine then match atI s.cps.toList i with
      | some c => .ok (.str ⟨#[c]⟩) st
      | none => .no
      else .no
    | x => match x.items st with
      | some ds => match atI ds i with
        | some d => .ok d st
        | none => .no
      | none => .no
  | _ => .no
theorem EVs.atI {H : Hp} {ρ : List Addr} {ds : List D} {vs : List V} {i : Int} {d : D} (h : EVs K H ρ ds vs) (e : L2.atI ds i = some d) : ∃ v, L2.atI vs i = some v ∧ EV K H ρ d v := by
  unfold L2.atI at e ⊢
  rw [← h.length]
  cases q : ixN ds.length i with
  | none => rw [q] at e; cases e
  | some j =>
    rw [q] at e
    exact h.get e
theorem os_ix : OpS K G (rIx K) ixD := by
  intro x y vx vy ρ st H Q ex ey es h
  unfold ixD at h
  cases ey with
  | int i =>
    dsimp only at h
    have seq : ∀ o : Option (List D), x.items st = o → PostE K G H ρ Q (match o with
        | some ds => match L2.atI ds i with
          | some d => .ok d st
          | none => .no
        | none => .no) → rIx K vx (.int i) H Q := by
      intro o eo hq
      cases o with
      | none => exact hq.elim
      | some ds =>
        dsimp only at hq
        cases q2 : L2.atI ds i with
        | none => rw [q2] at hq; exact hq.elim
        | some d =>
          rw [q2] at hq
          obtain ⟨a, vs, e1, e2, e3⟩ := ex.items es eo
          obtain ⟨v, g1, g2⟩ := e3.atI q2
          rcases e2 with e2 | e2
          · exact .inl ⟨a, vs, i, v, e1, rfl, e2, g1, hq.now g2 es⟩
          · exact .inr (.inl ⟨a, vs, i, v, e1, rfl, e2, g1, hq.now g2 es⟩)
    cases ex with
    | str s =>
      dsimp only at h
      split at h
      · rename_i hl
        split at h
        · rename_i c hc
          exact .inr (.inr ⟨s, i, c, rfl, rfl, hl, hc, h.now (.str _) es⟩)
        · exact h.elim
      · exact h.elim
    | tup h1 h2 => exact seq _ rfl h
    | ref hn => exact seq _ rfl h
    | kl h1 h2 => exact seq _ rfl h
    | _ => exact h.elim
  | _ => exact h.elim
/-- a[i] = v -/
def setD : D → D → D → Sto → R Unit := fun o i v st => match o, i with
  | .ref n, .int k => match st[n]? with
    | some (.lst ds) => match ixN ds.length k with
      | some j => .ok () (st.set n (.lst (ds.set j v)))
      | none => .no
    | _ => .no
  | _, _ => .no
theorem ss_setL : SetS K G rSetL setD := by
  intro o i d vo vi vd ρ st H Q eo ei ed es h
  unfold setD at h
  split at h
  · rename_i n k
    split at h
    · rename_i ds e1
      split at h
      · rename_i j e2
        obtain ⟨a, rfl, hn⟩ := eo.ofRef
        cases ei.ofInt
        obtain ⟨vs, q1, q2⟩ := es.cell n a _ hn e1
        exact ⟨a, vs, k, j, rfl, rfl, q1, by rw [← q2.length]; exact e2, h ρ _ () (Fr.write (List.mem_of_getElem? hn) q1) trivial (es.write hn q1 (q2.set ed j))⟩
      · exact h.elim
    · exact h.elim
  · exact h.elim
end
section
variable {X : Cx} {G : Gx} {a b e : Expr} {es : List Expr} {ta tb : TE} {tas : TA} {ma mb : ME} {mas : MA} {pos : Pos}
theorem se_ix (ha : SE X G a ta ma) (hb : SE X G b tb mb) (hs : PlainIx b := by exact fun _ _ => rfl) : SE X G (.Subscript a b pos) (tOp (rIx X.K) ta tb) (dBin ixD ma mb) := ⟨pe_ix ix_seq ha.pe hb.pe hs, fun σ env ρ st H Q ev es h => sd_bin ha hb ev es h fun x y vx vy ρ2 st2 H2 e1 e2 es2 _ h2 => os_ix x y vx vy ρ2 st2 H2 Q e1 e2 es2 h2⟩
theorem sd_isN {neg : Bool} (ha : SE X G a ta ma) (σ : L2.St) (env : Ev) (ρ : List Addr) (st : Sto) (H : Hp) (Q : VK) (ev : EVo X.K H ρ env σ) (es : ES X.K G.T H ρ st) (h : PostE X.K G H ρ Q (isND neg ma env st)) :
    ta σ H fun x H1 => Q (.bl (if neg then !decide (x = .non) else decide (x = .non))) H1 := by
  refine ha.sd σ env ρ st H _ ev es (h.bind fun x st1 ρ1 H1 vx f1 e1 es1 h1 => ?_)
  cases e1 <;> cases neg <;> exact h1.now (.bl _) es1
theorem se_isN {j pos'} (ha : SE X G a ta ma) : SE X G (.Compare a [.Is] [.Constant .none j pos'] pos) (tIsN ta) (isND false ma) := ⟨pe_cmp (pc_isN ha.pe) rfl, fun σ env ρ st H Q ev es h => sd_isN ha σ env ρ st H Q ev es h⟩
theorem se_notN {j pos'} (ha : SE X G a ta ma) : SE X G (.Compare a [.IsNot] [.Constant .none j pos'] pos) (tNotN ta) (isND true ma) := ⟨pe_cmp (pc_notN ha.pe) rfl, fun σ env ρ st H Q ev es h => sd_isN ha σ env ρ st H Q ev es h⟩
theorem st_isN {j pos'} (ha : SE X G a ta ma) : ST X G (.Compare a [.Is] [.Constant .none j pos'] pos) (L2.tB (tIsN ta)) (tVal (isND false ma)) := ⟨pt_cmp (pc_isN ha.pe) rfl, fun σ env ρ st H Q ev es h => sd_val (fun σ env ρ st H Q ev es h => sd_isN ha σ env ρ st H Q ev es h) ev es h⟩
theorem st_notN {j pos'} (ha : SE X G a ta ma) : ST X G (.Compare a [.IsNot] [.Constant .none j pos'] pos) (L2.tB (tNotN ta)) (tVal (isND true ma)) := ⟨pt_cmp (pc_notN ha.pe) rfl, fun σ env ρ st H Q ev es h => sd_val (fun σ env ρ st H Q ev es h => sd_isN ha σ env ρ st H Q ev es h) ev es h⟩
end
end Dn

set_option Elab.async false
set_option linter.all false
set_option maxRecDepth 100000
set_option maxHeartbeats 2000000
/-! Built-in functions and methods on data. -/
namespace Dn
open PySem PySem.Spec PyProof.Rows L2

section
variable {X : Cx} {K : PySem.W.Frag} {G : Gx} {H : Hp} {ρ : List Addr} {st : Sto} {Q : VK}
theorem EVs.one {xs : List D} {d : D} {vs : List V} (h : EVs K H ρ (d :: xs) vs) (hx : xs = []) : ∃ v, vs = [v] ∧ EV K H ρ d v := by
  subst hx
  cases h with
  | cons a b => cases b; exact ⟨_, rfl, a⟩
theorem EVs.two {d e : D} {vs : List V} (h : EVs K H ρ [d, e] vs) : ∃ v w, vs = [v, w] ∧ EV K H ρ d v ∧ EV K H ρ e w := by
  cases h with
  | cons a b =>
    obtain ⟨w, rfl, b'⟩ := b.one rfl
    exact ⟨_, w, rfl, a, b'⟩
/-- len -/
def lenD : FN := fun xs st => match xs with
  | [.str s] => if s.length ≤ sizeLine then .ok (.int s.length) st else .no
  | [x] => match x.items st with
    | some ds => .ok (.int ds.length) st
    | none => .no
  | _ => .no
theorem cs_len : CallS K G (fun xs H Q => ∃ x n, xs = [x] ∧ LenV K x H n ∧ Q (.int n) H) lenD := by
  intro xs vs ρ st H Q e es h
  unfold lenD at h
  split at h
  · rename_i s
    split at h
    · rename_i hl
      obtain ⟨v, rfl, ev⟩ := e.one rfl
      cases ev.ofStr
      exact ⟨_, s.length, rfl, ⟨hl, rfl⟩, h.now (.int _) es⟩
    · exact h.elim
  · rename_i x hx
    cases q : x.items st with
    | none => rw [q] at h; exact h.elim
    | some ds =>
      rw [q] at h
      obtain ⟨v, rfl, ev⟩ := e.one rfl
      obtain ⟨a, ws, rfl, h1, h2⟩ := ev.items es q
      have z := h.now (.int _) es
      rw [h2.length] at z
      rcases h1 with h1 | h1
      · exact ⟨_, ws.length, rfl, .inl ⟨ws, h1, rfl⟩, z⟩
      · exact ⟨_, ws.length, rfl, .inr ⟨ws, h1, rfl⟩, z⟩
  · exact h.elim
/-- abs, gcd, max, min of two -/
def absD : FN := fun xs st => match xs with
  | [.int i] => .ok (.int (if i < 0 then -i else i)) st
  | _ => .no
theorem cs_abs : CallS K G (fun xs H Q => ∃ i, xs = [.int i] ∧ Q (.int (if i < 0 then -i else i)) H) absD := by
  intro xs vs ρ st H Q e es h
  unfold absD at h
  split at h
  · rename_i i
    obtain ⟨v, rfl, ev⟩ := e.one rfl
    cases ev.ofInt
    exact ⟨i, rfl, h.now (.int _) es⟩
  · exact h.elim
def int2D (g : Int → Int → Int) : FN := fun xs st => match xs with
  | [.int i, .int j] => .ok (.int (g i j)) st
  | _ => .no
theorem cs_int2 {g : Int → Int → Int} : CallS K G (fun xs H Q => ∃ i j, xs = [.int i, .int j] ∧ Q (.int (g i j)) H) (int2D g) := by
  intro xs vs ρ st H Q e es h
  unfold int2D at h
  split at h
  · rename_i i j
    obtain ⟨v, w, rfl, ev, ew⟩ := e.two
    cases ev.ofInt
    cases ew.ofInt
    exact ⟨i, j, rfl, h.now (.int _) es⟩
  · exact h.elim
abbrev gcdD : FN := int2D fun i j => ((Nat.gcd i.natAbs j.natAbs : Nat) : Int)
abbrev max2D : FN := int2D fun i j => if j > i then j else i
abbrev min2D : FN := int2D fun i j => if j < i then j else i
/-- isinstance(x, T), T a built-in class -/
def D.tyName (st : Sto) : D → Option String
  | .non => some "NoneType"
  | .bl _ => some "bool"
  | .int _ => some "int"
  | .str _ => some "str"
  | .tup _ => some "tuple"
  | .ref n => (st.seq n).map fun _ => "list"
  | .kl _ => some "list"
  | .ty _ => none
  | .ob _ => none
def isiD : FN := fun xs st => match xs with
  | [x, .ty n] => match x.tyName st with
    | some t => match kitB t n with
      | some b => .ok (.bl b) st
      | none => .no
    | none => .no
  | _ => .no
theorem ty_of {x : D} {v : V} {t : String} (e : EV K H ρ x v) (es : ES K G.T H ρ st) (h : x.tyName st = some t) : TyX K H v (.type t) := by
  cases e with
  | non => cases h; exact .base .non
  | bl b => cases h; exact .base (.bl b)
  | int i => cases h; exact .base (.int i)
  | str s => cases h; exact .base (.str s)
  | tup hq r =>
    cases h
    rcases hq with (hq | ⟨o, hq⟩) | ⟨o, _, _, h1, h2, _⟩
    · exact .base (.tup hq)
    · exact .fTuple hq
    · exact .kTuple h1 h2
  | @ref n a hn =>
    unfold D.tyName at h
    dsimp only at h
    cases q : st.seq n with
    | none => rw [q] at h; cases h
    | some ds =>
      rw [q] at h
      cases h
      obtain ⟨vs, q1, _⟩ := es.cell n a _ hn (Sto.seq_of q)
      exact .base (.lst q1)
  | kl hq r =>
    cases h
    rcases hq with (⟨o, hq⟩ | ⟨hq, _⟩) | ⟨o, _, _, h1, h2, _⟩
    · exact .base (.frz hq)
    · exact .base (.lst hq)
    · exact .kList h1 h2
  | ty n => cases h
  | ob a => cases h
theorem cs_isi : CallS K G (rIsi K) isiD := by
  intro xs vs ρ st H Q e es h
  unfold isiD at h
  split at h
  · rename_i x n
    cases q : x.tyName st with
    | none => rw [q] at h; exact h.elim
    | some t =>
      rw [q] at h
      dsimp only at h
      cases q2 : kitB t n with
      | none => rw [q2] at h; exact h.elim
      | some b =>
        rw [q2] at h
        obtain ⟨v, w, rfl, ev, ew⟩ := e.two
        cases ew
        exact ⟨v, .ty n, .type t, .type n, b, rfl, .ty n, ty_of ev es q, kit_ty q2, h.now (.bl b) es⟩
  · exact h.elim
/-- all, any: lists of truth values -/
def D.bls : List D → Option (List Bool)
  | [] => some []
  | .bl b :: ds => (D.bls ds).map (b :: ·)
  | _ :: _ => none
def D.ints : List D → Option (List Int)
  | [] => some []
  | .int b :: ds => (D.ints ds).map (b :: ·)
  | _ :: _ => none
def D.strs : List D → Option (List Str)
  | [] => some []
  | .str b :: ds => (D.strs ds).map (b :: ·)
  | _ :: _ => none
theorem D.bls_of : ∀ {ds : List D} {bs : List Bool}, D.bls ds = some bs → ds = bs.map .bl
  | [], _, h => by cases h; rfl
  | .bl b :: ds, _, h => by
    unfold D.bls at h
    cases q : D.bls ds with
    | none => rw [q] at h; cases h
    | some cs => rw [q] at h; cases h; rw [D.bls_of q]; rfl
  | .non :: _, _, h => nomatch h
  | .int _ :: _, _, h => nomatch h
  | .str _ :: _, _, h => nomatch h
  | .tup _ :: _, _, h => nomatch h
  | .ref _ :: _, _, h => nomatch h
  | .ty _ :: _, _, h => nomatch h
  | .ob _ :: _, _, h => nomatch h
  | .kl _ :: _, _, h => nomatch h
theorem D.ints_of : ∀ {ds : List D} {bs : List Int}, D.ints ds = some bs → ds = bs.map .int
  | [], _, h => by cases h; rfl
  | .int b :: ds, _, h => by
    unfold D.ints at h
    cases q : D.ints ds with
    | none => rw [q] at h; cases h
    | some cs => rw [q] at h; cases h; rw [D.ints_of q]; rfl
  | .non :: _, _, h => nomatch h
  | .bl _ :: _, _, h => nomatch h
  | .str _ :: _, _, h => nomatch h
  | .tup _ :: _, _, h => nomatch h
  | .ref _ :: _, _, h => nomatch h
  | .ty _ :: _, _, h => nomatch h
  | .ob _ :: _, _, h => nomatch h
  | .kl _ :: _, _, h => nomatch h
theorem D.strs_of : ∀ {ds : List D} {bs : List Str}, D.strs ds = some bs → ds = bs.map .str
  | [], _, h => by cases h; rfl
  | .str b :: ds, _, h => by
    unfold D.strs at h
    cases q : D.strs ds with
    | none => rw [q] at h; cases h
    | some cs => rw [q] at h; cases h; rw [D.strs_of q]; rfl
  | .non :: _, _, h => nomatch h
  | .bl _ :: _, _, h => nomatch h
  | .int _ :: _, _, h => nomatch h
  | .tup _ :: _, _, h => nomatch h
  | .ref _ :: _, _, h => nomatch h
  | .ty _ :: _, _, h => nomatch h
  | .ob _ :: _, _, h => nomatch h
  | .kl _ :: _, _, h => nomatch h
@[simp] theorem D.bls_map (bs : List Bool) : D.bls (bs.map .bl) = some bs := by
  induction bs with
  | nil => rfl
  | cons b bs ih => rw [List.map_cons, D.bls, ih]; rfl
@[simp] theorem D.ints_map (bs : List Int) : D.ints (bs.map .int) = some bs := by
  induction bs with
  | nil => rfl
  | cons b bs ih => rw [List.map_cons, D.ints, ih]; rfl
@[simp] theorem D.strs_map (bs : List Str) : D.strs (bs.map .str) = some bs := by
  induction bs with
  | nil => rfl
  | cons b bs ih => rw [List.map_cons, D.strs, ih]; rfl
theorem EVs.bls {bs : List Bool} : ∀ {vs : List V}, EVs K H ρ (bs.map .bl) vs → vs = bs.map .bl := by
  induction bs with
  | nil => intro vs h; cases h; rfl
  | cons b bs ih => intro vs h; cases h with | cons h1 h2 => cases h1; rw [ih h2]; rfl
theorem EVs.ints {bs : List Int} : ∀ {vs : List V}, EVs K H ρ (bs.map .int) vs → vs = bs.map .int := by
  induction bs with
  | nil => intro vs h; cases h; rfl
  | cons b bs ih => intro vs h; cases h with | cons h1 h2 => cases h1; rw [ih h2]; rfl
theorem EVs.strs {bs : List Str} : ∀ {vs : List V}, EVs K H ρ (bs.map .str) vs → vs = bs.map .str := by
  induction bs with
  | nil => intro vs h; cases h; rfl
  | cons b bs ih => intro vs h; cases h with | cons h1 h2 => cases h1; rw [ih h2]; rfl
theorem evs_strs {bs : List Str} : EVs K H ρ (bs.map .str) (bs.map .str) := by
  induction bs with
  | nil => exact .nil
  | cons b bs ih => exact .cons (.str b) ih
/-- a list of the store -/
def lstOf (st : Sto) (xs : List D) : Option (List D) := match xs with
  | [.ref n] => st.seq n
  | _ => none
theorem EVs.lst {xs : List D} {vs : List V} {ds : List D} (h : EVs K H ρ xs vs) (es : ES K G.T H ρ st) (e : lstOf st xs = some ds) : ∃ a ws, vs = [.ref a] ∧ SqL K H a ws ∧ EVs K H ρ ds ws := by
  unfold lstOf at e
  split at e
  · rename_i n
    obtain ⟨v, rfl, ev⟩ := h.one rfl
    obtain ⟨a, rfl, hn⟩ := ev.ofRef
    obtain ⟨ws, q1, q2⟩ := es.seq hn (Sto.seq_of e)
    exact ⟨a, ws, rfl, q1, q2⟩
  · cases e
def blsD (g : List Bool → Bool) : FN := fun xs st => match lstOf st xs with
  | some ds => match D.bls ds with
    | some bs => .ok (.bl (g bs)) st
    | none => .no
  | none => .no
abbrev allD : FN := blsD fun bs => bs.all id
abbrev anyD : FN := blsD fun bs => bs.any id
theorem cs_bls {g : List Bool → Bool} : CallS K G (fun vs H Q => ∃ (a : Addr) (bs : List Bool), vs = [V.ref a] ∧ SqL K H a (bs.map V.bl) ∧ Q (.bl (g bs)) H) (blsD g) := by
  intro xs vs ρ st H Q e es h
  unfold blsD at h
  split at h
  · rename_i ds q
    split at h
    · rename_i bs q2
      obtain ⟨a, ws, rfl, h1, h2⟩ := e.lst es q
      rw [D.bls_of q2] at h2
      rw [h2.bls] at h1
      exact ⟨a, bs, rfl, h1, h.now (.bl _) es⟩
    · exact h.elim
  · exact h.elim
/-- sum of ints -/
def sumD : FN := fun xs st => match lstOf st xs with
  | some ds => match D.ints ds with
    | some ns => .ok (.int ns.sum) st
    | none => .no
  | none => .no
theorem cs_sum : CallS K G (rSum K) sumD := by
  intro xs vs ρ st H Q e es h
  unfold sumD at h
  split at h
  · rename_i ds q
    split at h
    · rename_i bs q2
      obtain ⟨a, ws, rfl, h1, h2⟩ := e.lst es q
      rw [D.ints_of q2] at h2
      rw [h2.ints] at h1
      exact ⟨a, bs, rfl, h1, h.now (.int _) es⟩
    · exact h.elim
  · exact h.elim
/-- tuple(x), list(x) -/
def tupleD : FN := fun xs st => match xs with
  | [x] => match x.items st with
    | some ds => .ok (.tup ds) st
    | none => .no
  | _ => .no
theorem cs_tuple : CallS K G (fun xs H Q => ∃ p ys, xs = [.ref p] ∧ ((SqL K H p ys ∧ ∀ l, H l = none → Q (.ref l) (upd H l (.tup ys))) ∨ (SqT K H p ys ∧ Q (.ref p) H))) tupleD := by
  intro xs vs ρ st H Q e es h
  unfold tupleD at h
  split at h
  · rename_i x
    split at h
    · rename_i ds q
      obtain ⟨v, rfl, ev⟩ := e.one rfl
      cases ev with
      | @tup a ds' ws h1 h2 =>
        cases q
        exact ⟨a, ws, rfl, .inr ⟨h1, h.now (.tup h1 h2) es⟩⟩
      | @kl a ds' ws h1 h2 =>
        cases q
        exact ⟨a, ws, rfl, .inl ⟨h1.l, newT h h2 es⟩⟩
      | @ref n a hn =>
        obtain ⟨ws, q1, q2⟩ := es.seq hn (Sto.seq_of q)
        exact ⟨a, ws, rfl, .inl ⟨q1, newT h q2 es⟩⟩
      | _ => cases q
    · exact h.elim
  · exact h.elim
def listD : FN := fun xs st => match xs with
  | [x] => match x.items st with
    | some ds => .ok (.ref st.length) (st ++ [.lst ds])
    | none => .no
  | _ => .no
theorem cs_list : CallS K G (fun xs H Q => ∃ p ys, xs = [.ref p] ∧ (SqL K H p ys ∨ SqT K H p ys) ∧ ∀ l, H l = none → Q (.ref l) (upd H l (.lst ys))) listD := by
  intro xs vs ρ st H Q e es h
  unfold listD at h
  split at h
  · rename_i x
    split at h
    · rename_i ds q
      obtain ⟨v, rfl, ev⟩ := e.one rfl
      obtain ⟨a, ws, rfl, h1, h2⟩ := ev.items es q
      exact ⟨a, ws, rfl, h1, newL h h2 es⟩
    · exact h.elim
  · exact h.elim
/-- str(n), int(b), bool(n) -/
def strD : FN := fun xs st => match xs with
  | [.int i] => if i.natAbs.log2 < 1920 then .ok (.str (toString i)) st else .no
  | _ => .no
theorem cs_str : CallS K G (fun xs H Q => ∃ i, xs = [.int i] ∧ i.natAbs.log2 < 1920 ∧ Q (.str (toString i)) H) strD := by
  intro xs vs ρ st H Q e es h
  unfold strD at h
  split at h
  · rename_i i
    split at h
    · rename_i hl
      obtain ⟨v, rfl, ev⟩ := e.one rfl
      cases ev.ofInt
      exact ⟨i, rfl, hl, h.now (.str _) es⟩
    · exact h.elim
  · exact h.elim
def intD : FN := fun xs st => match xs with
  | [.int i] => .ok (.int i) st
  | [.bl k] => .ok (.int (if k then 1 else 0)) st
  | _ => .no
theorem cs_int : CallS K G (fun xs H Q => (∃ i, xs = [.int i] ∧ Q (.int i) H) ∨ ∃ k, xs = [.bl k] ∧ Q (.int (if k then 1 else 0)) H) intD := by
  intro xs vs ρ st H Q e es h
  unfold intD at h
  split at h
  · rename_i i
    obtain ⟨v, rfl, ev⟩ := e.one rfl
    cases ev.ofInt
    exact .inl ⟨i, rfl, h.now (.int _) es⟩
  · rename_i k
    obtain ⟨v, rfl, ev⟩ := e.one rfl
    cases ev.ofBl
    exact .inr ⟨k, rfl, h.now (.int _) es⟩
  · exact h.elim

/-! ### methods -/
abbrev FM := D → List D → Sto → R D
/-- the receiver's kind, known ahead of the arguments -/
def kindD (T : String) (o : D) (st : Sto) : Bool := match o with
  | .str _ => decide (T = "str")
  | .ref n => match st[n]? with
    | some (.lst _) => decide (T = "list")
    | _ => false
  | .kl _ => decide (T = "list")
  | _ => false
theorem kind_of {T : String} {o : D} {v : V} (e : EV K H ρ o v) (es : ES K G.T H ρ st) (h : kindD T o st = true) : tyV K T v H := by
  cases e with
  | str s => exact (show T = "str" from of_decide_eq_true h)
  | @ref n a hn =>
    unfold kindD at h
    dsimp only at h
    cases q : st[n]? with
    | none => rw [q] at h; cases h
    | some c =>
      have z := es.cell n a c hn q
      rw [q] at h
      cases c with
      | lst ds =>
        obtain ⟨vs, q1, _⟩ := z
        exact .inl ⟨of_decide_eq_true h, vs, .inl (.inl q1)⟩
      | dct kvs => cases h
      | dtt _ => cases h
      | obj _ _ => cases h
      | exc _ => cases h
  | @kl a ds vs hq r => exact .inl ⟨of_decide_eq_true (show decide (T = "list") = true from h), vs, hq.l⟩
  | _ => cases h
def dMeth (T : String) (f : FM) (a : ME) (as : MA) : ME := fun env st => (a env st).bind fun o st => if kindD T o st = true then (as env st).bind fun xs st => f o xs st else .no
def MtSo (K : PySem.W.Frag) (G : Gx) (r : V → List V → Hp → VK → Prop) (f : FM) : Prop :=
  ∀ (o : D) (xs : List D) (vo : V) (vs : List V) (ρ : List Addr) (st : Sto) (H : Hp) (Q : VK), EV K H ρ o vo → EVs K H ρ xs vs → ES K G.T H ρ st → PostE K G H ρ Q (f o xs st) → r vo vs H Q
end
section
variable {X : Cx} {G : Gx} {a b e o : Expr} {es : List Expr} {ta tb to : TE} {tas : TA} {ma mb mo : ME} {mas : MA} {pos apos cpos : Pos} {T id : String} {name : Str} {r : V → List V → Hp → VK → Prop} {f : FM}
theorem se_meth (pa : PlainAttrs T) (slot : Slot T name id) (hty : typeOf (.builtin id) = pure (.type "method_descriptor")) (hm : MtR X id r) (hs : MtSo X.K G r f) (ho : SE X G o to mo) (ha : SA X G (e :: es) tas mas)
    (hbase : attributeBase o name X.env (eval o X.env) = eval o X.env := by rfl)
    (hfew : ((backTo cpos (starEach (e :: es) X.env)).all (fun x => !x.1) && (backToKw cpos (keywordEach [] X.env)).all (fun x => x.1.isSome)
      && decide ((e :: es).length + ([] : List Keyword).length + (if ([] : List Keyword).isEmpty then 0 else 1) < 30)) = true := by rfl)
    (hline : (apos.endLine == cpos.line) = true := by rfl) (hst : starEach (e :: es) X.env = (false, eval e X.env) :: starEach es X.env := by rfl) (hplain : (backTo cpos (starEach es X.env)).any (·.1) = false := by rfl) :
    SE X G (.Call (.Attribute o name apos) (e :: es) [] cpos) (tBM X.K T r to tas) (dMeth T f mo mas) := ⟨pe_bm pa slot hty hm ho.pe ha.pe hbase hfew hline hst hplain, fun σ env ρ st H Q ev es h => by
  refine ho.sd σ env ρ st H _ ev es (h.bind fun x st1 ρ1 H1 vx f1 e1 es1 h1 => ?_)
  split at h1
  · rename_i hk
    refine ⟨kind_of e1 es1 hk, ?_⟩
    refine ha.sd σ env ρ1 st1 H1 _ (ev.mono f1) es1 (h1.bind fun xs st2 ρ2 H2 vs f2 e2 es2 h2 => ?_)
    exact hs x xs vx vs ρ2 st2 H2 Q (e1.mono f2) e2 es2 h2
  · exact h1.elim⟩
theorem se_meth0 (pa : PlainAttrs T) (slot : Slot T name id) (hty : typeOf (.builtin id) = pure (.type "method_descriptor")) (hm : MtR X id r) (hs : MtSo X.K G r f) (ho : SE X G o to mo)
    (hbase : attributeBase o name X.env (eval o X.env) = eval o X.env := by rfl) (hline : (apos.endLine == cpos.line) = true := by rfl) :
    SE X G (.Call (.Attribute o name apos) [] [] cpos) (tBM0 X.K T r to) (dMeth T f mo aNil) := ⟨pe_bm0 pa slot hty hm ho.pe hbase hline, fun σ env ρ st H Q ev es h => by
  refine ho.sd σ env ρ st H _ ev es (h.bind fun x st1 ρ1 H1 vx f1 e1 es1 h1 => ?_)
  split at h1
  · rename_i hk
    exact ⟨kind_of e1 es1 hk, hs x [] vx [] ρ1 st1 H1 Q e1 .nil es1 h1⟩
  · exact h1.elim⟩
end
section
variable {X : Cx} {K : PySem.W.Frag} {G : Gx}
def appendD : FM := fun o xs st => match o, xs with
  | .ref n, [y] => match st[n]? with
    | some (.lst ds) => if ds.length < 100000 then .ok .non (st.set n (.lst (ds ++ [y]))) else .no
    | _ => .no
  | _, _ => .no
theorem ms_append : MtSo K G rAppend appendD := by
  intro o xs vo vs ρ st H Q eo exs es h
  unfold appendD at h
  split at h
  · rename_i n y
    split at h
    · rename_i ds q
      split at h
      · rename_i hl
        obtain ⟨a, rfl, hn⟩ := eo.ofRef
        obtain ⟨v, rfl, ev⟩ := exs.one rfl
        obtain ⟨ws, q1, q2⟩ := es.cell n a _ hn q
        exact ⟨a, ws, v, rfl, rfl, q1, by rw [← q2.length]; exact Nat.lt_of_lt_of_le hl line5, h ρ _ _ (Fr.write (List.mem_of_getElem? hn) q1) .non (es.write hn q1 (q2.append (.cons ev .nil)))⟩
      · exact h.elim
    · exact h.elim
  · exact h.elim
def joinD : FM := fun o xs st => match o, xs with
  | .str a, [x] => match x.items st with
    | some ds => match D.strs ds with
      | some ys => if (ys.map (·.length)).sum + ys.length * a.length ≤ 16777216 then .ok (.str (Txt.join a ys)) st else .no
      | none => .no
    | none => .no
  | _, _ => .no
def rJoin (K : PySem.W.Frag) : V → List V → Hp → VK → Prop := fun x xs H Q => ∃ a p, ∃ ys : List Str, x = .str a ∧ xs = [.ref p] ∧ (SqL K H p (ys.map V.str) ∨ SqT K H p (ys.map V.str)) ∧ (ys.map (·.length)).sum + ys.length * a.length ≤ 16777216 ∧ Q (.str (Txt.join a ys)) H
theorem ms_join : MtSo K G (rJoin K) joinD := by
  intro o xs vo vs ρ st H Q eo exs es h
  unfold joinD at h
  split at h
  · rename_i a x
    split at h
    · rename_i ds q
      split at h
      · rename_i ys q2
        split at h
        · rename_i hl
          cases eo.ofStr
          obtain ⟨v, rfl, ev⟩ := exs.one rfl
          obtain ⟨p, ws, rfl, h1, h2⟩ := ev.items es q
          rw [D.strs_of q2] at h2
          rw [h2.strs] at h1
          exact ⟨a, p, ys, rfl, rfl, h1, hl, h.now (.str _) es⟩
        · exact h.elim
      · exact h.elim
    · exact h.elim
  · exact h.elim
def splitD : FM := fun o xs st => match o, xs with
  | .str a, [.str b] => if (b.length == 0) = false ∧ a.length + 2 ≤ sizeLine then .ok (.ref st.length) (st ++ [.lst ((Txt.split a b).map .str)]) else .no
  | _, _ => .no
def rSplit : V → List V → Hp → VK → Prop := fun x xs H Q => ∃ a b, x = .str a ∧ xs = [.str b] ∧ (b.length == 0) = false ∧ a.length + 2 ≤ sizeLine ∧ rNewStrs (Txt.split a b) H Q
theorem ms_split : MtSo K G rSplit splitD := by
  intro o xs vo vs ρ st H Q eo exs es h
  unfold splitD at h
  split at h
  · rename_i a b
    split at h
    · rename_i hl
      cases eo.ofStr
      obtain ⟨v, rfl, ev⟩ := exs.one rfl
      cases ev.ofStr
      exact ⟨a, b, rfl, rfl, hl.1, hl.2, newL h evs_strs es⟩
    · exact h.elim
  · exact h.elim
def partD : FM := fun o xs st => match o, xs with
  | .str a, [.str b] => if (b.length == 0) = false ∧ a.length ≤ sizeLine then .ok (.tup [.str (Txt.partition a b).1, .str (Txt.partition a b).2.1, .str (Txt.partition a b).2.2]) st else .no
  | _, _ => .no
def rPart : V → List V → Hp → VK → Prop := fun x xs H Q => ∃ a b, x = .str a ∧ xs = [.str b] ∧ (b.length == 0) = false ∧ a.length ≤ sizeLine ∧ ∀ p, H p = none → Q (.ref p) (upd H p (.tup [.str (Txt.partition a b).1, .str (Txt.partition a b).2.1, .str (Txt.partition a b).2.2]))
theorem ms_part : MtSo K G rPart partD := by
  intro o xs vo vs ρ st H Q eo exs es h
  unfold partD at h
  split at h
  · rename_i a b
    split at h
    · rename_i hl
      cases eo.ofStr
      obtain ⟨v, rfl, ev⟩ := exs.one rfl
      cases ev.ofStr
      exact ⟨a, b, rfl, rfl, hl.1, hl.2, newT h (.cons (.str _) (.cons (.str _) (.cons (.str _) .nil))) es⟩
    · exact h.elim
  · exact h.elim
/-! ### slices -/
abbrev MO := Ev → Sto → R (Option Int)
structure SO (X : Cx) (G : Gx) (e : Option Expr) (t : TO) (m : MO) : Prop where
  pe : PO X e t
  sd : ∀ (σ : L2.St) (env : Ev) (ρ : List Addr) (st : Sto) (H : Hp) (Q : Option Int → Hp → Prop), EVo X.K H ρ env σ → ES X.K G.T H ρ st → Post (fun _ _ a b => a = b) X.K G.T G.C H ρ Q G.E (m env st) → t σ H Q
def oNone : MO := fun _ st => .ok none st
def oSome (a : ME) : MO := fun env st => (a env st).bind fun d st => match d with
  | .int i => .ok (some i) st
  | _ => .no
theorem so_none : SO X G none tNoPart oNone := ⟨po_none, fun σ env ρ st H Q ev es h => h.now rfl es⟩
theorem so_some {e : Expr} {te : TE} {me : ME} (h : SE X G e te me) : SO X G (some e) (tPart te) (oSome me) := ⟨po_some h.pe, fun σ env ρ st H Q ev es q => by
  refine h.sd σ env ρ st H _ ev es (q.bind fun d st1 ρ1 H1 v f1 e1 es1 q1 => ?_)
  cases e1 with
  | int i => exact ⟨i, rfl, q1.now rfl es1⟩
  | _ => exact q1.elim⟩
def cutD (ds : List D) (lo hi : Option Int) : List D := (ds.drop (HT.sIx ds.length 0 lo)).take (HT.sIx ds.length ds.length hi - HT.sIx ds.length 0 lo)
theorem EVs.cut {H : Hp} {ρ : List Addr} {ds : List D} {vs : List V} (h : EVs K H ρ ds vs) (lo hi : Option Int) : EVs K H ρ (cutD ds lo hi) (cutV vs lo hi) := by
  unfold cutD cutV
  rw [← h.length]
  exact (h.drop _).take _
def sliceD (x : D) (lo hi : Option Int) (st : Sto) : R D := match x with
  | .str z => if z.length ≤ sizeLine then .ok (.str (cutS z lo hi)) st else .no
  | .tup ds => .ok (.tup (cutD ds lo hi)) st
  | .kl ds => .ok (.ref st.length) (st ++ [.lst (cutD ds lo hi)])
  | .ref n => match st.seq n with
    | some ds => .ok (.ref st.length) (st ++ [.lst (cutD ds lo hi)])
    | none => .no
  | _ => .no
def rSlice (K : PySem.W.Frag) : V → Option Int → Option Int → Hp → VK → Prop := fun x lo hi H Q => (rSlS x lo hi H Q ∨ rSlA K x lo hi H Q) ∨ rSlL K x lo hi H Q
theorem sl_any : SlR X (rSlice X.K) := (sl_str.or sl_tupA).or sl_list
theorem sl_whole {xs : List V} {lo hi : Option Int} (h : HT.sIx xs.length 0 lo = 0 ∧ HT.sIx xs.length xs.length hi = xs.length) : cutV xs lo hi = xs := by
  unfold cutV
  rw [h.1, h.2, List.drop_zero, Nat.sub_zero, List.take_length]
theorem sd_slice {x : D} {v : V} {lo hi : Option Int} {ρ : List Addr} {st : Sto} {H : Hp} {Q : VK} (e : EV K H ρ x v) (es : ES K G.T H ρ st) (h : PostE K G H ρ Q (sliceD x lo hi st)) : rSlice K v lo hi H Q := by
  cases e with
  | str z =>
    simp only [sliceD] at h
    split at h
    · rename_i hl
      exact .inl (.inl ⟨z, rfl, hl, h.now (.str _) es⟩)
    · exact h.elim
  | @tup a ds vs h1 h2 =>
    refine .inl (.inr ⟨a, vs, rfl, h1, fun z => ?_, fun _ => newT h (h2.cut lo hi) es⟩)
    refine h.now (.tup h1 ?_) es
    have c := h2.cut lo hi
    rw [sl_whole z] at c
    exact c
  | @ref n a hn =>
    simp only [sliceD] at h
    split at h
    · rename_i ds q
      obtain ⟨vs, q1, q2⟩ := es.seq hn (Sto.seq_of q)
      exact .inr ⟨a, vs, rfl, q1, newL h (q2.cut lo hi) es⟩
    · exact h.elim
  | @kl a ds vs h1 h2 => exact .inr ⟨a, vs, rfl, h1.l, newL h (h2.cut lo hi) es⟩
  | _ => exact h.elim
def dSlice (a : ME) (lo hi : MO) : ME := fun env st => (a env st).bind fun x st => (lo env st).bind fun l st => (hi env st).bind fun h st => sliceD x l h st
theorem se_slice {e : Expr} {lo hi : Option Expr} {te : TE} {tl th : TO} {me : ME} {ml mh : MO} {p2 pos : Pos} (he : SE X G e te me) (hl : SO X G lo tl ml) (hh : SO X G hi th mh) : SE X G (.Subscript e (.Slice lo hi none p2) pos) (tSl (rSlice X.K) te tl th) (dSlice me ml mh) := ⟨pe_slice sl_any he.pe hl.pe hh.pe, fun σ env ρ st H Q ev es h => by
  refine he.sd σ env ρ st H _ ev es (h.bind fun x st1 ρ1 H1 v f1 e1 es1 h1 => ?_)
  refine hl.sd σ env ρ1 st1 H1 _ (ev.mono f1) es1 (h1.bind fun l st2 ρ2 H2 l' f2 e2 es2 h2 => ?_)
  subst e2
  refine hh.sd σ env ρ2 st2 H2 _ (ev.mono (f1.trans f2)) es2 (h2.bind fun u st3 ρ3 H3 u' f3 e3 es3 h3 => ?_)
  subst e3
  exact sd_slice (e1.mono (f2.trans f3)) es3 h3⟩
end
end Dn

set_option Elab.async false
set_option linter.all false
set_option maxRecDepth 100000
set_option maxHeartbeats 2000000
/-! A text's defs, constants and classes, as the rules take them. -/
namespace Dn
open PySem PySem.Spec PyProof.Rows L2

/-- a def of the text -/
structure Def (K : PySem.W.Frag) (mg : Str → Option Value) (x : Str) (st : Stmt) (ps : List Str) (f : Addr) (fd : FuncData) : Prop where
  F : Fun K x x st f fd
  g : mg x = some (.ref f)
  b : L2.Binds K fd ps []
/-- a def that makes M of n data -/
def Ok (P : Program) (w : World) (K : PySem.W.Frag) (mg : Str → Option Value) (base : Heap) (T : List (Addr × Str)) (C : Nat → Addr) (x : Str) (ps : List Str) (n : Nat) (M : FN) (k : Nat) : Prop :=
  ∃ (f : Addr) (fd : FuncData), mg x = some (.ref f) ∧ PySem.W.keepIn K (.ref f) = true ∧ L2.Binds K fd ps [] ∧ FnOk P w K mg base (L2N.CX P w) k f fd ps (spM K T C n M)
theorem ok_of {P : Program} {w : World} {K : PySem.W.Frag} {mg : Str → Option Value} {base : Heap} {T : List (Addr × Str)} {C : Nat → Addr} {x : Str} {st : Stmt} {ps : List Str} {f : Addr} {fd : FuncData} {n k : Nat} {M : FN} (D : Def K mg x st ps f fd)
    (h : FnOk P w K mg base (L2N.CX P w) k f fd ps (spM K T C n M)) : Ok P w K mg base T C x ps n M k := ⟨f, fd, D.g, D.F.kp, D.b, h⟩
theorem Ok.mono {P : Program} {w : World} {K : PySem.W.Frag} {mg : Str → Option Value} {base : Heap} {T : List (Addr × Str)} {C : Nat → Addr} {x : Str} {ps : List Str} {n k j : Nat} {M : FN} (h : Ok P w K mg base T C x ps n M k) (hk : k ≤ j) : Ok P w K mg base T C x ps n M j := by
  obtain ⟨f, fd, h1, h2, h3, h4⟩ := h
  exact ⟨f, fd, h1, h2, h3, h4.mono hk⟩
/-- another mirror of the same def -/
theorem Ok.imp {P : Program} {w : World} {K : PySem.W.Frag} {mg : Str → Option Value} {base : Heap} {T : List (Addr × Str)} {C : Nat → Addr} {x : Str} {ps : List Str} {n k : Nat} {M M' : FN} (h : Ok P w K mg base T C x ps n M k) (hM : ∀ xs st, xs.length = n → M' xs st ≠ .no → Tells st (M xs st) (M' xs st)) : Ok P w K mg base T C x ps n M' k := by
  obtain ⟨f, fd, h1, h2, h3, h4⟩ := h
  refine ⟨f, fd, h1, h2, h3, h4.imp fun vs H Q E z => ?_⟩
  obtain ⟨xs, ρ, st, e1, e2, e3, e4⟩ := z
  exact ⟨xs, ρ, st, e1, e2, e3, Post.tells e3 (hM xs st e1 fun q => by rw [q] at e4; exact e4) e4⟩
theorem pass_def {P : Program} {w : World} {K : PySem.W.Frag} {mg : Str → Option Value} {base : Heap} {N : List Str} {q : Str} {sc : Scope} {f : Addr} {cd : Value} {A : Around} {outer : List Env} {s : Shared} {H : Hp} {E : XK} :
    Passes (L2N.CX P w) (cxOf (L2N.CX P w) P w K mg base N q sc f cd A outer s H E) E := L2N.passes_call (X := cxOf (L2N.CX P w) P w K mg base N q sc f cd A outer s H E) (W := fun cls d _ H => E cls d H) (L2N.takes_of rfl rfl rfl rfl) (fun _ _ _ _ h => h)
theorem own_def {P : Program} {w : World} {K : PySem.W.Frag} {mg : Str → Option Value} {base : Heap} {N : List Str} {q : Str} {sc : Scope} {f : Addr} {cd : Value} {A : Around} {outer : List Env} {s : Shared} {H : Hp} {E : XK} :
    PassesOwn (model P w) (cxOf (L2N.CX P w) P w K mg base N q sc f cd A outer s H E).A (cxOf (L2N.CX P w) P w K mg base N q sc f cd A outer s H E).env (cxOf (L2N.CX P w) P w K mg base N q sc f cd A outer s H E).xe := PassesOwn.leaving
theorem pass_blk {X : Cx} : Passes (L2N.CX X.prog X.w) X L2.E0 := fun _ _ _ _ _ _ _ h => by
  obtain ⟨_, _, _, _, _, _, _, _, _, _, _, _, z⟩ := h
  exact z.elim
section
variable {X : Cx} {G : Gx} {e : Expr} {es : List Expr} {tas : TA} {mas : MA} {pos p : Pos}
theorem se_call {x : Str} {k n : Nat} {ps : List Str} {M : FN} (h : Ok X.prog X.w X.K X.mg X.base G.T G.C x ps n M k) (hr : Room k X.A) (hx : Passes (L2N.CX X.prog X.w) X G.E) (ha : SA X G (e :: es) tas mas) (hg : Gl X x := by rfl)
    (hdb : (x == ("__debug__" : Str)) = false := by decide) (he : starEach (e :: es) X.env = (false, eval e X.env) :: starEach es X.env := by rfl) (hpl : (backTo pos (starEach es X.env)).any (·.1) = false := by rfl) :
    SE X G (.Call (.Name x p) (e :: es) [] pos) (L2.tCall (spM X.K G.T G.C n M) [] G.E tas) (dCall (dFn n M) mas) := by
  obtain ⟨f, fd, h1, h2, h3, h4⟩ := h
  exact se_fn h4 hr hg h1 h2 h3 hx ha hdb he hpl
theorem se_call0 {x : Str} {k : Nat} {ps : List Str} {M : FN} (h : Ok X.prog X.w X.K X.mg X.base G.T G.C x ps 0 M k) (hr : Room k X.A) (hx : Passes (L2N.CX X.prog X.w) X G.E) (hg : Gl X x := by rfl)
    (hdb : (x == ("__debug__" : Str)) = false := by decide) : SE X G (.Call (.Name x p) [] [] pos) (L2.tCall (spM X.K G.T G.C 0 M) [] G.E tNil) (dCall (dFn 0 M) aNil) := by
  obtain ⟨f, fd, h1, h2, h3, h4⟩ := h
  exact se_fn0 h4 hr hg h1 h2 h3 hx hdb
/-- a constant of the module: an int -/
def KInt (mg : Str → Option Value) (x : Str) (i : Int) : Prop := ∃ t, mg x = some (.int i t)
theorem se_gint {x : Str} {i : Int} (h : KInt X.mg x i) (hg : Gl X x := by rfl) (hd : (x == ("__debug__" : Str)) = false := by decide) : SE X G (.Name x pos) (tC (.int i)) (dC (.int i)) := by
  obtain ⟨t, ht⟩ := h
  exact se_const (pe_glob hg ht ⟨t, rfl⟩ hd) fun _ _ => .int i
/-- .. a tuple -/
def KTup (K : PySem.W.Frag) (mg : Str → Option Value) (x : Str) (d : D) : Prop := ∃ a, mg x = some (.ref a) ∧ ∀ H ρ, EV K H ρ d (.ref a)
theorem se_gtup {x : Str} {d : D} (h : KTup X.K X.mg x d) {a : Addr} (ha : X.mg x = some (.ref a)) (hg : Gl X x := by rfl) (hd : (x == ("__debug__" : Str)) = false := by decide) : SE X G (.Name x pos) (tC (.ref a)) (dC d) := by
  obtain ⟨b, hb, hv⟩ := h
  have e : a = b := by rw [ha] at hb; cases hb; rfl
  subst e
  exact se_const (pe_glob hg ha rfl hd) hv
/-- a built-in class, as a value -/
theorem se_bty {x : Str} {n : String} (hm : X.mg x = none) (hv : bootBuiltins x = some (.type n) := by decide +kernel) (hg : Gl X x := by rfl) (hn : x ≠ "__name__" := by decide) (hd : (x == ("__debug__" : Str)) = false := by decide) : SE X G (.Name x pos) (tC (.ty n)) (dC (.ty n)) := se_const (pe_bltn hg hm hv rfl hn hd) fun _ _ => .ty n
/-- an own class of exceptions -/
structure Exc (K : PySem.W.Frag) (mg : Str → Option Value) (x : Str) (c : Addr) : Prop where
  g : mg x = some (.ref c)
  ex : PySem.W.excIn K c [.type "ValueError", .type "Exception", .type "BaseException", .type "object"] "ValueError.__new__" = true
  kp : PySem.W.keepIn K (.ref c) = true
  sub : PySem.W.subIn K (.ref c) (.type "BaseException") = some true
  ty : PySem.W.typeIn K (.ref c) = some (.type "type")
theorem ss_raiseX {x m : Str} {n : Nat} {j : Nat} {p2 p3 : Pos} {W : WX} (h : Exc X.K X.mg x (G.C n)) (hc : X.calm = true) (tk : L2N.Takes X W) (hW : ∀ cls d σ H, G.E cls d H → W cls d σ H) (hg : Gl X x := by rfl) (hdb : (x == ("__debug__" : Str)) = false := by decide) :
    SS X G (.Raise (some (.Call (.Name x p) [.Constant (.str m) j p2] [] p3)) none pos) (fun _ σ H => W (.ref (G.C n)) none σ H) (sRaise n) := ss_raise n hc tk hW (L2N.pmk_own PySem.F.excBase_ValueError h.ex h.g h.kp (raises_own h.sub h.ty) hg hdb)
end
end Dn

set_option Elab.async false
set_option linter.all false
set_option maxRecDepth 100000
set_option maxHeartbeats 4000000
/-! While an exception is handled: a list walked to its end, a comprehension of whole numbers, a sum. -/
namespace Hh
open PySem PySem.Spec PyProof.Rows L2 HotX
section
variable {prog : Program} {w : World} {A : Around} {E : Value → Shared → Prop} {s : Shared}
/-- the end of a walked list -/
theorem listEnd {it l x1 : Addr} {i : Nat} {items : Array Value} {Q : Option Value → Shared → Prop} (hot : HotAt A x1 s.heap) (hne : x1 ≠ it) (hit : s.heap.IsListIter it l i) (hl : s.heap.IsList l items) (hx : items[i]? = none)
    (hQ : ∀ h', Heap.ExtBut it s.heap h' → Q none { s with heap := h' }) : wpAny (model prog w) A (pyNext (.ref it)) Q E s := by
  obtain ⟨oI, hoI, hcI, hdI⟩ := id hit
  obtain ⟨oL, hoL, _, nL, hdL⟩ := id hl
  obtain ⟨hh, o1, vs1, h1, d1, c1⟩ := hot
  unfold pyNext
  apply wpAny_bind; apply wpAny_attempt
  apply wpAny_callSpecial?_slot (name := Str.ofString "__next__") hit.typeIs slot_listiter_next
  refine wpAny_call_entry slot_listiter_next hit.typeIs entry_listiter_next ?_ (args_listiter_next _)
  show wpAny _ _ (field (.ref it) 0 >>= _) _ _ s
  apply wpAny_bind; apply wpAny_field hoI hdI (x := .ref l) rfl
  show wpAny _ _ (if (Value.ref l == Value.none) = true then _ else _) _ _ s
  rw [if_neg (by exact Bool.false_ne_true)]
  show wpAny _ _ (field (.ref it) 1 >>= _) _ _ s
  apply wpAny_bind; apply wpAny_field hoI hdI (x := .int i 0) rfl
  show wpAny _ _ (seqItems? (.ref l) >>= _) _ _ s
  apply wpAny_bind; apply wpAny_seqItems hoL hdL
  simp only [Int.toNat_natCast, hx]
  apply wpAny_bind; apply wpAny_rule; apply wpAny_bind; apply wpAny_setField hoI hdI (by simp)
  show wpAny _ _ (newExc (.type "StopIteration") [] >>= _) _ _ _
  apply wpAny_bind
  simp only [newExc, newTuple]
  apply wpAny_bind; refine wpAny_newObj_type ?_ (by size_fits)
  apply wpAny_bind (m := firstArgMember _ _)
  refine wpAny_of_eq (a := Value.none) (by first | rfl | (simp only [firstArgMember]; rfl)) ?_
  refine wpAny_newObj_type ?_ (by size_fits)
  have u1 : (s.heap.update it (Obj.mapFields (·.setIfInBounds 0 .none))).get? x1 = some o1 := by rw [Heap.get?_update_other _ _ (Ne.symm hne)]; exact h1
  refine raiseNew_hot ⟨hh, o1, vs1, Heap.get?_push_of_some _ (Heap.get?_push_of_some _ u1), d1, c1⟩ (Nat.ne_of_lt (Heap.lt_size (Heap.get?_push_of_some _ u1))) (Heap.get?_push_size _ rfl) rfl
    (by first | (simp; done) | (simp; omega) | (simp only [Array.size_append]; simp; omega)) ?_
  refine wpAny_bind (wpAny_isInstance (T := "StopIteration") (b := true) ⟨_, Heap.get?_update_self _ (Heap.get?_push_size _ rfl) rfl, rfl⟩ isSubtype_stop ?_)
  refine wpAny_pure (hQ _ fun b o hb e => ?_)
  have z : (((s.heap.update it (Obj.mapFields (·.setIfInBounds 0 .none))).push { cls := .type "tuple", data := .seq #[] }).get? b) = some o := Heap.get?_push_of_some _ (by rw [Heap.get?_update_other _ _ (Ne.symm hb)]; exact e)
  rw [Heap.get?_update_other _ _ (Nat.ne_of_gt (Heap.lt_size z))]
  exact Heap.get?_push_of_some _ z
theorem hot_keep {x1 : Addr} {h h' : Heap} (hot : HotAt A x1 h) (k : ∀ o, h.get? x1 = some o → h'.get? x1 = some o) : HotAt A x1 h' := by
  obtain ⟨hh, o1, vs1, h1, d1, c1⟩ := hot
  exact ⟨hh, o1, vs1, k _ h1, d1, c1⟩
theorem walksL {x1 : Addr} (I ax : Addr) (hne : ax ≠ I) (hx : x1 ≠ I) (items : Array Value) :
    Walks prog w A I [I, ax, x1] [I] items.size (fun i v => items[i]? = some v) (fun i h => (h.IsListIter I ax i ∧ h.IsList ax items) ∧ HotAt A x1 h) where
  sub := fun b hb => by
    rw [List.mem_singleton.mp hb]
    exact List.mem_cons_self
  frame := fun i h h' st hk => ⟨⟨st.1.1.at fun o e => hk I (by simp) o e, st.1.2.at fun o e => hk ax (by simp) o e⟩, hot_keep st.2 fun o e => hk x1 (by simp) o e⟩
  item := fun i s Q E hi st hQ => by
    refine wpAny_pyNext_list_item st.1.1 st.1.2 (x := items[i]) (by simp [hi]) fun h' hit' hs' => ?_
    refine hQ _ h' s.toks (by simp [hi]) ⟨⟨hit', st.1.2.extBut hs'.extBut hne⟩, hot_keep st.2 fun o e => hs'.extBut x1 o hx e⟩ fun b o hb e => ?_
    exact hs'.extBut b o (fun z => hb (by simp [z])) e
  done := fun s Q E st hQ => listEnd st.2 hx st.1.1 st.1.2 (by simp) fun h' he' => hQ h' s.toks fun b o hb e => he' b o (fun z => hb (by simp [z])) e
  self := fun _ _ _ _ st hQ => wpAny_pyIter_listiter st.1.1 hQ
end
/-! ### a context that bears the handled exception -/
section
variable {X : Cx} {pins : List (Addr × Obj)} {σ : L2.St} {H : Hp} {s : Shared} {G : Dn.Gx}
/-- the context bears the exception at a, of the object oe, which is handled -/
structure Bears (X : Cx) (a : Addr) (oe : Obj) : Prop where
  pin : (a, oe) ∈ X.pn
  hd : X.A.handled = some (.ref a)
  fl : ∃ vs : Array Value, oe.data = .fields vs ∧ vs[2]? = some .none
variable {a : Addr} {oe : Obj}
theorem Bears.at (B : Bears X a oe) (I : Inv X pins σ H s) : s.heap.get? a = some oe ∧ H a = none ∧ HotAt X.A a s.heap := by
  obtain ⟨h1, h2, _⟩ := I.pin (a, oe) (List.mem_append_left _ B.pin)
  obtain ⟨vs, f1, f2⟩ := B.fl
  exact ⟨h1, h2, B.hd, oe, vs, h1, f1, f2⟩
/-- a list's walk begun there -/
theorem iterL {p : Addr} {vs : List V} {its : List Value} {Q : Value → Shared → Prop} {E : Value → Shared → Prop} (A : Around) (hA : A.handled = some (.ref a)) (B : Bears X a oe) (I : Inv X pins σ H s) (hl : s.heap.IsList p its.toArray)
    (h : ∀ s₂ : Shared, s₂ = { s with heap := s.heap.push { cls := .type "list_iterator", data := .fields #[.ref p, rawInt 0] } } → Walks X.prog X.w A s.heap.objs.size [s.heap.objs.size, p, a] [s.heap.objs.size] its.toArray.size (fun i v => its.toArray[i]? = some v) (fun i h => (h.IsListIter s.heap.objs.size p i ∧ h.IsList p its.toArray) ∧ HotAt A a h) →
      ((s₂.heap.IsListIter s.heap.objs.size p 0 ∧ s₂.heap.IsList p its.toArray) ∧ HotAt A a s₂.heap) → (∀ b ∈ [s.heap.objs.size, p, a], b < s₂.heap.objs.size) → Q (.ref s.heap.objs.size) s₂) : wpAny (model X.prog X.w) A (pyIter (.ref p)) Q E s := by
  obtain ⟨ga, na, hot⟩ := B.at I
  have lp : p < s.heap.objs.size := by
    obtain ⟨_, e, _⟩ := id hl
    exact Heap.lt_size e
  have la : a < s.heap.objs.size := Heap.lt_size ga
  have hot' : HotAt A a s.heap := ⟨hA, hot.2⟩
  refine wpAny_pyIter_list hl (h _ rfl (walksL _ _ (Nat.ne_of_lt lp) (Nat.ne_of_lt la) _) ⟨⟨⟨_, Heap.get?_push_size _ rfl, rfl, rfl⟩, hl.push _⟩, hot_keep hot' fun o e => Heap.get?_push_of_some _ e⟩ fun b hb => ?_)
  show b < (s.heap.push _).objs.size
  rw [Heap.size_push]
  simp only [List.mem_cons, List.not_mem_nil, or_false] at hb
  rcases hb with e | e | e
  · rw [e]
    exact Nat.lt_succ_self _
  · rw [e]
    exact Nat.lt_succ_of_lt lp
  · rw [e]
    exact Nat.lt_succ_of_lt la
/-- sum of a list of whole numbers -/
theorem call_sumH (B : Bears X a oe) : CallR X (.builtin "sum") (rSum X.K) := by
  intro pins s σ H vs us Q I r h
  obtain ⟨p, ns, rfl, hs, q⟩ := h
  obtain ⟨its, rv, pl, hz⟩ := I.list hs
  have e1 := Vals.ref1 r
  subst e1
  have hi : IntsAre its ns := Vals.ints rv
  obtain ⟨xs, ex⟩ := hi.allInts.items
  have hn : numsOf (intItems xs).toList = ns := by rw [← ex]; exact hi.numsOf
  rw [nums_intItems] at hn
  refine call_sum_walkG (iterL (vs := ns.map V.int) X.A.in1 B.hd B I pl.isList fun s₂ e W st hf => ?_)
  subst e
  refine ⟨_, _, _, _, _, _, numAt xs, rfl, W, st, hf, fun i v hv => intItems_at (by rw [← ex]; exact hv), fun h' tk t' hk => ?_⟩
  have kp : ∀ b o, s.heap.get? b = some o → h'.get? b = some o := fun b o e => hk b o (fun z => by
    rw [List.mem_singleton.mp z] at e
    exact Nat.lt_irrefl _ (Heap.lt_size e)) (Heap.get?_push_of_some _ e)
  refine ⟨.int ns.sum, H, I.kept (t' := tk) kp, ⟨t', ?_⟩, q⟩
  have e2 : its.toArray.size = xs.size := by rw [ex]; simp [intItems]
  rw [e2, preSum_eq, List.take_of_length_le (by simp), hn]
/-- an object laid where nothing stood -/
theorem laidAt {D : Addr} {o : HO} {h' : Heap} {t' : Nat} (I : Inv X pins σ H s) (k : ∀ b u, s.heap.get? b = some u → h'.get? b = some u) (hn : s.heap.get? D = none) (new : ObjOk X.prog X.w (upd H D o) h' D o) :
    Inv X pins σ (upd H D o) { s with heap := h', toks := t' } := by
  have nD : H D = none := I.hok.gone hn
  have ne : ∀ b u, s.heap.get? b = some u → b ≠ D := fun b u e z => by rw [z, hn] at e; cases e
  refine I.un ⟨fun b u q _ _ _ => k b u q, fun b u q _ _ _ => ⟨u.slots, k b u q⟩, fun b u q n _ => by rw [upd_ne (ne b u q)]; exact n, fun b u q _ => ⟨u, k b u q⟩, fun b xs q => by rw [upd_ne (ne_of_none q nD)]; exact q,
    fun b u xs q => by rw [upd_ne (ne_of_none q nD)]; exact q, fun b ps q => ⟨#[], by rw [upd_ne (ne_of_none q nD), q]; simp⟩⟩ fun b u q => ?_
  by_cases hb : b = D
  · subst hb
    rw [upd_same] at q
    cases q
    exact new
  · rw [upd_ne hb] at q
    exact (I.hok b u q).stay (fun c v _ z => k c v z) (fun c z => by rw [upd_ne (ne_of_none z nD)]; exact z) fun c xs z => by rw [upd_ne (ne_of_none z nD)]; exact z
def b2n (b : Bool) : Int := if b then 1 else 0
/-- [int(x) for x in l], l a list of truth values -/
theorem pe_ints {l : Expr} {x : Str} {px p1 p2 p3 pos : Pos} {scope : Scope} {tl : TE} (B : Bears X a oe) (hl : PE X l tl) (hm : X.mg "int" = none) (hfree : ∀ y ∈ scope.names, y.2 ≠ .free) (hcell : ∀ y ∈ scope.names, y.2 ≠ .cell) (hkind : scope.kind = .function)
    (hnames : ∀ y ∈ scope.names, y.2 = .local → scope.names.lookup y.1 = some .local) (hx : scope.names.lookup x = some .local) (hi : scope.names.lookup ("int" : Str) = some .globalImplicit) (hs : ∀ y, foldedSetIterable l X.env y = pure y := by intro _; rfl) (hd : (x == ("__debug__" : Str)) = false := by decide) :
    PE X (.ListComp (.Call (.Name "int" p1) [.Name x p2] [] p3) [⟨.Name x px, l, [], 0⟩] scope pos) (fun σ H Q => tl σ H fun v H1 => ∃ (p : Addr) (bs : List Bool), v = .ref p ∧ SqL X.K H1 p (bs.map V.bl) ∧ ∀ D, H1 D = none → Q (.ref D) (upd H1 D (.lst (bs.map fun b => V.int (b2n b))))) := by
  constructor
  intro pins s σ H Q I h
  refine wpAny_ListComp_walk (fun _ => true) (fun v y => ∃ b t, v = .bool b ∧ y = .int (b2n b) t) hfree hcell hkind hnames hx (thn (hl.run pins s σ H _ I h) ?_) hs
  intro v s1 hv
  obtain ⟨y, H1, I1, r1, p, bs, e, hq, q⟩ := hv
  subst e
  cases r1
  obtain ⟨its, rv, pl, hz⟩ := I1.list hq
  have eb : its = bs.map Value.bool := Vals.bls rv
  refine iterL (vs := bs.map V.bl) X.A B.hd B I1 pl.isList fun s₂ e W st hf => ?_
  subst e
  have szz : its.toArray.size ≤ sizeLine := by
    rw [List.size_toArray, ← rv.length]
    exact hz
  refine ⟨_, _, _, _, _, _, rfl, W, szz, st, hf, ⟨fun C i v s₃ m₃ E' hv hn hm' hk ht => wpAny_tests_nil ⟨rfl, s₃.heap, s₃.toks, rfl, fun _ _ z => z⟩, fun C i v s₃ m₃ E' hv _ hn hm' hk ht => ?_⟩, fun D h' tk ys vs hD hyl hyp hlen hP hF hk => ?_⟩
  · obtain ⟨b, rfl⟩ : ∃ b, v = Value.bool b := by
      rw [eb] at hv
      simp only [List.getElem?_toArray, List.getElem?_map] at hv
      cases eq : bs[i]? with
      | none => rw [eq] at hv; cases hv
      | some b => rw [eq] at hv; cases hv; exact ⟨b, rfl⟩
    have nw : ∀ z o, X.base.get? z = some o → s₃.heap.get? z = some o := fun z o ez => hk z o (fun hz' => by
      have := Heap.lt_size (I1.bk z o ez)
      rw [List.mem_singleton.mp hz'] at this
      exact Nat.lt_irrefl _ this) (Heap.get?_push_of_some _ (I1.bk z o ez))
    obtain ⟨mb, b1, b2⟩ := I1.mod.blt
    refine wpAny_Call_Name_kw (Calls.Name_function_global hkind hi (Calls.loadGlobal_builtin ?_ hm ?_ ((b2 "int" (by decide)).trans (show bootBuiltins "int" = some (.type "int") from by decide +kernel)) ?_))
    · show s₃.heap.Ns X.env.globals X.mg
      rw [I1.ok.glob]
      exact I1.mod.glob.keeps nw
    · show s₃.heap.Ns X.env.builtins mb
      rw [I1.ok.blt]
      exact b1.keeps nw
    · refine PyProof.Rows.callWith_type1 (Calls.spliced_cons (wpAny_Name (wpAny_loadName_local hkind hx hn hm' (Calls.spliced_nil (call_int_bool ?_))) hd)) rfl rfl
      exact ⟨⟨b, _, rfl, rfl⟩, s₃.heap, _, rfl, fun _ _ z => z⟩
  · have ev : vs = its := by
      apply List.ext_getElem?
      intro j
      cases ej : vs[j]? with
      | some v =>
        have z := hP j v ej
        simp only [List.getElem?_toArray] at z
        exact z.symm
      | none =>
        have z := List.getElem?_eq_none_iff.mp ej
        rw [hlen, List.size_toArray] at z
        exact (List.getElem?_eq_none_iff.mpr z).symm
    have kp : ∀ b o, s1.heap.get? b = some o → h'.get? b = some o := fun b o e => hk b o (fun z => by
      rw [List.mem_singleton.mp z] at e
      exact Nat.lt_irrefl _ (Heap.lt_size e)) (Heap.get?_push_of_some _ e)
    have hD1 : s1.heap.get? D = none := by
      cases eD : s1.heap.get? D with
      | none => rfl
      | some o =>
        have z := Heap.get?_push_of_some { cls := .type "list_iterator", data := .fields #[.ref p, rawInt 0] } eD
        have z2 : (s1.heap.push { cls := .type "list_iterator", data := .fields #[.ref p, rawInt 0] }).get? D = none := hD
        rw [z2] at z
        cases z
    have nD : H1 D = none := I1.hok.gone hD1
    have vals : Vals (bs.map fun b => V.int (b2n b)) ys.toList := by
      have gen : ∀ (cs : List Bool) (zs : List Value), Paired (fun v y => ∃ b t, v = Value.bool b ∧ y = Value.int (b2n b) t) (cs.map Value.bool) zs → Vals (cs.map fun b => V.int (b2n b)) zs := by
        intro cs
        induction cs with
        | nil => intro zs hp; cases hp; exact .nil
        | cons c cs ih =>
          intro zs hp
          cases hp with
          | cons h1 h2 =>
            obtain ⟨b, t, e1, e2⟩ := h1
            cases e1
            exact .cons ⟨t, e2⟩ (ih _ h2)
      refine gen bs _ ?_
      have hf2 : (vs.filter fun _ => true) = vs := by simp
      rw [hf2, ev, eb] at hF
      exact hF
    have lz : (bs.map fun b => V.int (b2n b)).length ≤ sizeLine := by
      rw [List.length_map]
      rw [List.length_map] at hz
      exact hz
    obtain ⟨nn, hy⟩ := hyp
    have J : Inv X pins σ (upd H1 D (.lst (bs.map fun b => V.int (b2n b)))) { s1 with heap := h', toks := tk } := laidAt (t' := tk) I1 kp hD1 ⟨lz, ys.toList, nn, vals, by simpa using hy⟩
    exact ⟨.ref D, _, J, rfl, q D nD⟩
end
end Hh

set_option Elab.async false
set_option linter.all false
set_option maxRecDepth 100000
set_option maxHeartbeats 4000000
/-! A deed told: a lambda handed to a def that catches, what the caught exception is told as. -/
namespace Dt
open PySem PySem.Spec PyProof.Rows L2 Dn Hh

/-! ### operations where an exception is handled -/
section
variable {X : Cx} {G : Gx} {a : Addr} {oe : Obj}
/-- isinstance of the handled exception -/
theorem call_isB {Dc : Addr} (C : ExcC X.K Dc) (hz : Zc (.ref Dc) none oe) (B : Bears X a oe) : CallR X (.builtin "isinstance") (rIsE X.K Dc a) := by
  intro pins s σ H xs us Q I rel want
  obtain ⟨c, cv, b, rfl, hcv, one, q⟩ := want
  obtain ⟨u1, u2, rfl, rx, rt⟩ := vals2 rel
  cases rx
  have ec := hcv _ rt
  subst ec
  obtain ⟨hget, _, _⟩ := B.at I
  obtain ⟨vs, hv, _⟩ := B.fl
  have J : PySem.W.InstAt s.heap a oe Dc none := by
    cases oe with
    | mk oc od oda osl =>
      obtain ⟨h1, h2⟩ := hz
      dsimp only at h1 h2 hv
      subst h1 h2 hv
      exact ⟨hget, rfl, rfl, trivial⟩
  exact PySem.W.kia_one (PySem.W.handS_kitx_exc C.hg C.hk C.hs C.hd C.ha C.hn C.ht C.hm) I.kIn J one (fun z => nomatch z) fun tk => ⟨.bl b, H, I.kept (t' := tk) fun _ _ z => z, rfl, q⟩
def isED (K : PySem.W.Frag) (Dc a : Addr) : FN := fun xs st => match xs with
  | [.ob x, c] => if x = a then match (match c with
      | .ob c => PySem.W.kitOne K (.ref Dc) (.ref c)
      | .ty n => PySem.W.kitOne K (.ref Dc) (.type n)
      | _ => none) with
    | some b => .ok (.bl b) st
    | none => .no
    else .no
  | _ => .no
theorem cs_isE {K : PySem.W.Frag} {Dc : Addr} : CallS K G (rIsE K Dc a) (isED K Dc a) := by
  intro xs vs ρ st H Q e es h
  unfold isED at h
  split at h
  · rename_i x c
    split at h
    · rename_i hx
      subst hx
      cases e with
      | cons e1 r1 =>
        cases r1 with
        | cons e2 r2 =>
          cases r2
          cases e1
          split at h
          · rename_i b hb
            cases e2 with
            | ob c => exact ⟨_, .ref c, b, rfl, fun u r => r, hb, h.now (.bl b) es⟩
            | ty n => exact ⟨_, .type n, b, rfl, fun u r => r, hb, h.now (.bl b) es⟩
            | _ => cases hb
          · exact h.elim
    · exact h.elim
  · exact h.elim
/-- a class of the text, as a value -/
theorem se_cls {x : Str} {c : Addr} {pos : Pos} (hm : X.mg x = some (.ref c)) (hg : Gl X x := by rfl) (hd : (x == ("__debug__" : Str)) = false := by decide) : SE X G (.Name x pos) (tC (.ref c)) (dC (.ob c)) := se_const (pe_glob hg hm rfl hd) fun _ _ => .ob c
/-- [int(x) for x in l] -/
def blsOf (st : Sto) : D → Option (List Bool)
  | .ref n => match st.seq n with
    | some ds => D.bls ds
    | none => none
  | _ => none
def dInts (ml : ME) : ME := fun env st => (ml env st).bind fun d st => match blsOf st d with
  | some bs => if bs.length ≤ 100000 then .ok (.ref st.length) (st ++ [.lst (bs.map fun b => D.int (b2n b))]) else .no
  | none => .no
theorem evs_ints {K : PySem.W.Frag} {H : Hp} {ρ : List Addr} : ∀ bs : List Bool, EVs K H ρ (bs.map fun b => D.int (b2n b)) (bs.map fun b => V.int (b2n b))
  | [] => .nil
  | b :: bs => .cons (.int _) (evs_ints bs)
theorem evs_bls {K : PySem.W.Frag} {H : Hp} {ρ : List Addr} : ∀ {bs : List Bool} {vs : List V}, EVs K H ρ (bs.map D.bl) vs → vs = bs.map V.bl
  | [], _, h => by cases h; rfl
  | b :: bs, _, h => by
    cases h with
    | cons h r =>
      cases h
      rw [evs_bls r]
      rfl
theorem se_ints {l : Expr} {x : Str} {px p1 p2 p3 pos : Pos} {scope : Scope} {tl : TE} {ml : ME} (B : Bears X a oe) (hl : SE X G l tl ml) (hm : X.mg "int" = none) (hfree : ∀ y ∈ scope.names, y.2 ≠ .free) (hcell : ∀ y ∈ scope.names, y.2 ≠ .cell)
    (hnames : ∀ y ∈ scope.names, y.2 = .local → scope.names.lookup y.1 = some .local) (hkind : scope.kind = .function := by rfl) (hx : scope.names.lookup x = some .local := by rfl) (hi : scope.names.lookup ("int" : Str) = some .globalImplicit := by rfl) (hs : ∀ y, foldedSetIterable l X.env y = pure y := by intro _; rfl) (hd : (x == ("__debug__" : Str)) = false := by decide) :
    SE X G (.ListComp (.Call (.Name "int" p1) [.Name x p2] [] p3) [⟨.Name x px, l, [], 0⟩] scope pos) (fun σ H Q => tl σ H fun v H1 => ∃ (p : Addr) (bs : List Bool), v = .ref p ∧ SqL X.K H1 p (bs.map V.bl) ∧ ∀ D, H1 D = none → Q (.ref D) (upd H1 D (.lst (bs.map fun b => V.int (b2n b))))) (dInts ml) :=
  ⟨pe_ints B hl.pe hm hfree hcell hkind hnames hx hi hs hd, fun σ env ρ st H Q ev es h => by
    refine hl.sd σ env ρ st H _ ev es (h.bind fun d st1 ρ1 H1 v f1 e1 es1 h1 => ?_)
    split at h1
    · rename_i bs q
      split at h1
      · rename_i hz
        unfold blsOf at q
        split at q
        · rename_i n
          split at q
          · rename_i ds q2
            obtain ⟨p, rfl, hn⟩ := e1.ofRef
            obtain ⟨ws, q3, q4⟩ := es1.seq hn (Sto.seq_of q2)
            rw [D.bls_of q] at q4
            have e2 := evs_bls q4
            subst e2
            refine ⟨p, bs, rfl, q3, fun Dl hD => ?_⟩
            exact h1 (ρ1 ++ [Dl]) _ _ (Fr.laidS hD) (.ref (es1.ref Dl)) (es1.lay hD (evs_ints bs))
          · cases q
        · cases q
      · exact h1.elim
    · exact h1.elim⟩
end
/-! ### list.index -/
section
variable {K : PySem.W.Frag} {G : Gx}
def ixOf (y : D) : List D → Option Nat
  | [] => none
  | z :: zs => if eqF z y = true then some 0 else (ixOf y zs).map (· + 1)
def indexD : FM := fun o xs st => match xs with
  | [y] => match lstOf st [o] with
    | some ds => if y.flat = true ∧ ds.all D.flat = true then match ixOf y ds with
      | some j => .ok (.int (j : Int)) st
      | none => .no
      else .no
    | none => .no
  | _ => .no
theorem ixOf_at {H : Hp} {ρ : List Addr} {y : D} {vy : V} (ey : EV K H ρ y vy) (fy : y.flat = true) : ∀ {ds : List D} {vs : List V} {j : Nat}, EVs K H ρ ds vs → ds.all D.flat = true → ixOf y ds = some j →
    (∃ z, vs[j]? = some z ∧ eqV z vy = true) ∧ ∀ (m : Nat) (z : V), m < j → vs[m]? = some z → eqV z vy = false
  | _, _, _, .nil, _, e => by cases e
  | _, _, j, @EVs.cons _ _ _ d v ds vs h r, fd, e => by
    rw [List.all_cons, Bool.and_eq_true] at fd
    have e0 := eqF_of h ey fd.1 fy
    unfold ixOf at e
    by_cases hz : eqF d y = true
    · rw [if_pos hz] at e
      cases e
      exact ⟨⟨v, rfl, by rw [e0]; exact hz⟩, fun m z hm => absurd hm (Nat.not_lt_zero m)⟩
    · rw [if_neg hz] at e
      cases q : ixOf y ds with
      | none => rw [q] at e; cases e
      | some k =>
        rw [q] at e
        have ej : j = k + 1 := (Option.some.inj e).symm
        subst ej
        obtain ⟨⟨z, h1, h2⟩, h3⟩ := ixOf_at ey fy r fd.2 q
        refine ⟨⟨z, by simpa using h1, h2⟩, fun m z hm hg => ?_⟩
        cases m with
        | zero =>
          have ez : z = v := by simpa using hg.symm
          rw [ez, e0]
          exact Bool.eq_false_iff.mpr hz
        | succ m => exact h3 m z (Nat.lt_of_succ_lt_succ hm) (by simpa using hg)
theorem ms_index : MtSo K G (rIndex K) indexD := by
  intro o xs vo vs ρ st H Q eo exs es h
  unfold indexD at h
  split at h
  · rename_i y
    split at h
    · rename_i ds q
      split at h
      · rename_i hf
        split at h
        · rename_i j hj
          obtain ⟨a, ws, e1, h1, h2⟩ := (EVs.cons eo .nil).lst es q
          cases e1
          obtain ⟨v, rfl, ev⟩ := exs.one rfl
          obtain ⟨⟨z, g1, g2⟩, g3⟩ := ixOf_at ev hf.1 h2 hf.2 hj
          exact ⟨a, ws, v, j, z, rfl, rfl, h1, flat_of ev hf.1, flats_of h2 hf.2, g1, g2, g3, h.now (.int _) es⟩
        · exact h.elim
      · exact h.elim
    · exact h.elim
  · exact h.elim
end
/-! ### a def called there -/
section
variable {X : Cx} {pins : List (Addr × Obj)} {σ : L2.St} {H : Hp} {s : Shared}
theorem _root_.Hh.Bears.hot {a : Addr} {oe : Obj} (B : Bears X a oe) : L2H.Hot1 X.A (a, oe) := ⟨B.hd, B.fl⟩
theorem run_hot {a : Addr} {oe : Obj} {k : Nat} {f : Addr} {name qual : Str} {params : Arguments} {body : List Stmt} {scope : Scope} {dV kV doc pm cdv ct oc : Value} {an od : Option Addr} {osl : Array (Option Value)} {N ps : List Str} {us : List Value} {vs : List V} {Q : VK} {E : XK}
    (B : Bears X a oe) (lk : X.K.lookup f = some ⟨oc, od, .func (PySem.W.fnOf name qual params body scope dV kV doc pm an cdv ct), osl⟩) (hcd : PySem.W.codeIn X.K cdv qual = true) (S : FnScope N ps scope) (hr : L2H.RoomH (k + 1) X.A)
    (hb : L2.Binds X.K (PySem.W.fnOf name qual params body scope dV kV doc pm an cdv ct) ps []) (hx : PassesAt (L2N.CX X.prog X.w) X σ E) (I : Inv X pins σ H s) (r : Vals vs us) (hl : vs.length = ps.length)
    (hbody : L2H.RoomH k (X.A.deeper (envOfC qual scope s.heap.objs.size f cdv)) →
      ∃ t, PSs (L2H.cxH (L2N.CX X.prog X.w) X.prog X.w X.K X.mg X.base N qual scope f cdv X.A X.stack s H E (a, oe)) body t ∧ t { nx := fun _ H' => Q .non H', rt := Q } (L2.start N vs) H) :
    wpAny (model X.prog X.w) X.A (call (.ref f) us) (EP X pins σ Q) X.xe s := by
  have e0 := I.env0
  have hlu : us.length = ps.length := by rw [← r.length]; exact hl
  have b := hb s us I.kIn (by rw [List.append_nil]; exact hlu)
  rw [List.append_nil] at b
  have P1 := I.pin (a, oe) (List.mem_append_left _ B.pin)
  have hpin : L2H.PinOk X.stack H s (a, oe) := ⟨P1.1, P1.2.1, fun hm => (List.mem_cons.mp (I.stkSub a hm)).elim P1.2.2.1 P1.2.2.2.1, P1.2.2.2.2⟩
  have lim : s.heap.NoLimit := e0.mod.nolimit.keeps fun b o e => (e0.bs b o e).1
  have hkind : ∀ y ∈ ps.zip us, scope.names.lookup y.1 = some .local ∨ (scope.names.lookup y.1 = some .cell ∧ ((cellsFrom (s.heap.objs.size + 1) scope.names []).lookup y.1).isSome = true) := by
    rintro ⟨n, v⟩ hy
    rcases S.par n (List.of_mem_zip hy).1 with q | q
    · exact .inl q
    · exact .inr ⟨q, PySem.W.cellsFrom_some _ _ _ (.inl q)⟩
  have rc : codeAny (model X.prog X.w) X.A (.call (.ref f) ⟨us, []⟩) (CR (L2N.CX X.prog X.w) X.stack X.prog X.w H s Q E) s := by
    refine codeAny_call_function hr.depth (I.kIn _ _ lk) rfl S.co S.gen rfl (PySem.W.codeRec_of I.kIn hcd) (b _ _ _ _ ?_)
    refine wpAny_newFunctionEnv_cells S.kind hkind fun env he s1 x => ?_
    subst he
    refine ⟨lim.keeps x.toInCall.keep, codeAny_func ?_⟩
    obtain ⟨t, ht, hq⟩ := hbody (hr.deeper _)
    have J := L2H.inv_startH (CX := L2N.CX X.prog X.w) (E := E) S hpin e0 hl r x
    refine wpAny_mono (ht.run [] s1 (L2.start N vs) H _ J hq) (fun fl s' hs => ?_) fun e s' hs => hs
    cases fl with
    | ret u =>
      obtain ⟨v, σ', H', J', rv, q⟩ := hs
      exact ⟨v, H', J'.os, J'.bare, J'.base, J'.hok, rv, q⟩
    | next =>
      obtain ⟨σ', H', J', q⟩ := hs
      exact ⟨V.non, H', J'.os, J'.bare, J'.base, J'.hok, rfl, q⟩
    | brk =>
      obtain ⟨_, _, _, q⟩ := hs
      exact False.elim q
    | cont =>
      obtain ⟨_, _, _, q⟩ := hs
      exact False.elim q
  refine wpAny_call (codeAny_mono rc fun r s' hq => ?_)
  cases r with
  | error e => exact hx pins H s e s' I hq
  | ok fl =>
    cases fl with
    | ret u => exact I.after hq
    | next => exact False.elim hq
    | brk => exact False.elim hq
    | cont => exact False.elim hq
end

/-! ### the told error -/
/-- what the n-th class is told as -/
def errD (z : Str) : D := .tup [.str "error", .str z]
/-- a def that tells the handled exception by its kind -/
def TermOk (P : Program) (w : World) (K : PySem.W.Frag) (mg : Str → Option Value) (base : Heap) (T : List (Addr × Str)) (C : Nat → Addr) (y ya : Str) (kd : Nat → Option Str) (lv : Nat) : Prop :=
  ∃ (st : Stmt) (N : List Str) (f : Addr) (fd : FuncData), Def K mg y st [ya] f fd ∧ FnScope N [ya] (defScope st) ∧
    ∀ (cdv : Value) (A : Around) (outer : List Env) (s : Shared) (H : Hp) (p : Addr × Obj) (n : Nat) (z : Str), L2H.Hot1 A p → Zc (.ref (C n)) none p.2 → kd n = some z → L2H.RoomH lv (A.deeper (envOfC y (defScope st) s.heap.objs.size f cdv)) →
      ∃ t, PSs (L2H.cxH (L2N.CX P w) P w K mg base N y (defScope st) f cdv A outer s H L2.E0 p) (defBody st) t ∧
        ∀ (Q : VK) (ρ : List Addr) (st : Sto), ES K T H ρ st → Post (EV K) K T C H ρ Q L2.E0 (.ok (errD z) st) → t { nx := fun _ H' => Q .non H', rt := Q } (L2.start N [.ref p.1]) H
/-- the suite's want of the handled exception -/
def TellsE (K : PySem.W.Frag) (T : List (Addr × Str)) (C : Nat → Addr) (kd : Nat → Option Str) (Q : VK) : XK := fun cls d H => ∃ (n : Nat) (z : Str) (ρ : List Addr) (st : Sto), kd n = some z ∧ cls = .ref (C n) ∧ d = none ∧ ES K T H ρ st ∧ Post (EV K) K T C H ρ Q L2.E0 (.ok (errD z) st)
section
variable {X : Cx} {a : Addr} {oe : Obj}
theorem pe_term {T : List (Addr × Str)} {C : Nat → Addr} {y ya e : Str} {kd : Nat → Option Str} {lv i n : Nat} {z : Str} {p1 p2 p3 : Pos} (h : TermOk X.prog X.w X.K X.mg X.base T C y ya kd lv) (B : Bears X a oe) (hz : Zc (.ref (C n)) none oe) (hk : kd n = some z) (hr : L2H.RoomH (lv + 1) X.A)
    (hN : X.N[i]? = some e) (hv : Vis X.env.scope e) (hg : Gl X y) (hdb : (y == ("__debug__" : Str)) = false := by decide) (hd : (e == ("__debug__" : Str)) = false := by decide) (hcd : (e == ("__classdict__" : Str)) = false := by decide) :
    PE X (.Call (.Name y p1) [.Name e p2] [] p3) (fun σ H Q => σ[i]? = some (some (.ref a)) ∧ ∃ ρ st, ES X.K T H ρ st ∧ Post (EV X.K) X.K T C H ρ Q L2.E0 (.ok (errD z) st)) := by
  obtain ⟨st, N, f, fd, Df, S, body⟩ := h
  refine ⟨fun pins s σ H Q I hh => ?_⟩
  obtain ⟨hσ, ρ, sto, es, hp⟩ := hh
  obtain ⟨oc, od, kV, doc, pm, an, cdv, ct, osl, efd, lk, hcd'⟩ := Df.F.ex
  have ha : PA X [.Name e p2] (tCons (tVar i) tNil) := pa_cons (pe_var hN hv hd hcd) pa_nil
  refine wpAny_Call_Name_kw (ld_glob I hg Df.g ?_ hdb)
  refine PySem.W.callWith_K (h₀ := X.base) I.ok.mod.kin Df.F.kp (thn (ha.run p3 pins s σ H (fun vs H1 => vs = [V.ref a] ∧ H1 = H) I ⟨.ref a, hσ, rfl, rfl⟩) fun us s1 ⟨vs, H1, I1, r, q⟩ => ⟨I1.kIn, ?_⟩) (by rfl) (by rfl)
  obtain ⟨ev, eH⟩ := q
  subst ev
  subst eH
  have hb := Df.b
  subst efd
  refine run_hot (E := L2.E0) B lk hcd' S hr hb (fun pins H s e s2 I3 z => pass_blk (X := X) pins σ H s e s2 I3 z) I1 r rfl fun hr' => ?_
  obtain ⟨t, ht, hq⟩ := body cdv X.A X.stack s1 H1 (a, oe) n z B.hot hz hk hr'
  exact ⟨t, ht, hq Q ρ sto es hp⟩
end
/-! ### a lambda, its exceptions known -/
section
variable {X : Cx} {pins : List (Addr × Obj)} {σ : L2.St} {H HZ : Hp} {s s1 : Shared}
/-- the lambda's context -/
def lamN (X : Cx) (A : Around) (outer : List Env) (s : Shared) (H : Hp) (E : XK) (scope : Scope) (f c' : Addr) : Cx :=
  (LamX.lamCx X A outer s H E scope f c').wish fun e s' => wpAny (model X.prog X.w) (A.deeper (LamX.lamEnv X scope s.heap.objs.size f c')) (leaving (LamX.lamEnv X scope s.heap.objs.size f c') e) (fun _ s'' => L2N.CX X.prog X.w outer H s E e s'') (fun e' s'' => L2N.CX X.prog X.w outer H s E e' s'') s'
theorem pass_lam {A : Around} {outer : List Env} {E : XK} {scope : Scope} {f c' : Addr} : Passes (L2N.CX (lamN X A outer s H E scope f c').prog (lamN X A outer s H E scope f c').w) (lamN X A outer s H E scope f c') E :=
  L2N.passes_call (X := lamN X A outer s H E scope f c') (W := fun cls d _ H => E cls d H) (L2N.takes_of rfl rfl rfl rfl) (fun _ _ _ _ h => h)
theorem pe_actN {Ng : List Str} {qg : Str} {sg : Scope} {g f c' : Addr} {cdg pm ctv : Value} {params : Arguments} {body : Expr} {scope : Scope} {k i : Nat} {a : Str} {pn : List (Addr × Obj)} {xe : Value → Shared → Prop} {W : WX} {Eg E : XK} {tb : TE} {p1 p2 : Pos}
    (I : Inv X pins σ H s) (L : LamX.LamS X.env.scope scope) (hf : s.heap.get? f = some (PySem.W.kla_obj "<lambda>" (X.env.qual ++ "<lambda>") params body scope (cloFrom X.env.cells scope.names []) pm c' ctv)) (hfn : H f = none) (hfr : f ∉ frs X.stack)
    (hbind : bindArgs (PySem.W.kla_fn "<lambda>" (X.env.qual ++ "<lambda>") params body scope (cloFrom X.env.cells scope.names []) pm (.ref c') ctv) ⟨[], []⟩ = pure [])
    (tk : L2N.Takes ((cxOf (L2N.CX X.prog X.w) X.prog X.w X.K X.mg X.base Ng qg sg g cdg X.A X.stack s H Eg).tr pn xe) W) (hW : ∀ cls d σ' H', E cls d H' → W cls d σ' H') (hr : Room (k + 1) (X.A.deeper (envOfC qg sg s.heap.objs.size g cdg)))
    (hbody : ∀ (A : Around) (outer : List Env) (s : Shared) (H : Hp), Room k (A.deeper (LamX.lamEnv X scope s.heap.objs.size f c')) → PE (lamN X A outer s H E scope f c') body tb)
    (hN : Ng[i]? = some a) (hv : Vis sg a) (hd : (a == ("__debug__" : Str)) = false := by decide) (hcd : (a == ("__classdict__" : Str)) = false := by decide) :
    PE ((cxOf (L2N.CX X.prog X.w) X.prog X.w X.K X.mg X.base Ng qg sg g cdg X.A X.stack s H Eg).tr pn xe) (.Call (.Name a p1) [] [] p2)
      (fun σZ HZ Q => σZ[i]? = some (some (.ref f)) ∧ HZ c' = some (LamX.CodeO c' (X.env.qual ++ "<lambda>")) ∧ tb σ HZ Q) := by
  refine ⟨fun pinsZ sZ σZ HZ Q IZ hyp => ?_⟩
  obtain ⟨hs, hc, ht⟩ := hyp
  refine wpAny_Call_Name_kw (thn ((pe_var (pos := p1) (i := i) hN hv hd hcd).run pinsZ sZ σZ HZ (fun v H1 => v = .ref f ∧ H1 = HZ) IZ ⟨.ref f, hs, rfl, rfl⟩) fun u s1 ⟨v, H1, I1, r1, q1⟩ => ?_)
  obtain ⟨ev, eH⟩ := q1
  subst ev
  rw [eH] at I1
  obtain rfl : u = Value.ref f := r1
  have of1 : s1.heap.get? f = some (PySem.W.kla_obj "<lambda>" (X.env.qual ++ "<lambda>") params body scope (cloFrom X.env.cells scope.names []) pm c' ctv) := I1.base.keep f _ hf hfn hfr fun z => nomatch (show f ∈ ([] : List Addr) from z)
  refine PySem.W.callWith_F0 ⟨_, _, _, _, of1⟩ ?_
  have un : Un (frs X.stack) [] H HZ s.heap s1.heap := I1.base
  obtain ⟨⟨oc, vs, t, hoc, hdc, hvc⟩, _, _⟩ := I1.hok c' _ hc
  have rc : codeAny (model X.prog X.w) (X.A.deeper (envOfC qg sg s.heap.objs.size g cdg)) (.call (.ref f) ⟨[], []⟩) (CR (L2N.CX X.prog X.w) (envOfC qg sg s.heap.objs.size g cdg :: X.stack) X.prog X.w HZ s1 Q E) s1 := by
    refine PySem.W.kla_callFunE hr.depth of1 rfl L.co L.gen rfl ⟨c', oc, vs, t, rfl, hoc, hdc, hvc⟩ ?_
    rw [hbind]
    refine wpAny_pure (wpAny_newFunctionEnv (fun y hy => (L.own y hy).2) (fun y hy => absurd hy (by simp)) (fun h₁ hns hsb => ⟨I1.nolimit.fresh _ hsb, ?_⟩) L.kind)
    show codeAny _ _ (.expr body (LamX.lamEnv X scope s1.heap.objs.size f c')) _ _
    have kp : ∀ b o, s1.heap.get? b = some o → h₁.get? b = some o := fun b o e => hsb.extBut b o (Nat.ne_of_lt (Heap.lt_size e)) (Heap.get?_push_of_some _ e)
    have J : Inv (lamN X (X.A.deeper (envOfC qg sg s.heap.objs.size g cdg)) (envOfC qg sg s.heap.objs.size g cdg :: X.stack) s1 HZ E scope f c') [] σ HZ { s1 with heap := h₁, toks := s1.toks + ([] : List (Str × Value)).length } :=
      (LamX.lam_start2 I L I1.env0 hr.hd un hns kp).wish _
    refine PySem.W.kla_codeExpr (wpAny_mono ((hbody _ _ s1 HZ (hr.deeper _)).run [] _ _ HZ Q J ht) (fun v s' hq => ?_) fun e s' hq => hq)
    obtain ⟨w', H', J', rv, q⟩ := hq
    exact ⟨w', H', J'.os, J'.bare, J'.base, J'.hok, rv, q⟩
  have hx : Passes (L2N.CX X.prog X.w) ((cxOf (L2N.CX X.prog X.w) X.prog X.w X.K X.mg X.base Ng qg sg g cdg X.A X.stack s H Eg).tr pn xe) E := L2N.passes_call tk hW
  refine wpAny_call (codeAny_mono rc fun r s' hq => ?_)
  cases r with
  | error e => exact hx pinsZ σZ HZ s1 e s' I1 hq
  | ok fl =>
    cases fl with
    | ret u => exact I1.after hq
    | next => exact False.elim hq
    | brk => exact False.elim hq
    | cont => exact False.elim hq
end

/-! ### told(lambda: deed) -/
/-- what the deed makes, an error told -/
def dTold (kd : Nat → Option Str) (m : ME) : ME := fun env st => match m env st with
  | .ok d st => .ok d st
  | .er n st => match kd n with
    | some z => .ok (errD z) st
    | none => .no
  | .no => .no
theorem frN {H H1 : Hp} {ρ : List Addr} (e : LamX.ExtN H H1) : Fr H ρ H1 ρ := ⟨⟨[], (List.append_nil _).symm⟩, fun a o h _ t => e a o h t, fun a xs h => e a _ h (fun _ z => nomatch z), fun a o u h => e a _ h (fun _ z => nomatch z), fun _ h n => absurd h n⟩
theorem esN {K : PySem.W.Frag} {T : List (Addr × Str)} {H H1 : Hp} {ρ : List Addr} {st : Sto} (es : ES K T H ρ st) (e : LamX.ExtN H H1) (t : LamX.Tabs T H1) : ES K T H1 ρ st := ⟨t, es.len, es.nd, fun i a c h1 h2 => (es.cell i a c h1 h2).mono (frN e) fun o h n => e a o h n⟩
def tTold (K : PySem.W.Frag) (G : Gx) (kd : Nat → Option Str) (m : ME) : TE := fun σ H Q => LamX.Tabs G.T H ∧ ∀ H1, LamX.ExtN H H1 → LamX.Tabs G.T H1 → canE K { G with E := TellsE K G.T G.C kd Q } m σ H1 Q
/-- the def that tells: its body, its names -/
structure ToldS (stT : Stmt) (a e b y : Str) : Prop where
  body : ∃ p1 p2 p3 p4 p5 p6 p7 p8 p9 p10, defBody stT = [.Try [.Return (some (.Call (.Name a p1) [] [] p2)) p3] [.ExceptHandler (some (.Name b p4)) (some e) [.Return (some (.Call (.Name y p5) [.Name e p6] [] p7)) p8] p9] [] [] p10]
  sc : FnScope [a, e] [a] (defScope stT)
  va : Vis (defScope stT) a
  ve : Vis (defScope stT) e
  le : (defScope stT).names.lookup e = some .local
  gb : (defScope stT).names.lookup b = some .globalImplicit
  gy : (defScope stT).names.lookup y = some .globalImplicit
  k : (defScope stT).kind = .function
section
variable {X : Cx} {G : Gx}
theorem se_told {x a e b y ya : Str} {cb : Addr} {kd : Nat → Option Str} {stT : Stmt} {g c P : Addr} {fd : FuncData} {k lv : Nat} {params : Arguments} {body : Expr} {scope : Scope} {m : ME} {p lpos pos : Pos}
    (Df : Def X.K X.mg x stT [a] g fd) (TS : ToldS stT a e b y) (ht : TermOk X.prog X.w X.K X.mg X.base G.T G.C y ya kd lv) (hcb : X.mg b = some (.ref cb)) (hex : ∀ n z, kd n = some z → PySem.W.exmOne X.K (.ref (G.C n)) (.ref cb) = some true)
    (hg : Gl X x) (hr : Room (k + 2) X.A) (hlv : lv ≤ k) (TB : LamX.TabB X.base X.mg c P) (hcode : X.env.code = .ref c) (hmT : (P, X.env.qual ++ "<lambda>") ∈ G.T) (hu : ∀ p ∈ G.T, p.1 = P → p.2 = X.env.qual ++ "<lambda>") (L : LamX.LamS X.env.scope scope) (hdef : defaultsOf params X.env = ([], []))
    (hbind : ∀ (q : Str) (cl : List (Str × Addr)) (pm cv ctv : Value), bindArgs (PySem.W.kla_fn "<lambda>" q params body scope cl pm cv ctv) ⟨[], []⟩ = pure [])
    (hbody : ∀ (A : Around) (outer : List Env) (s : Shared) (H : Hp) (E : XK) (f c' : Addr), Room k (A.deeper (LamX.lamEnv X scope s.heap.objs.size f c')) → ∃ te, SE (lamN X A outer s H E scope f c') { G with E := E } body te m)
    (hdb : (x == ("__debug__" : Str)) = false := by decide) (hda : (a == ("__debug__" : Str)) = false := by decide) (hca : (a == ("__classdict__" : Str)) = false := by decide) (hde : (e == ("__debug__" : Str)) = false := by decide) (hce : (e == ("__classdict__" : Str)) = false := by decide)
    (hdy : (y == ("__debug__" : Str)) = false := by decide) (hdbb : (b == ("__debug__" : Str)) = false := by decide) :
    SE X G (.Call (.Name x p) [.Lambda params body scope lpos] [] pos) (tTold X.K G kd m) (dTold kd m) := by
  refine ⟨⟨fun pins s σ H Q I hyp => ?_⟩, fun σ env ρ st H Q ev es h => ?_⟩
  · obtain ⟨hT, want⟩ := hyp
    obtain ⟨oc, od, kV, doc, pm, an, cdv, ct, osl, efd, lk, hcg⟩ := Df.F.ex
    have hb := Df.b
    subst efd
    obtain ⟨p1, p2, p3, p4, p5, p6, p7, p8, p9, p10, ebody⟩ := TS.body
    refine wpAny_Call_Name_kw (ld_glob I hg Df.g ?_ hdb)
    refine PySem.W.callWith_K (h₀ := X.base) I.ok.mod.kin Df.F.kp ?_ (by rfl) (by rfl)
    show wpAny _ _ (spliced ((false, eval (.Lambda params body scope lpos) X.env) :: backTo pos (starEach [] X.env))) _ _ s
    refine Calls.spliced_cons (LamX.lam_make2 I TB hcode hmT hu hT hdef (L.has I.ok) fun f c' pm' ctv H1 s' I1 eN T1 hf hfn hfr hco => ?_)
    refine Calls.spliced_nil ⟨I1.kIn, ?_⟩
    have rc : codeAny (model X.prog X.w) X.A (.call (.ref g) ⟨[.ref f], []⟩) (CR (L2N.CX X.prog X.w) X.stack X.prog X.w H1 s' Q L2.E0) s' := by
      refine LamX.run_ofS (CX := L2N.CX X.prog X.w) (N := [a, e]) (ps := [a]) (us := [.ref f]) (vs := [.ref f]) lk hcg TS.sc hr I1.env0 (hb s' [.ref f] I1.kIn rfl) (.cons rfl .nil) rfl fun hr' => ?_
      have hnd := TS.sc.nd
      have hZ : ∀ (Z : Cx), Z = cxOf (L2N.CX X.prog X.w) X.prog X.w X.K X.mg X.base [a, e] x (defScope stT) g cdv X.A X.stack s' H1 L2.E0 → ∃ t, PSs Z (defBody stT) t ∧ t { nx := fun _ H' => Q .non H', rt := Q } (L2.start [a, e] [.ref f]) H1 := by
        intro Z eZ
        have hr2 : L2H.RoomH (lv + 1) Z.A := by
          subst eZ
          have := hr'.dp
          have := hr'.un
          exact L2H.RoomH.mono (L2H.roomH_of hr') (by omega)
        subst eZ
        rw [ebody]
        refine ⟨_, pss_one (L2N.ps_try_as (X := cxOf (L2N.CX X.prog X.w) X.prog X.w X.K X.mg X.base [a, e] x (defScope stT) g cdv X.A X.stack s' H1 L2.E0) (i := 1) (c := .ref cb) (Wout := fun _ _ _ _ => False)
            (tb := fun W D σZ HZ => ∃ Ech : XK, (∀ cls d σ' H', Ech cls d H' → σ'.length = 2 → W cls d σ' H') ∧ σZ[0]? = some (some (.ref f)) ∧ HZ c' = some (LamX.CodeO c' (X.env.qual ++ "<lambda>")) ∧ canE X.K { G with E := Ech } m σ HZ D.rt)
            (ts := fun ax cls d D σZ HZ => ∃ (n : Nat) (z : Str) (ρ : List Addr) (st : Sto), kd n = some z ∧ cls = .ref (G.C n) ∧ d = none ∧ σZ[1]? = some (some (.ref ax)) ∧ ES X.K G.T HZ ρ st ∧ Post (EV X.K) X.K G.T G.C HZ ρ D.rt L2.E0 (.ok (errD z) st))
            rfl rfl hnd rfl ?_ ⟨TS.gb, hdbb, .inl hcb⟩ (fun u s2 xx => ?_) (fun W pn xe tk _ => ?_) (fun ax oe cls d pn hzn hfl => ?_)), ?_⟩
        · show (envOfC x (defScope stT) s'.heap.objs.size g cdv).kindOf e = some .local
          exact TS.le
        · obtain ⟨_, _, _, _, _, _, _, _, _, _, _, _, _, _, _, _, z⟩ := xx
          exact z.elim
        · refine ⟨fun pinsZ sZ σZ HZ D IZ hyp => ?_⟩
          obtain ⟨Ech, hW, h1, h2, h3⟩ := hyp
          have tk' : L2N.Takes ((cxOf (L2N.CX X.prog X.w) X.prog X.w X.K X.mg X.base [a, e] x (defScope stT) g cdv X.A X.stack s' H1 L2.E0).tr pn xe) (fun cls d σ H => σ.length = 2 → W cls d σ H) := fun u s2 xx => by
            obtain ⟨ax, B, sI, pI, σI, HI, cls, d, e1, I2, e2, e3, e4, e5, e6, e7, w⟩ := xx
            exact tk u s2 ⟨ax, B, sI, pI, σI, HI, cls, d, e1, I2, e2, e3, e4, e5, e6, e7, w I2.len⟩
          have act := pe_actN (E := Ech) (tb := canE X.K { G with E := Ech } m) (i := 0) (a := a) (p1 := p1) (p2 := p2) I1 L hf hfn hfr (hbind _ _ _ _ _) tk' hW hr' (fun A outer s H hr3 => by
            obtain ⟨te, hte⟩ := hbody A outer s H Ech f c' hr3
            exact hte.can) rfl TS.va hda hca
          exact (pss_one (ps_ret (pos := p3) act)).run pinsZ sZ σZ HZ D IZ ⟨h1, h2, h3⟩
        · refine ⟨fun pinsZ sZ σZ HZ D IZ hyp => ?_⟩
          obtain ⟨n, z, ρ, st, hk, e1, e2, h1, h2, h3⟩ := hyp
          subst e1
          subst e2
          obtain ⟨vs, hv⟩ := hfl
          have B : Bears ((cxOf (L2N.CX X.prog X.w) X.prog X.w X.K X.mg X.base [a, e] x (defScope stT) g cdv X.A X.stack s' H1 L2.E0).suite ax ((ax, oe) :: pn)) ax oe := ⟨List.mem_cons_self, rfl, vs, hv, hzn.2.2 vs hv⟩
          have tm := pe_term (i := 1) (e := e) (y := y) (ya := ya) (p1 := p5) (p2 := p6) (p3 := p7) (X := (cxOf (L2N.CX X.prog X.w) X.prog X.w X.K X.mg X.base [a, e] x (defScope stT) g cdv X.A X.stack s' H1 L2.E0).suite ax ((ax, oe) :: pn)) ht B hzn.zc hk ⟨hr2.dp, hr2.un⟩ rfl TS.ve TS.gy hdy hde hce
          exact (pss_one (ps_ret (pos := p8) tm)).run pinsZ sZ σZ HZ D IZ ⟨h1, ρ, st, h2, h3⟩
        · refine ⟨TellsE X.K G.T G.C kd Q, fun cls d σ' H' te hl => ?_, rfl, hco, want H1 eN T1⟩
          obtain ⟨n, z, ρ, st, hk, e1, e2, es, hp⟩ := te
          subst e1
          refine ⟨true, hex n z hk, fun _ ax na => ⟨n, z, ρ, st, hk, rfl, e2, ?_, es, hp⟩, fun q => nomatch q⟩
          exact List.getElem?_set_self (by rw [hl]; decide)
      exact hZ _ rfl
    refine wpAny_call (codeAny_mono rc fun r s2 hq => ?_)
    cases r with
    | error e =>
      obtain ⟨_, _, _, _, _, _, _, _, _, _, _, _, z⟩ := hq
      exact z.elim
    | ok fl =>
      cases fl with
      | ret u => exact I1.after hq
      | next => exact False.elim hq
      | brk => exact False.elim hq
      | cont => exact False.elim hq
  · refine ⟨es.tabs, fun H1 eN T1 => ⟨env, ρ, st, ev.mono (frN eN), esN es eN T1, ?_⟩⟩
    unfold dTold at h
    cases q : m env st with
    | ok d st1 =>
      rw [q] at h
      exact Post.shift (frN eN) h
    | er n st1 =>
      rw [q] at h
      dsimp only at h
      cases hk : kd n with
      | none => rw [hk] at h; exact h.elim
      | some z =>
        rw [hk] at h
        exact fun ρ' H' f es' => ⟨n, z, ρ', st1, hk, rfl, rfl, es', Post.shift ((frN eN).trans f) h⟩
    | no => rw [q] at h; exact h.elim
end
end Dt

set_option Elab.async false
set_option linter.all false
set_option maxRecDepth 100000
set_option maxHeartbeats 4000000
/-! A law's ends: the kinds of errors, the def that tells, the law itself. -/
namespace Dt
open PySem PySem.Spec PyProof.Rows L2 Dn Hh
def kinds : List Str := ["InvalidChain", "InvalidNumber", "InvalidStep", "InvalidText", "TooMany", "NothingToUndo"]
def kd (n : Nat) : Option Str := kinds[n]?
/-- what isinstance says of the text's errors -/
structure KindsOk (K : PySem.W.Frag) (C : Nat → Addr) : Prop where
  ex : ∀ n z, kd n = some z → ExcC K (C n)
  one : ∀ n z j y, kd n = some z → kd j = some y → PySem.W.kitOne K (.ref (C n)) (.ref (C j)) = some (decide (j = n))
  val : ∀ n z, kd n = some z → PySem.W.kitOne K (.ref (C n)) (.type "ValueError") = some true
structure ToldOk (P : Program) (w : World) (K : PySem.W.Frag) (mg : Str → Option Value) (base : Heap) (T : List (Addr × Str)) (C : Nat → Addr) (ap : Str) (stT : Stmt) (gT : Addr) (fdT : FuncData) (cb : Addr) : Prop where
  D : Def K mg "_law_told" stT [ap] gT fdT
  S : ToldS stT ap "_law_e" "RoundError" "_law_term"
  tm : TermOk P w K mg base T C "_law_term" "_law_e" kd 0
  gb : mg "RoundError" = some (.ref cb)
  ex : ∀ n z, kd n = some z → PySem.W.exmOne K (.ref (C n)) (.ref cb) = some true
/-- the tables of a law that makes lambdas: its own -/
def lamT (P : Addr) : List (Addr × Str) := [(P, (("law" : Str) ++ ".<locals>.") ++ "<lambda>")]
/-- fun_ok, the code object known -/
theorem fun_okC {P : Program} {w : World} {K : PySem.W.Frag} {T : List (Addr × Str)} {mg : Str → Option Value} {base : Heap} {x qual : Str} {st : Stmt} {f c : Addr} {fd : FuncData} {N ps : List Str} {k : Nat} {C : Nat → Addr} {M : FN} {m : MS} {n : Nat} (F : Fun K x qual st f fd) (S : FnScope N ps (defScope st)) (hc : fd.code = .ref c) (hn : ps.length = n := by rfl)
    (hbody : ∀ (A : Around) (outer : List Env) (s : Shared) (H : Hp) (E : XK), Room k (A.deeper (envOfC qual (defScope st) s.heap.objs.size f (.ref c))) →
      ∃ t, SSs (cxOf (L2N.CX P w) P w K mg base N qual (defScope st) f (.ref c) A outer s H E) ⟨C, T, E⟩ (defBody st) t m)
    (hM : ∀ (xs : List D) (st : Sto), xs.length = n → M xs st ≠ .no → Tells st (m (startE N.length xs) st).res (M xs st)) : FnOk P w K mg base (L2N.CX P w) (k + 1) f fd ps (spM K T C n M) := by
  obtain ⟨oc, od, kV, doc, pm, an, cdv, ct, osl, rfl, lk, hcd⟩ := F.ex
  have ec : cdv = .ref c := hc
  subst ec
  refine fn_of lk hcd S (fun vs H Q E h => ?_) fun A outer s H vs Q E hr h => ?_
  · obtain ⟨xs, ρ, st, h1, h2, _⟩ := h
    rw [← h2.length, h1, hn]
  · obtain ⟨xs, ρ, st0, h1, h2, h3, h4⟩ := h
    obtain ⟨t, Tt⟩ := hbody A outer s H E hr
    refine ⟨t, Tt.pe, Tt.sd _ (startE N.length xs) ρ st0 H _ h2.start h3 ?_⟩
    have hne : M xs st0 ≠ .no := fun z => by rw [z] at h4; exact h4
    have q := Post.tells h3 (hM xs st0 h1 hne) h4
    cases e : m (startE N.length xs) st0 with
    | rt d st1 => rw [e] at q; exact q
    | nx env st1 =>
      rw [e] at q
      exact fun ρ' H' σ' f _ e1 => q ρ' H' .non f .non e1
    | er n st1 => rw [e] at q; exact q
    | bk _ _ => rw [e] at q; exact q.elim
    | ct _ _ => rw [e] at q; exact q.elim
    | no => rw [e] at q; exact q
end Dt

set_option Elab.async false
set_option linter.all false
set_option maxRecDepth 100000
set_option maxHeartbeats 4000000
/-! Mirrors run: places of a store that has grown, operations on plain data. -/
namespace Dn
open PySem L2
variable {st : Sto}
theorem at_k (l : Sto) (k : Nat) : (st ++ l)[st.length + k]? = l[k]? := by rw [List.getElem?_append_right (Nat.le_add_right _ _), Nat.add_sub_cancel_left]
theorem at_0 (l : Sto) : (st ++ l)[st.length]? = l[0]? := by rw [List.getElem?_append_right (Nat.le_refl _), Nat.sub_self]
theorem seq_k (l : Sto) (k : Nat) : Sto.seq (st ++ l) (st.length + k) = Sto.seq l k := by unfold Sto.seq; rw [at_k]
theorem seq_0 (l : Sto) : Sto.seq (st ++ l) st.length = Sto.seq l 0 := by unfold Sto.seq; rw [at_0]
theorem seq_at {n : Nat} {ds : List D} (h : st[n]? = some (.lst ds)) : Sto.seq st n = some ds := by unfold Sto.seq; rw [h]
theorem seq_c0 (ds : List D) (l : Sto) : Sto.seq (.lst ds :: l) 0 = some ds := rfl
theorem seq_cs (c : Cell) (l : Sto) (k : Nat) : Sto.seq (c :: l) (k + 1) = Sto.seq l k := rfl
theorem d_eq_int (i j : Int) (st : Sto) : eqD (.int i) (.int j) st = .ok (.bl (decide (i = j))) st := rfl
theorem d_ne_int (i j : Int) (st : Sto) : neD (.int i) (.int j) st = .ok (.bl (!decide (i = j))) st := rfl
theorem d_eq_str (i j : Str) (st : Sto) : eqD (.str i) (.str j) st = .ok (.bl (decide (i = j))) st := rfl
theorem d_ne_str (i j : Str) (st : Sto) : neD (.str i) (.str j) st = .ok (.bl (!decide (i = j))) st := rfl
theorem d_eq_bl (i j : Bool) (st : Sto) : eqD (.bl i) (.bl j) st = .ok (.bl (decide (i = j))) st := rfl
theorem d_add_int (i j : Int) (st : Sto) : addD (.int i) (.int j) st = .ok (.int (i + j)) st := rfl
theorem d_sub_int (i j : Int) (st : Sto) : subD (.int i) (.int j) st = .ok (.int (i - j)) st := rfl
theorem d_neg_int (i : Int) (st : Sto) : negD (.int i) st = .ok (.int (-i)) st := rfl
theorem d_cmp_int (g : Int → Int → Bool) (i j : Int) (st : Sto) : cmpD g (.int i) (.int j) st = .ok (.bl (g i j)) st := rfl
theorem d_mul_int {i j : Int} (h : mulOk i j = true) (st : Sto) : mulD (.int i) (.int j) st = .ok (.int (i * j)) st := by simp only [mulD, h, ↓reduceIte]
theorem d_fdiv_int {i j : Int} (h : 0 < j ∧ j.natAbs.log2 < 9000) (st : Sto) : fdivD (.int i) (.int j) st = .ok (.int (i / j)) st := by simp only [fdivD, if_pos h]
theorem d_mod_int {i j : Int} (h : 0 < j) (st : Sto) : modD (.int i) (.int j) st = .ok (.int (i % j)) st := by simp only [modD, if_pos h]
theorem d_ix_tup (ds : List D) (i : Int) (st : Sto) : ixD (.tup ds) (.int i) st = match L2.atI ds i with
  | some d => .ok d st
  | none => .no := rfl
theorem d_ix_kl (ds : List D) (i : Int) (st : Sto) : ixD (.kl ds) (.int i) st = match L2.atI ds i with
  | some d => .ok d st
  | none => .no := rfl
theorem d_ix_ref (n : Nat) (i : Int) (st : Sto) : ixD (.ref n) (.int i) st = match Sto.seq st n with
  | some ds => match L2.atI ds i with
    | some d => .ok d st
    | none => .no
  | none => .no := rfl
theorem atI_0 {α : Type} (a : α) (r : List α) : L2.atI (a :: r) 0 = some a := by
  have h : (0 : Int) < ((a :: r).length : Nat) := by rw [List.length_cons]; omega
  unfold L2.atI L2.ixN
  rw [if_pos (Int.le_refl 0), if_pos h]
  rfl
theorem atI_1 {α : Type} (a b : α) (r : List α) : L2.atI (a :: b :: r) 1 = some b := by
  have h : (1 : Int) < ((a :: b :: r).length : Nat) := by rw [List.length_cons, List.length_cons]; omega
  unfold L2.atI L2.ixN
  rw [if_pos (by decide), if_pos h]
  rfl
theorem atI_2 {α : Type} (a b c : α) (r : List α) : L2.atI (a :: b :: c :: r) 2 = some c := by
  have h : (2 : Int) < ((a :: b :: c :: r).length : Nat) := by rw [List.length_cons, List.length_cons, List.length_cons]; omega
  unfold L2.atI L2.ixN
  rw [if_pos (by decide), if_pos h]
  rfl
theorem d_atI {α : Type} (xs : List α) (k : Nat) : L2.atI xs (k : Int) = xs[k]? := by
  unfold L2.atI L2.ixN
  rw [if_pos (Int.natCast_nonneg k)]
  by_cases h : (k : Int) < (xs.length : Nat)
  · rw [if_pos h]
    rfl
  · rw [if_neg h, List.getElem?_eq_none (by omega)]
    rfl
end Dn
namespace Dn
theorem b_ft : (false == true) = false := rfl
theorem b_tt : (true == true) = true := rfl
theorem b_tf : (true == false) = false := rfl
theorem b_ff : (false == false) = true := rfl
end Dn
namespace Dn
theorem nc_0 : ((0 : Nat) : Int) = 0 := rfl
theorem nc_1 : ((1 : Nat) : Int) = 1 := rfl
theorem nc_2 : ((2 : Nat) : Int) = 2 := rfl
theorem nc_3 : ((3 : Nat) : Int) = 3 := rfl
theorem nc_4 : ((4 : Nat) : Int) = 4 := rfl
end Dn

set_option Elab.async false
set_option linter.all false
set_option maxRecDepth 100000
set_option maxHeartbeats 4000000
/-! The end of a law that makes lambdas: what the top has left. -/
namespace Dt
open PySem PySem.Spec PyProof.Rows L2 Dn Hh

/-- a def as it stands in the written part -/
structure DefIs (K : PySem.W.Frag) (x : Str) (st : Stmt) : Prop where
  ex : ∃ (f : Addr) (oc : Value) (od an : Option Addr) (kV doc pm cdv ct : Value) (osl : Array (Option Value)), PySem.W.nsIn K mainGlobals x = some (some (.ref f)) ∧
    K.lookup f = some ⟨oc, od, .func (PySem.W.fnOf x x (defArgs st) (defBody st) (defScope st) .none kV doc pm an cdv ct), osl⟩ ∧ PySem.W.codeIn K cdv x = true ∧ PySem.W.keepIn K (.ref f) = true
theorem DefIs.mk' {K : PySem.W.Frag} {x : Str} {st : Stmt} {f : Addr} {oc : Value} {od an : Option Addr} {kV doc pm cdv ct : Value} {osl : Array (Option Value)} (a : PySem.W.nsIn K mainGlobals x = some (some (.ref f)))
    (l : K.lookup f = some ⟨oc, od, .func (PySem.W.fnOf x x (defArgs st) (defBody st) (defScope st) .none kV doc pm an cdv ct), osl⟩) (c : PySem.W.codeIn K cdv x = true) (k : PySem.W.keepIn K (.ref f) = true) : DefIs K x st := ⟨_, _, _, _, _, _, _, _, _, _, a, l, c, k⟩
theorem DefIs.def {K : PySem.W.Frag} {x : Str} {st : Stmt} {h : Heap} {mg : Str → Option Value} {ps : List Str} (d : DefIs K x st) (X : K.In h) (G : h.Ns mainGlobals mg)
    (hb : ∀ (kV doc pm : Value) (an : Option Addr) (cdv ct : Value) (us : List Value), us.length = ps.length → bindArgs (PySem.W.fnOf x x (defArgs st) (defBody st) (defScope st) .none kV doc pm an cdv ct) ⟨us, []⟩ = pure (ps.zip us)) : ∃ f fd, Def K mg x st ps f fd := by
  obtain ⟨f, oc, od, an, kV, doc, pm, cdv, ct, osl, a, l, c, k⟩ := d.ex
  exact ⟨f, _, fun_mk (st := st) l c k, PySem.W.mg_of X G a, (fun_mk (st := st) l c k).binds hb⟩
/-- the law itself, its code object and its table -/
structure LawIs (K : PySem.W.Frag) (x : Str) (st : Stmt) (c P : Addr) : Prop where
  ex : ∃ (f : Addr) (oc : Value) (od an : Option Addr) (kV doc pm ct : Value) (osl : Array (Option Value)), PySem.W.nsIn K mainGlobals x = some (some (.ref f)) ∧
    K.lookup f = some ⟨oc, od, .func (PySem.W.fnOf x x (defArgs st) (defBody st) (defScope st) .none kV doc pm an (.ref c) ct), osl⟩ ∧ PySem.W.codeIn K (.ref c) x = true ∧ PySem.W.keepIn K (.ref f) = true
  hd : PySem.W.codeHdIn K c P = true
  no : K.lookup P = none
theorem LawIs.mk' {K : PySem.W.Frag} {x : Str} {st : Stmt} {f c P : Addr} {oc : Value} {od an : Option Addr} {kV doc pm ct : Value} {osl : Array (Option Value)} (a : PySem.W.nsIn K mainGlobals x = some (some (.ref f)))
    (l : K.lookup f = some ⟨oc, od, .func (PySem.W.fnOf x x (defArgs st) (defBody st) (defScope st) .none kV doc pm an (.ref c) ct), osl⟩) (cc : PySem.W.codeIn K (.ref c) x = true) (k : PySem.W.keepIn K (.ref f) = true) (hd : PySem.W.codeHdIn K c P = true) (no : K.lookup P = none) : LawIs K x st c P := ⟨⟨_, _, _, _, _, _, _, _, _, a, l, cc, k⟩, hd, no⟩
/-- an error's class in the written part; cb: the base that the telling def catches -/
structure ErrIs (K : PySem.W.Frag) (x : Str) (cb c : Addr) : Prop where
  a : PySem.W.nsIn K mainGlobals x = some (some (.ref c))
  ex : PySem.W.excIn K c [.type "ValueError", .type "Exception", .type "BaseException", .type "object"] "ValueError.__new__" = true
  kp : PySem.W.keepIn K (.ref c) = true
  sb : PySem.W.subIn K (.ref c) (.type "BaseException") = some true
  ty : PySem.W.typeIn K (.ref c) = some (.type "type")
  ga : PySem.W.findIn K (.ref c) "__getattribute__" = some (some (.builtin "BaseException.__getattribute__"))
  gg : PySem.W.findIn K (.ref c) "__getattr__" = some none
  dc : PySem.W.hasDictIn K c = true
  gc : PySem.W.findIn K (.ref c) "__class__" = some (some (.builtin "object.__class__"))
  mr : PySem.W.mroIn K c (.type "object") = some true
  sv : PySem.W.subIn K (.ref c) (.type "ValueError") = some true
  sr : PySem.W.subIn K (.ref c) (.ref cb) = some true
theorem ErrIs.exc {K : PySem.W.Frag} {x : Str} {cb c : Addr} {h : Heap} {mg : Str → Option Value} (e : ErrIs K x cb c) (X : K.In h) (G : h.Ns mainGlobals mg) : Exc K mg x c := ⟨PySem.W.mg_of X G e.a, e.ex, e.kp, e.sb, e.ty⟩
/-- .. what all of them share -/
structure ErrAll (K : PySem.W.Frag) (cb : Addr) : Prop where
  a : PySem.W.nsIn K mainGlobals "RoundError" = some (some (.ref cb))
  sb : PySem.W.subIn K (.ref cb) (.type "BaseException") = some true
  dc : PySem.W.hasDictIn K cb = true
  ty : PySem.W.typeIn K (.ref cb) = some (.type "type")
  sp : PySem.W.specialIn K (.builtin "object.__class__") "__get__" = some (some (.builtin "getset_descriptor.__get__"))
  tk : PySem.W.takesIn K (.builtin "object.__class__") = some true
def cOf (l : List Addr) (n : Nat) : Addr := l.getD n 0
theorem clsIn_some {K : PySem.W.Frag} {c : Addr} (h : PySem.W.hasDictIn K c = true) : (PySem.W.clsIn K c).isSome = true := by
  obtain ⟨cd, e, _⟩ := PySem.W.any_some h
  rw [e]
  rfl
theorem kinds_ok {K : PySem.W.Frag} {cb : Addr} {cs : List Addr} (A : ErrAll K cb) (hl : cs.length = 6) (E : ∀ n z, kd n = some z → ErrIs K z cb (cOf cs n)) (N : ∀ i j, i < 6 → j < 6 → i ≠ j → PySem.W.subIn K (.ref (cOf cs i)) (.ref (cOf cs j)) = some false ∧ cOf cs i ≠ cOf cs j) : KindsOk K (cOf cs) where
  ex := fun n z h => ⟨(E n z h).ga, (E n z h).gg, (E n z h).sb, (E n z h).dc, (E n z h).gc, A.sp, A.tk, (E n z h).mr⟩
  one := fun n z j y h h' => by
    have hn : n < 6 := (List.getElem?_eq_some_iff.mp h).1
    have hj : j < 6 := (List.getElem?_eq_some_iff.mp h').1
    unfold PySem.W.kitOne
    by_cases e : j = n
    · subst e
      rw [if_pos (beq_self_eq_true _), decide_eq_true rfl]
    · obtain ⟨n1, n2⟩ := N n j hn hj (Ne.symm e)
      rw [if_neg (fun q => n2 (Value.ref.inj (beq_iff_eq.mp q))), decide_eq_false e]
      unfold PySem.W.kitCls
      dsimp only
      rw [if_pos (by rw [clsIn_some (E j y h').dc, (E j y h').ty]; rfl)]
      exact n1
  val := fun n z h => by
    unfold PySem.W.kitOne
    rw [if_neg (by exact Bool.false_ne_true)]
    unfold PySem.W.kitCls
    dsimp only
    rw [if_pos (by decide +kernel)]
    exact (E n z h).sv
theorem codeHd_by {K : PySem.W.Frag} {c P : Addr} {o : Obj} (l : K.lookup c = some o) (h : (match (some o : Option Obj) with
  | some ⟨.type "code", _, .fields vs, _⟩ => (match (vs[11]? : Option Value) with | some (.ref P') => P' == P | _ => false) &&
      (match vs.getD 18 .none with | .str _ _ => true | _ => false) && (match vs.getD 7 .none with | .int _ _ => true | _ => false) &&
      (match vs.getD 9 .none with | .bool _ => true | _ => false) && (match vs.getD 10 .none with | .int _ _ => true | _ => false) && c != P
  | _ => false) = true) : PySem.W.codeHdIn K c P = true := by
  unfold PySem.W.codeHdIn
  rw [l]
  exact h
/-- a tuple of texts in the written part -/
structure StrsIs (K : PySem.W.Frag) (x : Str) (xs : List Str) : Prop where
  ex : ∃ (a : Addr) (od : Option Addr) (its : Array Value) (n : Nat) (osl : Array (Option Value)), PySem.W.nsIn K mainGlobals x = some (some (.ref a)) ∧ K.lookup a = some ⟨.type "tuple", od, .seq its n, osl⟩ ∧ its.size ≤ sizeLine ∧ Vals (xs.map V.str) its.toList
theorem StrsIs.mk' {K : PySem.W.Frag} {x : Str} {xs : List Str} {a : Addr} {od : Option Addr} {its : Array Value} {n : Nat} {osl : Array (Option Value)} (h1 : PySem.W.nsIn K mainGlobals x = some (some (.ref a))) (h2 : K.lookup a = some ⟨.type "tuple", od, .seq its n, osl⟩)
    (h3 : Vals (xs.map V.str) its.toList) (h4 : xs.length ≤ 1000) : StrsIs K x xs := ⟨_, _, _, _, _, h1, h2, by
  have e : xs.length = its.size := by
    have q := h3.length
    simpa using q
  rw [← e]
  exact Nat.le_trans h4 (Nat.le_trans (by decide) line5), h3⟩
theorem StrsIs.tup {K : PySem.W.Frag} {x : Str} {xs : List Str} {h : Heap} {mg : Str → Option Value} (e : StrsIs K x xs) (X : K.In h) (G : h.Ns mainGlobals mg) : KTup K mg x (.tup (xs.map D.str)) := by
  obtain ⟨a, od, its, n, osl, h1, h2, h3, h4⟩ := e.ex
  exact ⟨a, PySem.W.mg_of X G h1, fun H ρ => .tup (.inr ⟨_, its, n, h2, rfl, rfl, h3, h4⟩) evs_strs⟩
theorem kint_loose {lv : List (Str × PySem.W.WData)} {mg : Str → Option Value} {h : Heap} {p : Program} {x : Str} {i : Int} (L : PySem.W.XL p lv mg h) (hm : (x, PySem.W.WData.int i) ∈ lv) : KInt mg x i := by
  obtain ⟨v, e, r⟩ := L.2.val _ hm
  cases r with
  | int i t => exact ⟨t, e⟩
/-- the end, the loose names known -/
theorem walk_mine {l : PySem.W.OpenLaw} {n k : Nat} {q : Program} {loose : List Str} {XP : (Str → Option Value) → Heap → Prop} {YP : World → Heap → Prop} {d : DefRec} {K : Params → PySem.W.Frag} {CX : World → CXT} {x : Str}
    (hn : l.most = some n) (hn2 : n ≤ sizeLine) (hdf : d.params.defaults = []) (hr : Room k callerA) (hY : ∀ (w : World) (h : Heap), YP w h → (K w.params).In h)
    (F : ∀ (w : World) (mg : Str → Option Value) (fa : Addr) (h : Heap), YP w h → XP mg h → (K w.params).In h → h.Ns mainGlobals mg → mg d.name = some (.ref fa) → LamX.LawAtS l w (K w.params) (CX w) k n x mg fa h)
    (hCX : ∀ (w : World) (H : Hp) (s : Shared) (e : Value) (s' : Shared), CX w [] H s (fun _ _ _ => False) e s' → False) : PySem.W.WalkO q loose XP YP l.row.toRowW d [] (fun f vs => PySem.call f vs) := by
  refine Att.attach_callB hn hdf fun w s₀ s₁ mg mb fa o pm cd doc a vs ns G Y ho hd hcd hmg hobj hints hlen hbits hg => ?_
  have KX := hY w _ Y
  obtain ⟨fd, cs, sp, hT, nT, Cc, hb, hsp, hF⟩ := F w mg fa _ Y G.X KX G.T.g hmg
  exact LamX.law_callTs KX G.T.g G.T.b G.T.builtins G.T.nolimit hg hT nT Cc G.T.bmain hobj hints (Nat.le_trans hlen hn2) hr hF hb (fun H hH hS => hsp H a ns hlen hbits hH hS) fun H e s' => hCX w H s₁ e s'
theorem evs_map_int {K : PySem.W.Frag} {H : Hp} {ρ : List Addr} : ∀ ns : List Int, EVs K H ρ (ns.map D.int) (ns.map V.int)
  | [] => .nil
  | n :: ns => .cons (.int n) (evs_map_int ns)
/-- a law's promise from its mirror -/
theorem law_at {l : PySem.W.OpenLaw} {w : World} {K : PySem.W.Frag} {mg : Str → Option Value} {h : Heap} {fa c P : Addr} {k n : Nat} {x : Str} {st : Stmt} {C : Nat → Addr} {M : FN} {nm : Str} (X : K.In h) (G : h.Ns mainGlobals mg) (hfa : mg nm = some (.ref fa)) (L : LawIs K nm st c P) (hP : h.get? P = some { cls := .none, data := .fields #[] })
    (hb : ∀ (kV doc pm : Value) (an : Option Addr) (cdv ct : Value) (us : List Value), us.length = 1 → bindArgs (PySem.W.fnOf nm nm (defArgs st) (defBody st) (defScope st) .none kV doc pm an cdv ct) ⟨us, []⟩ = pure ([x].zip us))
    (hF : ∀ (f : Addr) (fd : FuncData) (base : Heap), Def K mg nm st [x] f fd → fd.code = .ref c → K.In base → base.Ns mainGlobals mg → LamX.TabB base mg c P → FnOk l.prog w K mg base (L2N.CX l.prog w) k f fd [x] (spM K (lamT P) C 1 M))
    (hM : ∀ ns : List Int, ns.length ≤ n → (∀ z ∈ ns, Builtin.Int.intBits z ≤ 1048576) → ∃ st', M [.kl (ns.map .int)] [] = .ok (.bl true) st') : LamX.LawAtS l w K (L2N.CX l.prog w) k n x mg fa h := by
  obtain ⟨f, oc, od, an, kV, doc, pm, ct, osl, a, lk, cc, kp⟩ := L.ex
  have e := hfa.symm.trans (PySem.W.mg_of X G a)
  cases e
  have Fm := fun_mk (st := st) lk cc kp
  have Df : Def K mg nm st [x] fa (PySem.W.fnOf nm nm (defArgs st) (defBody st) (defScope st) .none kV doc pm an (.ref c) ct) := ⟨Fm, hfa, Fm.binds hb⟩
  refine ⟨_, [(c, P)], spM K (lamT P) C 1 M, fun p hp => ?_, fun p hp => ?_, fun p hp => ?_, fun s u => .of_eq (hb kV doc pm an (.ref c) ct [u] rfl), fun H a ns h1 h2 h3 h4 => ?_, fun base hK hN hT => hF fa _ base Df rfl hK hN (hT (c, P) List.mem_cons_self)⟩
  · rw [List.mem_singleton.mp hp]
    exact hP
  · rw [List.mem_singleton.mp hp]
    exact L.no
  · rw [List.mem_singleton.mp hp]
    exact PySem.W.codeHd_of_K X L.hd
  · obtain ⟨st', e⟩ := hM ns h1 h2
    have hq : SqF K H [] a (ns.map V.int) := by
      rcases h4 with (z | ⟨o, z⟩) | z
      · exact .inl (.inr ⟨z, fun m => nomatch m⟩)
      · exact .inl (.inl ⟨o, z⟩)
      · exact .inr z
    refine ⟨[.kl (ns.map .int)], [], [], rfl, .cons (.kl hq (evs_map_int ns)) .nil, ⟨fun p hp => ?_, rfl, List.nodup_nil, fun i a c z => by cases z⟩, ?_⟩
    · rw [List.mem_singleton.mp hp]
      exact LamX.TabS.nil (h3 (c, P) List.mem_cons_self)
    · rw [e]
      intro ρ' H' v f ev es
      cases ev
      rfl
end Dt
namespace Dt
theorem cOf_inj {l : List PySem.Addr} (nd : l.Nodup) {i j : Nat} (hi : i < l.length) (hj : j < l.length) (e : cOf l i = cOf l j) : i = j := by
  unfold cOf at e
  rw [List.getD_eq_getElem?_getD, List.getD_eq_getElem?_getD, List.getElem?_eq_getElem hi, List.getElem?_eq_getElem hj] at e
  exact (List.getElem_inj nd).mp e
theorem errs_of {K : PySem.W.Frag} {cb : PySem.Addr} {c0 c1 c2 c3 c4 c5 : PySem.Addr} (e0 : ErrIs K "InvalidChain" cb c0) (e1 : ErrIs K "InvalidNumber" cb c1) (e2 : ErrIs K "InvalidStep" cb c2) (e3 : ErrIs K "InvalidText" cb c3) (e4 : ErrIs K "TooMany" cb c4) (e5 : ErrIs K "NothingToUndo" cb c5) :
    ∀ n z, kd n = some z → ErrIs K z cb (cOf [c0, c1, c2, c3, c4, c5] n) := by
  intro n z hk
  have hn : n < 6 := (List.getElem?_eq_some_iff.mp hk).1
  have e : n = 0 ∨ n = 1 ∨ n = 2 ∨ n = 3 ∨ n = 4 ∨ n = 5 := by omega
  rcases e with rfl | rfl | rfl | rfl | rfl | rfl <;> cases hk <;> assumption
/-- no error is another -/
theorem apart_of {K : PySem.W.Frag} {l : List PySem.Addr} (hl : l.length = 6) (nd : l.Nodup) (h : ∀ i, i < 6 → ∀ j, j < 6 → i ≠ j → PySem.W.subIn K (.ref (cOf l i)) (.ref (cOf l j)) = some false) :
    ∀ i j, i < 6 → j < 6 → i ≠ j → PySem.W.subIn K (.ref (cOf l i)) (.ref (cOf l j)) = some false ∧ cOf l i ≠ cOf l j := fun i j hi hj hne => ⟨h i hi j hj hne, fun e => hne (cOf_inj nd (by omega) (by omega) e)⟩
end Dt

set_option Elab.async false
set_option linter.all false
set_option maxRecDepth 100000
set_option maxHeartbeats 2000000
/-! f-strings: parts in a row. -/
namespace Dn
open PySem PySem.Spec PyProof.Rows L2
def fmtD : F1 := fun x st => match x with
  | .str y => if y.length ≤ sizeLine then .ok (.str y) st else .no
  | .int i => if i.natAbs.log2 < 1920 then .ok (.str (toString i)) st else .no
  | _ => .no
def dJs : List ME → Str → ME
  | [], acc => fun _ st => .ok (.str acc) st
  | m :: ms, acc => fun env st => (m env st).bind fun x st => match x with
    | .str y => if (acc ++ y).length ≤ sizeLine then dJs ms (acc ++ y) env st else .no
    | _ => .no
section
variable {X : Cx} {G : Gx}
theorem se_fmt {e : Expr} {te : TE} {me : ME} {pos : Pos} (he : SE X G e te me) : SE X G (.FormattedValue e (-1) none pos) (tFmt te) (dUn fmtD me) := ⟨pe_fmt he.pe, fun σ env ρ st H Q ev es h => by
  refine he.sd σ env ρ st H _ ev es (h.bind fun x st1 ρ1 H1 vx f1 e1 es1 h1 => ?_)
  unfold fmtD at h1
  cases e1 with
  | str y =>
    dsimp only at h1
    split at h1
    · rename_i hy
      exact .inl ⟨y, rfl, hy, h1.now (.str y) es1⟩
    · exact h1.elim
  | int i =>
    dsimp only at h1
    split at h1
    · rename_i hi
      exact .inr ⟨i, rfl, hi, h1.now (.str _) es1⟩
    · exact h1.elim
  | _ => exact h1.elim⟩
/-- the parts' judgements -/
structure SJ (X : Cx) (G : Gx) (es : List Expr) (ts : List TE) (ms : List ME) : Prop where
  pe : PJ X es ts
  sd : ∀ (acc : Str) (σ : L2.St) (env : Ev) (ρ : List Addr) (st : Sto) (H : Hp) (Q : VK), EVo X.K H ρ env σ → ES X.K G.T H ρ st → PostE X.K G H ρ Q (dJs ms acc env st) → tJs ts acc σ H fun out H1 => Q (.str out) H1
theorem sj_nil : SJ X G [] [] [] := ⟨.nil, fun acc σ env ρ st H Q ev es h => h.now (.str acc) es⟩
theorem sj_cons {e : Expr} {te : TE} {me : ME} {es : List Expr} {ts : List TE} {ms : List ME} (he : SE X G e te me) (hr : SJ X G es ts ms) : SJ X G (e :: es) (te :: ts) (me :: ms) := ⟨.cons he.pe hr.pe, fun acc σ env ρ st H Q ev es h => by
  refine he.sd σ env ρ st H _ ev es (h.bind fun x st1 ρ1 H1 vx f1 e1 es1 h1 => ?_)
  cases e1 with
  | str y =>
    dsimp only at h1
    split at h1
    · rename_i hy
      exact ⟨y, rfl, hy, hr.sd (acc ++ y) σ env ρ1 st1 H1 Q (ev.mono f1) es1 h1⟩
    · exact h1.elim
  | _ => exact h1.elim⟩
theorem se_joined {v1 v2 : Expr} {rest : List Expr} {ts : List TE} {ms : List ME} {pos : Pos} (h : SJ X G (v1 :: v2 :: rest) ts ms) : SE X G (.JoinedStr (v1 :: v2 :: rest) pos) (fun σ H Q => tJs ts Str.empty σ H fun out H1 => Q (.str out) H1) (dJs ms Str.empty) :=
  ⟨pe_joined h.pe, fun σ env ρ st H Q ev es q => h.sd Str.empty σ env ρ st H Q ev es q⟩
theorem se_joined1 {e : Expr} {te : TE} {me : ME} {pos : Pos} (h : SE X G e te me) : SE X G (.JoinedStr [e] pos) te me := ⟨pe_joined1 h.pe, h.sd⟩
end
end Dn

set_option Elab.async false
set_option linter.all false
set_option maxRecDepth 100000
set_option maxHeartbeats 2000000
/-! Dicts with flat keys in the store. -/
namespace Dn
open PySem PySem.Spec PyProof.Rows L2
section
variable {K : PySem.W.Frag} {T : List (Addr × Str)} {H : Hp} {ρ : List Addr} {st : Sto}
theorem tabs_dk {p : Addr} {xs ys : List (Key × V)} (hp : H p = some (.dK xs)) (t : LamX.Tabs T H) : LamX.Tabs T (upd H p (.dK ys)) := fun q hq => by
  obtain ⟨ps, h1, h2, h3⟩ := t q hq
  have ne : ∀ b o, H b = some o → (∀ zs, o ≠ .dK zs) → upd H p (.dK ys) b = some o := fun b o h n => by
    rw [upd_ne (fun z => n xs (by rw [z, hp] at h; exact (Option.some.inj h).symm))]
    exact h
  refine ⟨ps, ne _ _ h1 (fun _ z => nomatch z), h2, fun pos cv hc => ?_⟩
  obtain ⟨c, e1, e2⟩ := h3 pos cv hc
  exact ⟨c, e1, ne _ _ e2 (fun _ z => nomatch z)⟩
theorem Fr.writeD {p : Addr} {xs ys : List (Key × V)} (hm : p ∈ ρ) (hp : H p = some (.dK xs)) : Fr H ρ (upd H p (.dK ys)) ρ where
  pre := ⟨[], (List.append_nil _).symm⟩
  keep := fun a u h n _ => by rw [upd_ne (show a ≠ p from fun e => n (by rw [e]; exact hm))]; exact h
  tup := fun a u h => by rw [upd_ne (ne_of h hp (fun z => nomatch z))]; exact h
  frz := fun a u z h => by rw [upd_ne (ne_of h hp (fun z => nomatch z))]; exact h
  new := fun _ h n => absurd h n
theorem ES.writeD {p : Addr} {i : Nat} {xs vvs : List (Key × V)} {kvs : List (Key × D)} (e : ES K T H ρ st) (hi : ρ[i]? = some p) (hp : H p = some (.dK xs)) (hk : kvs.map (·.1) = vvs.map (·.1)) (h : EVs K H ρ (kvs.map (·.2)) (vvs.map (·.2))) : ES K T (upd H p (.dK vvs)) ρ (st.set i (.dct kvs)) where
  tabs := tabs_dk hp e.tabs
  len := by rw [List.length_set]; exact e.len
  nd := e.nd
  cell := fun j a c h1 h2 => by
    have Fw : Fr H ρ (upd H p (.dK vvs)) ρ := Fr.writeD (List.mem_of_getElem? hi) hp
    by_cases hj : j = i
    · subst hj
      rw [hi] at h1
      cases h1
      have hl : j < st.length := by rw [← e.len]; exact (List.getElem?_eq_some_iff.mp hi).1
      rw [List.getElem?_set_self hl] at h2
      cases h2
      exact ⟨vvs, upd_same, hk, h.mono Fw⟩
    · rw [List.getElem?_set_ne (Ne.symm hj)] at h2
      have hap : a ≠ p := fun z => hj (nd_get e.nd (z ▸ h1) hi)
      exact (e.cell j a c h1 h2).mono Fw fun o h _ => by rw [upd_ne hap]; exact h
theorem ES.layD {p : Addr} {kvs : List (Key × D)} {vvs : List (Key × V)} (e : ES K T H ρ st) (hp : H p = none) (hk : kvs.map (·.1) = vvs.map (·.1)) (h : EVs K H ρ (kvs.map (·.2)) (vvs.map (·.2))) : ES K T (upd H p (.dK vvs)) (ρ ++ [p]) (st ++ [.dct kvs]) where
  tabs := tabs_of (keepN hp) e.tabs
  len := by rw [List.length_append, List.length_append, e.len]; rfl
  nd := by
    rw [List.nodup_append]
    refine ⟨e.nd, by simp, fun a ha b hb z => ?_⟩
    rw [List.mem_singleton.mp hb] at z
    exact e.fresh hp (z ▸ ha)
  cell := fun i a c h1 h2 => by
    have Fl : Fr H ρ (upd H p (.dK vvs)) (ρ ++ [p]) := Fr.laidS hp
    by_cases hi : i < ρ.length
    · rw [List.getElem?_append_left hi] at h1
      rw [List.getElem?_append_left (by rw [← e.len]; exact hi)] at h2
      exact (e.cell i a c h1 h2).mono Fl fun o h _ => by rw [upd_ne (ne_of_none h hp)]; exact h
    · have hl : i = ρ.length := by
        have := (List.getElem?_eq_some_iff.mp h1).1
        rw [List.length_append, List.length_singleton] at this
        omega
      subst hl
      rw [List.getElem?_append_right (Nat.le_refl _), Nat.sub_self] at h1
      rw [e.len, List.getElem?_append_right (Nat.le_refl _), Nat.sub_self] at h2
      cases h1
      cases h2
      exact ⟨vvs, upd_same, hk, h.mono Fl⟩
end
/-! ### keys -/
def D.key : D → Option Key
  | .int i => some (.inl i)
  | .str s => some (.inr s)
  | _ => none
theorem key_of {K : PySem.W.Frag} {H : Hp} {ρ : List Addr} {d : D} {v : V} {k : Key} (e : EV K H ρ d v) (h : d.key = some k) : v = kV k := by
  cases e with
  | int i => cases h; rfl
  | str s => cases h; rfl
  | _ => cases h
def getK (kvs : List (Key × D)) (k : Key) : Option D := (kvs.find? fun kv => decide (kv.1 = k)).map (·.2)
def setK (kvs : List (Key × D)) (k : Key) (d : D) : List (Key × D) := if (kvs.any fun kv => decide (kv.1 = k)) = true then kvs.map (fun kv => if kv.1 = k then (kv.1, d) else kv) else kvs ++ [(k, d)]
section
variable {K : PySem.W.Frag} {H : Hp} {ρ : List Addr}
theorem getK_of {k : Key} : ∀ {kvs : List (Key × D)} {vvs : List (Key × V)}, kvs.map (·.1) = vvs.map (·.1) → EVs K H ρ (kvs.map (·.2)) (vvs.map (·.2)) →
    (getK kvs k = none ∧ valV vvs k = none) ∨ ∃ d v, getK kvs k = some d ∧ valV vvs k = some v ∧ EV K H ρ d v
  | [], [], _, _ => .inl ⟨rfl, rfl⟩
  | [], _ :: _, e, _ => by cases e
  | _ :: _, [], e, _ => by cases e
  | (k1, d) :: kvs, (k2, v) :: vvs, e, h => by
    rw [List.map_cons, List.map_cons] at e h
    have e1 : k1 = k2 := (List.cons.inj e).1
    subst e1
    cases h with
    | cons h1 h2 =>
      by_cases q : k1 = k
      · refine .inr ⟨d, v, ?_, valV_pos q, h1⟩
        simp [getK, List.find?_cons, q]
      · have ih := getK_of (k := k) (List.cons.inj e).2 h2
        have g1 : getK ((k1, d) :: kvs) k = getK kvs k := by simp [getK, List.find?_cons, q]
        rw [g1, valV_neg (p := (k1, v)) q]
        exact ih
theorem any_keys {k : Key} : ∀ {kvs : List (Key × D)} {vvs : List (Key × V)}, kvs.map (·.1) = vvs.map (·.1) → (kvs.any fun kv => decide (kv.1 = k)) = vvs.any fun kv => decide (kv.1 = k)
  | [], [], _ => rfl
  | [], _ :: _, e => by cases e
  | _ :: _, [], e => by cases e
  | (k1, d) :: kvs, (k2, v) :: vvs, e => by
    rw [List.map_cons, List.map_cons] at e
    have e1 : k1 = k2 := (List.cons.inj e).1
    subst e1
    rw [List.any_cons, List.any_cons, any_keys (List.cons.inj e).2]
theorem map_keys {k : Key} {d : D} {v : V} (hd : EV K H ρ d v) : ∀ {kvs : List (Key × D)} {vvs : List (Key × V)}, kvs.map (·.1) = vvs.map (·.1) → EVs K H ρ (kvs.map (·.2)) (vvs.map (·.2)) →
    (kvs.map fun kv => if kv.1 = k then (kv.1, d) else kv).map (·.1) = (vvs.map fun kv => if kv.1 = k then (kv.1, v) else kv).map (·.1) ∧ EVs K H ρ ((kvs.map fun kv => if kv.1 = k then (kv.1, d) else kv).map (·.2)) ((vvs.map fun kv => if kv.1 = k then (kv.1, v) else kv).map (·.2))
  | [], [], _, _ => ⟨rfl, .nil⟩
  | [], _ :: _, e, _ => by cases e
  | _ :: _, [], e, _ => by cases e
  | (k1, d1) :: kvs, (k2, v1) :: vvs, e, h => by
    rw [List.map_cons, List.map_cons] at e h
    have e1 : k1 = k2 := (List.cons.inj e).1
    subst e1
    cases h with
    | cons h1 h2 =>
      obtain ⟨i1, i2⟩ := map_keys (k := k) hd (List.cons.inj e).2 h2
      simp only [List.map_cons]
      by_cases q : k1 = k
      · simp only [q, if_true]
        exact ⟨by rw [i1], .cons hd i2⟩
      · simp only [q, if_false]
        exact ⟨by rw [i1], .cons h1 i2⟩
theorem setK_of {k : Key} {d : D} {v : V} {kvs : List (Key × D)} {vvs : List (Key × V)} (hd : EV K H ρ d v) (e : kvs.map (·.1) = vvs.map (·.1)) (h : EVs K H ρ (kvs.map (·.2)) (vvs.map (·.2))) :
    (setK kvs k d).map (·.1) = (putK vvs k v).map (·.1) ∧ EVs K H ρ ((setK kvs k d).map (·.2)) ((putK vvs k v).map (·.2)) := by
  unfold setK putK
  rw [any_keys e]
  by_cases q : (vvs.any fun kv => decide (kv.1 = k)) = true
  · rw [if_pos q, if_pos q]
    exact map_keys hd e h
  · rw [if_neg q, if_neg q, List.map_append, List.map_append, List.map_append, List.map_append]
    exact ⟨by rw [e]; rfl, h.append (.cons hd .nil)⟩
end
/-! ### d.get(k) -/
def dGet1 (a b : ME) : ME := fun env st => (a env st).bind fun o st => match o with
  | .ref n => match st[n]? with
    | some (.dct _) => (b env st).bind fun y st => match y.key, st[n]? with
      | some k, some (.dct kvs) => .ok ((getK kvs k).getD .non) st
      | _, _ => .no
    | _ => .no
  | _ => .no
section
variable {X : Cx} {G : Gx} {o e : Expr} {to te : TE} {mo me : ME} {apos cpos : Pos}
theorem se_get1 (hu : X.A.units + 64 < cLine) (ho : SE X G o to mo) (he : SE X G e te me) (m : M1 X o "get" apos e cpos) : SE X G (.Call (.Attribute o "get" apos) [e] [] cpos) (tDGet1 to te) (dGet1 mo me) := ⟨pe_dget1 (by omega) ho.pe he.pe m, fun σ env ρ st H Q ev es h => by
  refine ho.sd σ env ρ st H _ ev es (h.bind fun x st1 ρ1 H1 vx f1 e1 es1 h1 => ?_)
  cases e1 with
  | @ref n a hn =>
    dsimp only at h1
    split at h1
    · rename_i kvs0 q0
      obtain ⟨vv0, g0, _, _⟩ := es1.cell n a _ hn q0
      refine ⟨a, rfl, .inl ⟨vv0, .inl g0⟩, ?_⟩
      refine he.sd σ env ρ1 st1 H1 _ (ev.mono f1) es1 (h1.bind fun y st2 ρ2 H2 vy f2 e2 es2 h2 => ?_)
      split at h2
      · rename_i k kvs hk q
        obtain ⟨vvs, g1, g2, g3⟩ := es2.cell n a _ (f2.get hn) q
        have ek := key_of e2 hk
        subst ek
        refine ⟨valV vvs k, DGet.k g1, ?_⟩
        rcases getK_of (k := k) g2 g3 with ⟨z1, z2⟩ | ⟨d, v, z1, z2, z3⟩
        · rw [z1] at h2
          rw [z2]
          exact h2.now .non es2
        · rw [z1] at h2
          rw [z2]
          exact h2.now z3 es2
      · exact h2.elim
    · exact h1.elim
  | _ => exact h1.elim⟩
end
end Dn
namespace Dn
open PySem PySem.Spec PyProof.Rows L2
/-! ### {k: v for ..} -/
def dcGo (fd : Feed) (vs : List Nat) (g : MG) (t : MT) (k v : ME) (loc : Nat) : Nat → Nat → Ev → Sto → R D
  | 0, i, _, st => match fd i st with
    | some none => .ok (.ref loc) st
    | _ => .no
  | n + 1, i, env, st => match fd i st with
    | some none => .ok (.ref loc) st
    | some (some d) => (g d env st).noEr.bind fun env1 st => (t env1 st).noEr.bind fun b st => if b = true then (k env1 st).noEr.bind fun y st => (v env1 st).noEr.bind fun z st => match y.key, st[loc]? with
        | some key, some (.dct acc) => if acc.length < 100000 then dcGo fd vs g t k v loc n (i + 1) env (st.set loc (.dct (setK acc key z))) else .no
        | _, _ => .no
      else dcGo fd vs g t k v loc n (i + 1) env st
    | none => .no
def dDc (it : MI) (vs : List Nat) (g : MG) (t : MT) (k v : ME) : ME := fun env st => (it env st).bind fun f st => dcGo f.1 vs g t k v st.length f.2 0 (wipeD env vs) (st ++ [.dct []])
section
variable {X : Cx} {G : Gx} {tg : Expr} {pos : Pos}
theorem sd_dc {wi : TI} {mi : MI} {g : TG} {mg : MG} {tt : TT} {mt : MT} {tk tv : TE} {mk mv : ME} {vs : List Nat} {K : PySem.W.Frag}
    (hi : ∀ (σ : L2.St) (env : Ev) (ρ : List Addr) (st : Sto) (H : Hp) (Q : It → Hp → Prop), EVo K H ρ env σ → ES K G.T H ρ st → Post (fun H ρ (f : Feed × Nat) J => Live K G.T H ρ J f.1) K G.T G.C H ρ Q G.E (mi env st) → wi σ H Q)
    (hg : ∀ (d : D) (v : V) (σ : L2.St) (env : Ev) (ρ : List Addr) (st : Sto) (H : Hp) (Q : L2.St → Hp → Prop), EV K H ρ d v → EVo K H ρ env σ → ES K G.T H ρ st → Post (fun H ρ env σ' => EVo K H ρ env σ' ∧ L2.wipe σ' vs = L2.wipe σ vs) K G.T G.C H ρ Q L2.E0 (mg d env st) → g v σ H Q)
    (ht : ∀ (σ : L2.St) (env : Ev) (ρ : List Addr) (st : Sto) (H : Hp) (Q : Bool → Hp → Prop), EVo K H ρ env σ → ES K G.T H ρ st → PostT K G.nox H ρ Q (mt env st) → tt σ H Q)
    (hk : ∀ (σ : L2.St) (env : Ev) (ρ : List Addr) (st : Sto) (H : Hp) (Q : VK), EVo K H ρ env σ → ES K G.T H ρ st → PostE K G.nox H ρ Q (mk env st) → tk σ H Q)
    (he : ∀ (σ : L2.St) (env : Ev) (ρ : List Addr) (st : Sto) (H : Hp) (Q : VK), EVo K H ρ env σ → ES K G.T H ρ st → PostE K G.nox H ρ Q (mv env st) → tv σ H Q)
    (σ : L2.St) (env : Ev) (ρ : List Addr) (st : Sto) (H : Hp) (Q : VK) (ev : EVo K H ρ env σ) (es : ES K G.T H ρ st) (h : PostE K G H ρ Q (dDc mi vs mg mt mk mv env st)) : tDc wi g tt tk tv vs σ H Q := by
  refine hi σ env ρ st H _ ev es (h.bind fun f st1 ρ1 H1 J f1 L es1 q => ?_)
  obtain ⟨fd, n⟩ := f
  intro Dl hD
  have FD : Fr H1 ρ1 (upd H1 Dl (.dK [])) (ρ1 ++ [Dl]) := Fr.laidS hD
  have hloc : (ρ1 ++ [Dl])[st1.length]? = some Dl := es1.ref Dl
  refine ⟨fun i m H => ∃ ρ st, Fr H1 ρ1 H ρ ∧ EVo K H ρ (wipeD env vs) (L2.wipe σ vs) ∧ ES K G.T H ρ st ∧ ρ[st1.length]? = some Dl ∧ PostE K G H ρ Q (dcGo fd vs mg mt mk mv st1.length m i (wipeD env vs) st),
    ⟨n, ρ1 ++ [Dl], st1 ++ [.dct []], FD, ((ev.mono f1).mono FD).wipe vs, es1.layD hD rfl .nil, hloc, Post.shift FD q⟩, ?_⟩
  rintro i m H ⟨ρ, st, f, ev, es, hl, h⟩
  have fin : ∀ o, fd i st = some o → (o = none → PostE K G H ρ Q (.ok (.ref st1.length) st)) → o = none → (J.stop i H ∧ Q (.ref Dl) H) := fun o e hh ho => by
    subst ho
    exact ⟨L.stop H ρ st i f es e, (hh rfl).now (.ref hl) es⟩
  cases m with
  | zero =>
    unfold dcGo at h
    cases e : fd i st with
    | none => rw [e] at h; exact h.elim
    | some o =>
      rw [e] at h
      cases o with
      | none => exact .inl (fin none e (fun _ => h) rfl)
      | some d => exact h.elim
  | succ m =>
    unfold dcGo at h
    cases e : fd i st with
    | none => rw [e] at h; exact h.elim
    | some o =>
      rw [e] at h
      cases o with
      | none => exact .inl (fin none e (fun _ => h) rfl)
      | some d =>
        obtain ⟨hgo, hy⟩ := L.go H ρ st i d f es e
        refine .inr ⟨hgo, fun H' => ∃ ρ st, Fr H1 ρ1 H' ρ ∧ EVo K H' ρ (wipeD env vs) (L2.wipe σ vs) ∧ ES K G.T H' ρ st ∧ ρ[st1.length]? = some Dl ∧ PostE K G H' ρ Q (dcGo fd vs mg mt mk mv st1.length m (i + 1) (wipeD env vs) st), fun H' w => ⟨m, Nat.lt_succ_self m, w⟩, fun x H' y => ?_⟩
        obtain ⟨f2, e2, es2⟩ := hy x H' y
        have q2 := Post.shift f2 h
        dsimp only at q2
        have ww : L2.wipe (L2.wipe σ vs) vs = L2.wipe σ vs := by
          have gen : ∀ (us ws : List Nat), (∀ u ∈ us, u ∈ ws) → L2.wipe (L2.wipe σ us) ws = L2.wipe σ ws := by
            intro us
            induction us with
            | nil => intro ws _; rfl
            | cons u us ih =>
              intro ws hw
              show L2.wipe ((L2.wipe σ us).set u none) ws = _
              rw [wipe_set (hw u List.mem_cons_self)]
              exact ih ws fun z hz => hw z (List.mem_cons_of_mem _ hz)
          exact gen vs vs fun _ h => h
        refine hg d x _ (wipeD env vs) ρ st H' _ e2 (ev.mono f2) es2 (Post.noEr (q2.bind fun env3 st3 ρ3 H3 σ3 f3 r3 es3 q3 => ?_))
        obtain ⟨ev3, w3⟩ := r3
        refine ⟨by rw [w3, ww], ?_⟩
        refine ht σ3 env3 ρ3 st3 H3 _ ev3 es3 (Post.noEr (q3.bind fun b st4 ρ4 H4 b' f4 e4 es4 q4 => ?_))
        subst e4
        have f24 := f2.trans (f3.trans f4)
        cases b with
        | false => exact ⟨ρ4, st4, f.trans f24, ev.mono f24, es4, f24.get hl, q4⟩
        | true =>
          dsimp only
          rw [if_pos rfl]
          rw [if_pos rfl] at q4
          refine hk σ3 env3 ρ4 st4 H4 _ (ev3.mono f4) es4 (Post.noEr (q4.bind fun y st5 ρ5 H5 vy f5 e5 es5 q5 => ?_))
          refine he σ3 env3 ρ5 st5 H5 _ (ev3.mono (f4.trans f5)) es5 (Post.noEr (q5.bind fun z st6 ρ6 H6 vz f6 e6 es6 q6 => ?_))
          have f26 := (f24.trans f5).trans f6
          split at q6
          · rename_i key acc hkey ec
            by_cases hz : acc.length < 100000
            · rw [if_pos hz] at q6
              obtain ⟨vacc, g1, g2, g3⟩ := es6.cell st1.length Dl _ (f26.get hl) ec
              have ey := key_of (e5.mono f6) hkey
              have hlen : vacc.length = acc.length := by
                have := congrArg List.length g2
                simpa using this.symm
              obtain ⟨s1, s2⟩ := setK_of (k := key) e6 g2 g3
              have fw : Fr H6 ρ6 (upd H6 Dl (.dK (putK vacc key vz))) ρ6 := Fr.writeD (List.mem_of_getElem? (f26.get hl)) g1
              exact ⟨vacc, key, ey, g1, by rw [hlen]; exact Nat.lt_of_lt_of_le hz line5, ρ6, _, f.trans (f26.trans fw), ev.mono (f26.trans fw), es6.writeD (f26.get hl) g1 s1 s2, (f26.trans fw).get hl, Post.shift fw q6⟩
            · rw [if_neg hz] at q6
              exact q6.elim
          · exact q6.elim
theorem se_dc {kx vx iter : Expr} {ifs : List Expr} {scope : Scope} {own : List (Str × Nat)} {wi : TI} {mi : MI} {g : TG} {mg : MG} {mt : MT} {mk mv : ME} (hc : X.calm = true) (hN : X.N.Nodup) (hi : SI X G tg iter wi mi) (ok : BlkOk X.N X.env.scope scope own)
    (hg : ∀ (s : Shared) (H : Hp) (C : Addr) (cl : List (Str × Addr)) (fp : List Addr), SGO (X.blk s H scope (compEnvC scope cl C X.env) fp) G.nox (own.map (·.2)) tg g mg)
    (ht : ∀ (s : Shared) (H : Hp) (C : Addr) (cl : List (Str × Addr)) (fp : List Addr), ∃ tt, STs (X.blk s H scope (compEnvC scope cl C X.env) fp) G.nox ifs tt mt)
    (hk : ∀ (s : Shared) (H : Hp) (C : Addr) (cl : List (Str × Addr)) (fp : List Addr), ∃ te, SE (X.blk s H scope (compEnvC scope cl C X.env) fp) G.nox kx te mk)
    (he : ∀ (s : Shared) (H : Hp) (C : Addr) (cl : List (Str × Addr)) (fp : List Addr), ∃ te, SE (X.blk s H scope (compEnvC scope cl C X.env) fp) G.nox vx te mv) (hs : ∀ x, foldedSetIterable iter X.env x = pure x := by intro _; rfl) :
    SE X G (.DictComp kx vx [⟨tg, iter, ifs, 0⟩] scope pos) (tDc wi g (canT X.K G.nox mt) (canE X.K G.nox mk) (canE X.K G.nox mv) (own.map (·.2))) (dDc mi (own.map (·.2)) mg mt mk mv) :=
  ⟨pe_dc hc hN hi.pe ok (fun s H C cl fp => (hg s H C cl fp).pe) (fun s H C cl fp => let ⟨_, z⟩ := ht s H C cl fp; z.can) (fun s H C cl fp => let ⟨_, z⟩ := hk s H C cl fp; z.can) (fun s H C cl fp => let ⟨_, z⟩ := he s H C cl fp; z.can) hs, sd_dc hi.sd
    (fun d v σ env ρ st H Q => (hg X.s_0 H 0 [] []).sd d v σ env ρ st H Q) (fun σ env ρ st H Q h1 h2 h3 => ⟨env, ρ, st, h1, h2, h3⟩) (fun σ env ρ st H Q h1 h2 h3 => ⟨env, ρ, st, h1, h2, h3⟩) (fun σ env ρ st H Q h1 h2 h3 => ⟨env, ρ, st, h1, h2, h3⟩)⟩
end
end Dn

set_option Elab.async false
set_option linter.all false
set_option maxRecDepth 100000
set_option maxHeartbeats 2000000
/-! A text repeated. -/
namespace Dn
open PySem PySem.Spec PyProof.Rows L2
theorem line6 : 1000000 ≤ sizeLine := by rw [sizeLine_eq]; decide
theorem small_len {n : Nat} (h : n ≤ 1000000) : PySem.Builtin.Str.tooLong n = false := by
  unfold PySem.Builtin.Str.tooLong
  have := line6
  exact decide_eq_false (by omega)
def repS (s : Str) (k : Int) : Str := ⟨(List.replicate k.toNat s.cps).foldl (· ++ ·) #[]⟩
def rRepS : R2 := fun x y H Q => ∃ (s : Str) (k : Int), x = .str s ∧ y = .int k ∧ 2 ≤ k ∧ k ≤ 100000 ∧ 0 < s.length ∧ s.length ≤ 1000 ∧ s.length * k.toNat ≤ 1000000 ∧ (repS s k).length ≤ sizeLine ∧ Q (.str (repS s k)) H
theorem op_repS {X : Cx} : OpR X (binaryOp .Mult) rRepS := by
  intro pins s σ H x y v u Q I rx ry h
  obtain ⟨z, k, rfl, rfl, k2, k5, l0, l3, hl, hz, q⟩ := h
  obtain ⟨t, rfl⟩ := rx
  obtain ⟨t', rfl⟩ := ry
  have h1 : decide (k < -(2 ^ 63 : Int)) = false := decide_eq_false (by omega)
  have h2 : decide (k ≥ (2 ^ 63 : Int)) = false := decide_eq_false (by omega)
  refine P.mul_str (by rw [h1, h2]; rfl) (fun _ _ z2 => ?_) (fun _ _ => ?_) ?_
  · have a1 : (1000 : Int) ≤ (2 ^ 63 - 1) / k := by
      rw [Int.le_ediv_iff_mul_le (by omega)]
      omega
    omega
  · exact small_len (by omega)
  · rw [if_neg (by omega : ¬ k < 1)]
    have e1 : (k == 1) = false := by
      rw [beq_eq_false_iff_ne]
      omega
    have e2 : (z.length == 0) = false := by
      rw [beq_eq_false_iff_ne]
      omega
    rw [e1, e2]
    exact ⟨hz, .str (repS z k), H, I.tok _, ⟨_, rfl⟩, q⟩
def repD : F2 := fun x y st => match x, y with
  | .str s, .int k => if 2 ≤ k ∧ k ≤ 100000 ∧ 0 < s.length ∧ s.length ≤ 1000 ∧ s.length * k.toNat ≤ 1000000 ∧ (repS s k).length ≤ sizeLine then .ok (.str (repS s k)) st else .no
  | _, _ => .no
theorem os_rep {K : PySem.W.Frag} {G : Gx} : OpS K G rRepS repD := by
  intro x y vx vy ρ st H Q ex ey es h
  cases ex with
  | str s =>
    cases ey with
    | int k =>
      simp only [repD] at h
      split at h
      · rename_i hc
        obtain ⟨c1, c2, c3, c4, c5, c6⟩ := hc
        exact ⟨s, k, rfl, rfl, c1, c2, c3, c4, c5, c6, h.now (.str _) es⟩
      · exact h.elim
    | _ => exact h.elim
  | _ => cases ey <;> exact h.elim
end Dn

set_option Elab.async false
set_option linter.all false
set_option maxRecDepth 100000
set_option maxHeartbeats 2000000
/-! A comprehension that is bound to a name. -/
namespace Dn
open PySem PySem.Spec PyProof.Rows L2
section
variable {X : Cx} {G : Gx} {tg iter : Expr} {ifs : List Expr} {scope : Scope} {own : List (Str × Nat)} {pos spos py : Pos} {y : Str}
theorem ps_setDc {i : Nat} {kx vx : Expr} {wi : TI} {g : TG} {tt : TT} {tk tv : TE} (hc : X.calm = true) (hN : X.N.Nodup) (hy : X.N[i]? = some y) (hyl : X.env.scope.names.lookup y = some .local)
    (hsw : swapsWith (.DictComp kx vx [⟨tg, iter, ifs, 0⟩] scope pos) (some (.Name y py)) spos.line X.env = pure true) (hi : PI X tg iter wi) (ok : BlkOk X.N X.env.scope scope own)
    (hg : ∀ (s : Shared) (H : Hp) (C : Addr) (cl : List (Str × Addr)) (fp : List Addr), PG (X.blk s H scope (compEnvC scope cl C X.env) fp) tg g) (ht : ∀ (s : Shared) (H : Hp) (C : Addr) (cl : List (Str × Addr)) (fp : List Addr), PTs (X.blk s H scope (compEnvC scope cl C X.env) fp) ifs tt)
    (hk : ∀ (s : Shared) (H : Hp) (C : Addr) (cl : List (Str × Addr)) (fp : List Addr), PE (X.blk s H scope (compEnvC scope cl C X.env) fp) kx tk)
    (he : ∀ (s : Shared) (H : Hp) (C : Addr) (cl : List (Str × Addr)) (fp : List Addr), PE (X.blk s H scope (compEnvC scope cl C X.env) fp) vx tv) (hs : ∀ x, foldedSetIterable iter X.env x = pure x := by intro _; rfl) :
    PS X (.Assign [.Name y py] (.DictComp kx vx [⟨tg, iter, ifs, 0⟩] scope pos) spos) (L2.tAsg (tDc wi g tt tk tv (own.map (·.2))) (gName i)) := by
  refine ⟨fun pins s σ H D I want => ?_⟩
  rw [exec_Assign_Name_used _ _ _ _ hsw]
  refine wpAny_bind (wpAny_standAt (wpAny_bind ?_))
  show wpAny _ X.A (do let _ ← comprehension (.DictComp kx vx [⟨tg, iter, ifs, 0⟩] scope pos) scope X.env (firstIterPos [⟨tg, iter, ifs, 0⟩] pos) newDict false (eval iter X.env) (some (assign (.Name y py) X.env))) _ _ s
  have h : tDc wi g tt tk tv (own.map (·.2)) σ H (fun x H1 => gName i x σ H1 D.nx) := want
  refine wpAny_bind (thn (dc_core (Qf := fun _ s' => SP X pins D .next s') hc hN I hi ok hg ht hk he hs h fun L C s' m H' I' q hn f => ?_) fun _ s' hq => wpAny_pure (wpAny_pure hq))
  show wpAny _ _ (assign (.Name y py) X.env (.ref L)) _ _ _
  refine wpAny_assign_Name (store_ok2 (v := V.ref L) I' hN hy (.inl hyl) rfl (fun s2 I2 hyp => ?_) (.inr hyl))
  obtain ⟨a, sb, ha⟩ := hyp
  obtain ⟨f0, f1, f2, f3, f4, f5⟩ := f
  have haC : C ≠ a := ha.elim (fun z => by rw [z]; exact f1) fun z e => f4 y a z e.symm
  refine ⟨m, hn.sameBut sb haC, fun h3 sb3 => ?_⟩
  exact ⟨_, H', I2.turned (t' := s2.toks) (fun b o hb e => (sb3.2 b hb).trans e) f0 f1 f3 f4 f5, q⟩
theorem ss_setDc (i : Nat) {kx vx : Expr} {wi : TI} {mi : MI} {g : TG} {mg : MG} {mt : MT} {mk mv : ME} (hc : X.calm = true) (hN : X.N.Nodup) (hi : SI X G tg iter wi mi) (ok : BlkOk X.N X.env.scope scope own)
    (hg : ∀ (s : Shared) (H : Hp) (C : Addr) (cl : List (Str × Addr)) (fp : List Addr), SGO (X.blk s H scope (compEnvC scope cl C X.env) fp) G.nox (own.map (·.2)) tg g mg)
    (ht : ∀ (s : Shared) (H : Hp) (C : Addr) (cl : List (Str × Addr)) (fp : List Addr), ∃ tt, STs (X.blk s H scope (compEnvC scope cl C X.env) fp) G.nox ifs tt mt)
    (hk : ∀ (s : Shared) (H : Hp) (C : Addr) (cl : List (Str × Addr)) (fp : List Addr), ∃ te, SE (X.blk s H scope (compEnvC scope cl C X.env) fp) G.nox kx te mk)
    (he : ∀ (s : Shared) (H : Hp) (C : Addr) (cl : List (Str × Addr)) (fp : List Addr), ∃ te, SE (X.blk s H scope (compEnvC scope cl C X.env) fp) G.nox vx te mv) (hy : X.N[i]? = some y := by rfl) (hyl : X.env.scope.names.lookup y = some .local := by rfl)
    (hsw : swapsWith (.DictComp kx vx [⟨tg, iter, ifs, 0⟩] scope pos) (some (.Name y py)) spos.line X.env = pure true := by rfl) (hs : ∀ x, foldedSetIterable iter X.env x = pure x := by intro _; rfl) :
    SS X G (.Assign [.Name y py] (.DictComp kx vx [⟨tg, iter, ifs, 0⟩] scope pos) spos) (L2.tAsg (tDc wi g (canT X.K G.nox mt) (canE X.K G.nox mk) (canE X.K G.nox mv) (own.map (·.2))) (gName i)) (sAsg (dDc mi (own.map (·.2)) mg mt mk mv) (mName i)) :=
  ⟨ps_setDc hc hN hy hyl hsw hi.pe ok (fun s H C cl fp => (hg s H C cl fp).pe) (fun s H C cl fp => let ⟨_, z⟩ := ht s H C cl fp; z.can) (fun s H C cl fp => let ⟨_, z⟩ := hk s H C cl fp; z.can) (fun s H C cl fp => let ⟨_, z⟩ := he s H C cl fp; z.can) hs,
    fun σ env ρ st H Z ev es h => (se_dc (pos := pos) hc hN hi ok hg ht hk he hs).sd σ env ρ st H _ ev es (h.bindR fun d st1 ρ1 H1 v f e1 es1 q => q ρ1 H1 _ (Fr.refl H1 ρ1) ((ev.mono f).set e1 i) es1)⟩
theorem ss_setLc (i : Nat) {elt : Expr} {wi : TI} {mi : MI} {g : TG} {mg : MG} {mt : MT} {me : ME} (hc : X.calm = true) (hN : X.N.Nodup) (hi : SI X G tg iter wi mi) (ok : BlkOk X.N X.env.scope scope own)
    (hg : ∀ (s : Shared) (H : Hp) (C : Addr) (cl : List (Str × Addr)) (fp : List Addr), SGO (X.blk s H scope (compEnvC scope cl C X.env) fp) G.nox (own.map (·.2)) tg g mg)
    (ht : ∀ (s : Shared) (H : Hp) (C : Addr) (cl : List (Str × Addr)) (fp : List Addr), ∃ tt, STs (X.blk s H scope (compEnvC scope cl C X.env) fp) G.nox ifs tt mt)
    (he : ∀ (s : Shared) (H : Hp) (C : Addr) (cl : List (Str × Addr)) (fp : List Addr), ∃ te, SE (X.blk s H scope (compEnvC scope cl C X.env) fp) G.nox elt te me) (hy : X.N[i]? = some y := by rfl) (hyl : X.env.scope.names.lookup y = some .local := by rfl)
    (hsw : swapsWith (.ListComp elt [⟨tg, iter, ifs, 0⟩] scope pos) (some (.Name y py)) spos.line X.env = pure true := by rfl) (hs : ∀ x, foldedSetIterable iter X.env x = pure x := by intro _; rfl) :
    SS X G (.Assign [.Name y py] (.ListComp elt [⟨tg, iter, ifs, 0⟩] scope pos) spos) (L2.tAsg (tLc wi g (canT X.K G.nox mt) (canE X.K G.nox me) (own.map (·.2))) (gName i)) (sAsg (dLc mi (own.map (·.2)) mg mt me) (mName i)) :=
  ⟨ps_setLc hc hN hy hyl hsw hi.pe ok (fun s H C cl fp => (hg s H C cl fp).pe) (fun s H C cl fp => let ⟨_, z⟩ := ht s H C cl fp; z.can) (fun s H C cl fp => let ⟨_, z⟩ := he s H C cl fp; z.can) hs,
    fun σ env ρ st H Z ev es h => (se_lc (pos := pos) hc hN hi ok hg ht he hs).sd σ env ρ st H _ ev es (h.bindR fun d st1 ρ1 H1 v f e1 es1 q => q ρ1 H1 _ (Fr.refl H1 ρ1) ((ev.mono f).set e1 i) es1)⟩
end
end Dn

set_option Elab.async false
set_option linter.all false
set_option maxRecDepth 100000
set_option maxHeartbeats 2000000
/-! A def on data that names no object: told at the empty store. -/
namespace Dn
open PySem PySem.Spec PyProof.Rows L2
mutual
/-- data without objects -/
def D.pl : D → Bool
  | .tup ds => D.plAll ds
  | .ref _ => false
  | .kl _ => false
  | _ => true
def D.plAll : List D → Bool
  | [] => true
  | d :: ds => d.pl && D.plAll ds
end
section
variable {K : PySem.W.Frag} {T : List (Addr × Str)} {H H' : Hp} {ρ ρ' : List Addr} {st : Sto}
mutual
theorem EV.any : ∀ {d : D} {v : V}, d.pl = true → EV K H ρ d v → EV K H ρ' d v
  | _, _, _, .non => .non
  | _, _, _, .bl b => .bl b
  | _, _, _, .int i => .int i
  | _, _, _, .str s => .str s
  | _, _, c, .tup h r => .tup h (EVs.any (by unfold D.pl at c; exact c) r)
  | _, _, c, .ref h => by cases c
  | _, _, _, .ty n => .ty n
  | _, _, _, .ob a => .ob a
  | _, _, c, .kl h r => by cases c
theorem EVs.any : ∀ {ds : List D} {vs : List V}, D.plAll ds = true → EVs K H ρ ds vs → EVs K H ρ' ds vs
  | _, _, _, .nil => .nil
  | _, _, c, .cons h r => by
    unfold D.plAll at c
    have c' := (Bool.and_eq_true _ _).mp c
    exact .cons (EV.any c'.1 h) (EVs.any c'.2 r)
end
theorem ES.none (e : ES K T H ρ st) : ES K T H [] [] := ⟨e.tabs, rfl, List.nodup_nil, fun i a c h => by simp at h⟩
theorem Fr.of_none (f : Fr H [] H' ρ') : Fr H ρ H' ρ := ⟨⟨[], (List.append_nil _).symm⟩, fun a o h _ t => f.keep a o h List.not_mem_nil t, f.tup, f.frz, fun a h n => absurd h n⟩
theorem ES.of_none {st' : Sto} (e : ES K T H ρ st) (f : Fr H [] H' ρ') (e' : ES K T H' ρ' st') : ES K T H' ρ st :=
  ⟨e'.tabs, e.len, e.nd, fun i a c h1 h2 => (e.cell i a c h1 h2).mono f.of_none fun o h t => f.keep a o h List.not_mem_nil t⟩
def pureM (M : FN) : FN := fun xs st => if D.plAll xs = true then match M xs [] with
  | .ok d _ => if d.pl = true then .ok d st else .no
  | .er n _ => .er n st
  | .no => .no
  else .no
theorem pure_ok {M : FN} {xs : List D} {d : D} {l : Sto} (h : M xs [] = .ok d l) (st : Sto) (hx : D.plAll xs = true := by rfl) (hd : d.pl = true := by rfl) : pureM M xs st = .ok d st := by
  unfold pureM
  rw [if_pos hx, h]
  dsimp only
  rw [if_pos hd]
theorem pure_er {M : FN} {xs : List D} {n : Nat} {l : Sto} (h : M xs [] = .er n l) (st : Sto) (hx : D.plAll xs = true := by rfl) : pureM M xs st = .er n st := by
  unfold pureM
  rw [if_pos hx, h]
theorem Ok.pure {P : Program} {w : World} {mg : Str → Option Value} {base : Heap} {C : Nat → Addr} {x : Str} {ps : List Str} {n k : Nat} {M : FN} (h : Ok P w K mg base T C x ps n M k) : Ok P w K mg base T C x ps n (pureM M) k := by
  obtain ⟨f, fd, h1, h2, h3, h4⟩ := h
  refine ⟨f, fd, h1, h2, h3, h4.imp fun vs H Q E z => ?_⟩
  obtain ⟨xs, ρ, st, e1, e2, e3, e4⟩ := z
  unfold pureM at e4
  split at e4
  · rename_i hx
    refine ⟨xs, [], [], e1, e2.any hx, e3.none, ?_⟩
    cases q : M xs [] with
    | ok d l =>
      rw [q] at e4
      dsimp only at e4
      split at e4
      · rename_i hd
        intro ρ' H' v f ev es
        exact e4 ρ H' v f.of_none (ev.any hd) (e3.of_none f es)
      · exact e4.elim
    | er n l =>
      rw [q] at e4
      intro ρ' H' f es
      exact e4 ρ H' f.of_none (e3.of_none f es)
    | no => rw [q] at e4; exact e4.elim
  · exact e4.elim
end
end Dn

set_option Elab.async false
set_option linter.all false
set_option maxRecDepth 100000
set_option maxHeartbeats 2000000
/-! More to walk, more targets, more of lists. -/
namespace Dn
open PySem PySem.Spec PyProof.Rows L2 RZ
/-! ### a comprehension's target that is a tuple -/
structure SGOs (X : Cx) (G : Gx) (vs : List Nat) (es : List Expr) (g : TGs) (m : MGs) : Prop where
  pe : PGs X es g
  sd : ∀ (ds : List D) (us : List V) (σ : L2.St) (env : Ev) (ρ : List Addr) (st : Sto) (H : Hp) (Q : L2.St → Hp → Prop), EVs X.K H ρ ds us → EVo X.K H ρ env σ → ES X.K G.T H ρ st →
    Post (fun H ρ env σ' => EVo X.K H ρ env σ' ∧ L2.wipe σ' vs = L2.wipe σ vs) X.K G.T G.C H ρ Q G.E (m ds env st) → g us σ H Q
section
variable {X : Cx} {G : Gx} {e : Expr} {es : List Expr} {g : TG} {gs : TGs} {mg : MG} {mgs : MGs} {vs : List Nat} {pos : Pos}
theorem sgos_nil : SGOs X G vs [] gNil mNil := ⟨pgs_nil, fun ds us σ env ρ st H Q hd ev es h => by
  cases hd with
  | nil => exact ⟨rfl, h.now ⟨ev, rfl⟩ es⟩
  | cons _ _ => exact h.elim⟩
theorem sgos_cons (h1 : SGO X G vs e g mg) (h2 : SGOs X G vs es gs mgs) (hs : (assignEach (e :: es) X.env).map (·.2) = assign e X.env :: (assignEach es X.env).map (·.2) := by rfl) : SGOs X G vs (e :: es) (gCons g gs) (mCons mg mgs) := ⟨pgs_cons h1.pe h2.pe hs, fun ds us σ env ρ st H Q hd ev es h => by
  cases hd with
  | nil => exact h.elim
  | @cons d v ds us hd hr =>
    refine ⟨v, us, rfl, h1.sd d v σ env ρ st H _ hd ev es (h.bind fun env1 st1 ρ1 H1 σ1 f r1 es1 q => ?_)⟩
    obtain ⟨ev1, w1⟩ := r1
    refine h2.sd ds us σ1 env1 ρ1 st1 H1 Q (hr.mono f) ev1 es1 ?_
    cases hq : mgs ds env1 st1 with
    | ok env2 st2 =>
      rw [hq] at q
      intro ρ' H' σ' f' r' e'
      exact q ρ' H' σ' f' ⟨r'.1, r'.2.trans w1⟩ e'
    | er n st2 => rw [hq] at q; exact q
    | no => rw [hq] at q; exact q.elim⟩
theorem sgo_tup {k : Nat} {n : Nat} (hc : X.calm = true) (h : SGOs X G vs es gs mgs) (hn : (assignEach es X.env).length = n := by rfl) (hst : (assignEach es X.env).findIdx? (·.1) = none := by rfl) : SGO X G vs (.Tuple es k pos) (gTup X.K n gs) (mTup n mgs) :=
  ⟨pg_tup hc h.pe hn hst, fun d v σ env ρ st H Q hd ev es q => by
  cases hd with
  | @tup a ds us hq hr =>
    simp only [mTup] at q
    by_cases hl : ds.length = n
    · rw [if_pos hl] at q
      exact ⟨a, us, rfl, hq, by rw [← hr.length]; exact hl, h.sd ds us σ env ρ st H Q hr ev es q⟩
    · rw [if_neg hl] at q
      exact q.elim
  | _ => exact q.elim⟩
end
/-- a reading by what is made of data -/
def canG (K : PySem.W.Frag) (G : Gx) (vs : List Nat) (m : MG) : TG := fun v σ H Q => ∃ d env ρ st, EV K H ρ d v ∧ EVo K H ρ env σ ∧ ES K G.T H ρ st ∧ Post (fun H ρ env σ' => EVo K H ρ env σ' ∧ L2.wipe σ' vs = L2.wipe σ vs) K G.T G.C H ρ Q G.E (m d env st)
section
variable {X : Cx} {G : Gx} {vs : List Nat} {e tg : Expr} {mg : MG} {pos spos py : Pos} {y : Str}
theorem SGO.can {g : TG} (h : SGO X G vs e g mg) : PG X e (canG X.K G vs mg) := ⟨fun pins s σ H v u Q I r q => by
  obtain ⟨d, env, ρ, st, h0, h1, h2, h3⟩ := q
  exact h.pe.run pins s σ H v u Q I r (h.sd d v σ env ρ st H Q h0 h1 h2 h3)⟩
theorem se_lcT {elt iter : Expr} {ifs : List Expr} {scope : Scope} {own : List (Str × Nat)} {wi : TI} {mi : MI} {mt : MT} {me : ME} (hc : X.calm = true) (hN : X.N.Nodup) (hi : SI X G tg iter wi mi) (ok : BlkOk X.N X.env.scope scope own)
    (hg : ∀ (s : Shared) (H : Hp) (C : Addr) (cl : List (Str × Addr)) (fp : List Addr), ∃ g, SGO (X.blk s H scope (compEnvC scope cl C X.env) fp) G.nox (own.map (·.2)) tg g mg)
    (ht : ∀ (s : Shared) (H : Hp) (C : Addr) (cl : List (Str × Addr)) (fp : List Addr), ∃ tt, STs (X.blk s H scope (compEnvC scope cl C X.env) fp) G.nox ifs tt mt)
    (he : ∀ (s : Shared) (H : Hp) (C : Addr) (cl : List (Str × Addr)) (fp : List Addr), ∃ te, SE (X.blk s H scope (compEnvC scope cl C X.env) fp) G.nox elt te me) (hs : ∀ x, foldedSetIterable iter X.env x = pure x := by intro _; rfl) :
    SE X G (.ListComp elt [⟨tg, iter, ifs, 0⟩] scope pos) (tLc wi (canG X.K G.nox (own.map (·.2)) mg) (canT X.K G.nox mt) (canE X.K G.nox me) (own.map (·.2))) (dLc mi (own.map (·.2)) mg mt me) :=
  ⟨pe_lc hc hN hi.pe ok (fun s H C cl fp => let ⟨_, z⟩ := hg s H C cl fp; z.can) (fun s H C cl fp => let ⟨_, z⟩ := ht s H C cl fp; z.can) (fun s H C cl fp => let ⟨_, z⟩ := he s H C cl fp; z.can) hs, sd_lc (iter := iter) hi.sd
    (fun d v σ env ρ st H Q h0 h1 h2 h3 => ⟨d, env, ρ, st, h0, h1, h2, h3⟩) (fun σ env ρ st H Q h1 h2 h3 => ⟨env, ρ, st, h1, h2, h3⟩) (fun σ env ρ st H Q h1 h2 h3 => ⟨env, ρ, st, h1, h2, h3⟩)⟩
theorem ss_setLcT (i : Nat) {elt iter : Expr} {ifs : List Expr} {scope : Scope} {own : List (Str × Nat)} {wi : TI} {mi : MI} {mt : MT} {me : ME} (hc : X.calm = true) (hN : X.N.Nodup) (hi : SI X G tg iter wi mi) (ok : BlkOk X.N X.env.scope scope own)
    (hg : ∀ (s : Shared) (H : Hp) (C : Addr) (cl : List (Str × Addr)) (fp : List Addr), ∃ g, SGO (X.blk s H scope (compEnvC scope cl C X.env) fp) G.nox (own.map (·.2)) tg g mg)
    (ht : ∀ (s : Shared) (H : Hp) (C : Addr) (cl : List (Str × Addr)) (fp : List Addr), ∃ tt, STs (X.blk s H scope (compEnvC scope cl C X.env) fp) G.nox ifs tt mt)
    (he : ∀ (s : Shared) (H : Hp) (C : Addr) (cl : List (Str × Addr)) (fp : List Addr), ∃ te, SE (X.blk s H scope (compEnvC scope cl C X.env) fp) G.nox elt te me) (hy : X.N[i]? = some y := by rfl) (hyl : X.env.scope.names.lookup y = some .local := by rfl)
    (hsw : swapsWith (.ListComp elt [⟨tg, iter, ifs, 0⟩] scope pos) (some (.Name y py)) spos.line X.env = pure true := by rfl) (hs : ∀ x, foldedSetIterable iter X.env x = pure x := by intro _; rfl) :
    SS X G (.Assign [.Name y py] (.ListComp elt [⟨tg, iter, ifs, 0⟩] scope pos) spos) (L2.tAsg (tLc wi (canG X.K G.nox (own.map (·.2)) mg) (canT X.K G.nox mt) (canE X.K G.nox me) (own.map (·.2))) (gName i)) (sAsg (dLc mi (own.map (·.2)) mg mt me) (mName i)) :=
  ⟨ps_setLc hc hN hy hyl hsw hi.pe ok (fun s H C cl fp => let ⟨_, z⟩ := hg s H C cl fp; z.can) (fun s H C cl fp => let ⟨_, z⟩ := ht s H C cl fp; z.can) (fun s H C cl fp => let ⟨_, z⟩ := he s H C cl fp; z.can) hs,
    fun σ env ρ st H Z ev es h => (se_lcT (pos := pos) hc hN hi ok hg ht he hs).sd σ env ρ st H _ ev es (h.bindR fun d st1 ρ1 H1 v f e1 es1 q => q ρ1 H1 _ (Fr.refl H1 ρ1) ((ev.mono f).set e1 i) es1)⟩
end
/-! ### zip -/
def zipFeed (f g : Feed) : Feed := fun i st => match f i st, g i st with
  | some (some a), some (some b) => some (some (.tup [a, b]))
  | some none, some _ => some none
  | some (some _), some none => some none
  | _, _ => none
/-- a list as it is walked: where it stands, as it stood -/
def feedOf (st : Sto) : D → Option (Feed × Nat)
  | .tup ds => some (seqFeed ds, ds.length)
  | .kl ds => some (seqFeed ds, ds.length)
  | .ref n => match st[n]? with
    | some (.lst ds) => some (lstFeed n, ds.length)
    | _ => none
  | _ => none
def isTup : D → Bool
  | .tup _ => true
  | _ => false
def itZip (as : MA) : MI := fun env st => (as env st).bind fun xs st => match xs with
  | [x, y] => if isTup x = isTup y then match feedOf st x, feedOf st y with
    | some f, some g => .ok (zipFeed f.1 g.1, min f.2 g.2) st
    | _, _ => .no
    else .no
  | _ => .no
section
variable {K : PySem.W.Frag} {T : List (Addr × Str)} {H : Hp} {ρ : List Addr}
/-- what a feed tells of a list's items -/
def RdS (K : PySem.W.Frag) (T : List (Addr × Str)) (S : Hp → List V → Prop) (H0 : Hp) (ρ0 : List Addr) (f : Feed) : Prop :=
  ∀ (H : Hp) (ρ : List Addr) (st : Sto) (i : Nat) (o : Option D), Fr H0 ρ0 H ρ → ES K T H ρ st → f i st = some o → ∃ vs ds, S H vs ∧ EVs K H ρ ds vs ∧ ds[i]? = o
theorem rd_lst {a : Addr} {n : Nat} (hn : ρ[n]? = some a) : RdS K T (fun H => SqL K H a) H ρ (lstFeed n) := fun H' ρ' st i o f es e => by
  obtain ⟨ds, h1, h2⟩ := lstFeed_some e
  obtain ⟨vs, q1, q2⟩ := es.seq (f.get hn) h1
  exact ⟨vs, ds, q1, q2, h2⟩
theorem rd_kl {a : Addr} {ds : List D} {vs : List V} (hq : SqF K H ρ a vs) (r : EVs K H ρ ds vs) : RdS K T (fun H => SqL K H a) H ρ (seqFeed ds) := fun H' ρ' st i o f es e => ⟨vs, ds, (f.rf hq).l, r.mono f, Option.some.inj e⟩
theorem rd_tup {a : Addr} {ds : List D} {vs : List V} (hq : SqT K H a vs) (r : EVs K H ρ ds vs) : RdS K T (fun H => SqT K H a) H ρ (seqFeed ds) := fun H' ρ' st i o f es e => ⟨vs, ds, f.rd hq, r.mono f, Option.some.inj e⟩
theorem zip_none {f g : Feed} {i : Nat} {st : Sto} (h : zipFeed f g i st = some none) : ∃ o p, f i st = some o ∧ g i st = some p ∧ (o = none ∨ p = none) := by
  unfold zipFeed at h
  cases e1 : f i st with
  | none => rw [e1] at h; cases h
  | some o =>
    cases e2 : g i st with
    | none => rw [e1, e2] at h; cases o <;> cases h
    | some p =>
      rw [e1, e2] at h
      cases o with
      | none => exact ⟨_, _, rfl, rfl, .inl rfl⟩
      | some x =>
        cases p with
        | none => exact ⟨_, _, rfl, rfl, .inr rfl⟩
        | some y => cases h
theorem zip_some {f g : Feed} {i : Nat} {st : Sto} {d : D} (h : zipFeed f g i st = some (some d)) : ∃ x y, f i st = some (some x) ∧ g i st = some (some y) ∧ d = .tup [x, y] := by
  unfold zipFeed at h
  cases e1 : f i st with
  | none => rw [e1] at h; cases h
  | some o =>
    cases e2 : g i st with
    | none => rw [e1, e2] at h; cases o <;> cases h
    | some p =>
      rw [e1, e2] at h
      cases o with
      | none => cases h
      | some x =>
        cases p with
        | none => cases h
        | some y => cases h; exact ⟨x, y, rfl, rfl, rfl⟩
theorem live_pair {S1 S2 : Hp → List V → Prop} {J : It} {f g : Feed} (h1 : RdS K T S1 H ρ f) (h2 : RdS K T S2 H ρ g)
    (jg : ∀ i H, (∃ (xs ys : List V) (x y : V), S1 H xs ∧ S2 H ys ∧ xs[i]? = some x ∧ ys[i]? = some y) → J.go i H)
    (jy : ∀ i H v H', J.yld i H v H' → ∃ T x y, v = .ref T ∧ H T = none ∧ H' = upd H T (.tup [x, y]) ∧ (∀ xs, S1 H xs → xs[i]? = some x) ∧ ∀ ys, S2 H ys → ys[i]? = some y)
    (js : ∀ i H, (∃ xs ys : List V, S1 H xs ∧ S2 H ys ∧ (xs.length ≤ i ∨ ys.length ≤ i)) → J.stop i H) : Live K T H ρ J (zipFeed f g) := by
  refine ⟨fun H' ρ' st i fr es e => ?_, fun H' ρ' st i d fr es e => ?_⟩
  · obtain ⟨o, p, e1, e2, hh⟩ := zip_none e
    obtain ⟨vs, ds, a1, a2, a3⟩ := h1 H' ρ' st i o fr es e1
    obtain ⟨ws, es', b1, b2, b3⟩ := h2 H' ρ' st i p fr es e2
    refine js i H' ⟨vs, ws, a1, b1, ?_⟩
    rcases hh with z | z
    · subst z
      exact .inl (by rw [← a2.length]; exact List.getElem?_eq_none_iff.mp a3)
    · subst z
      exact .inr (by rw [← b2.length]; exact List.getElem?_eq_none_iff.mp b3)
  · obtain ⟨x, y, e1, e2, rfl⟩ := zip_some e
    obtain ⟨vs, ds, a1, a2, a3⟩ := h1 H' ρ' st i _ fr es e1
    obtain ⟨ws, es', b1, b2, b3⟩ := h2 H' ρ' st i _ fr es e2
    obtain ⟨v, c1, c2⟩ := a2.get a3
    obtain ⟨w, d1, d2⟩ := b2.get b3
    refine ⟨jg i H' ⟨vs, ws, v, w, a1, b1, c1, d1⟩, fun u H'' yl => ?_⟩
    obtain ⟨Ta, p, q, rfl, hT, rfl, hp, hq⟩ := jy i H' u H'' yl
    have ep := hp vs a1
    have eq := hq ws b1
    rw [c1] at ep
    rw [d1] at eq
    cases ep
    cases eq
    have fl : Fr H' ρ' (upd H' Ta (.tup [v, w])) ρ' := Fr.laid hT
    exact ⟨fl, .tup (.inl (.inl upd_same)) (.cons (c2.mono fl) (.cons (d2.mono fl) .nil)), es.laid hT⟩
/-- what is walked -/
theorem feed_of {x : D} {v : V} {st : Sto} {f : Feed} {n : Nat} (ex : EV K H ρ x v) (es : ES K T H ρ st) (h : feedOf st x = some (f, n)) :
    ∃ a, v = .ref a ∧ ((isTup x = true ∧ (∃ xs, SqT K H a xs) ∧ RdS K T (fun H => SqT K H a) H ρ f) ∨ (isTup x = false ∧ (∃ xs, SqL K H a xs) ∧ RdS K T (fun H => SqL K H a) H ρ f)) := by
  cases ex with
  | @tup a ds vs hq r =>
    cases h
    exact ⟨a, rfl, .inl ⟨rfl, ⟨vs, hq⟩, rd_tup hq r⟩⟩
  | @kl a ds vs hq r =>
    cases h
    exact ⟨a, rfl, .inr ⟨rfl, ⟨vs, hq.l⟩, rd_kl hq r⟩⟩
  | @ref n a hn =>
    unfold feedOf at h
    dsimp only at h
    cases q : st[n]? with
    | none => rw [q] at h; cases h
    | some c =>
      rw [q] at h
      cases c with
      | dct _ => cases h
      | dtt _ => cases h
      | obj _ _ => cases h
      | exc _ => cases h
      | lst ds =>
        cases h
        obtain ⟨vs, q1, q2⟩ := es.cell n a _ hn q
        exact ⟨a, rfl, .inr ⟨rfl, ⟨vs, .inl (.inl q1)⟩, rd_lst hn⟩⟩
  | _ => cases h
end
section
variable {X : Cx} {G : Gx} {a b c tg : Expr} {elts : List Expr} {tas : TA} {mas : MA} {pos p tpos : Pos} {kk : Nat}
theorem si_zip (hg : Gl X "zip") (hm : X.mg "zip" = none) (ha : SA X G [a, b] tas mas) (hs : starEach [a, b] X.env = (false, eval a X.env) :: starEach [b] X.env := by rfl) (hpl : (backTo pos (starEach [b] X.env)).any (·.1) = false := by rfl) :
    SI X G (.Tuple elts kk tpos) (.Call (.Name "zip" p) [a, b] [] pos) (iZipA X.K tas) (itZip mas) := ⟨pi_zipA hg hm ha.pe hs hpl, fun σ env ρ st H Q ev es h => by
  refine ha.sd σ env ρ st H _ ev es (h.bind fun xs st1 ρ1 H1 vs f1 e1 es1 q => ?_)
  split at q
  · rename_i x y
    split at q
    · rename_i ht
      split at q
      · rename_i f g ef eg
        cases e1 with
        | cons ex r =>
          cases r with
          | cons ey r =>
            cases r
            obtain ⟨f, n⟩ := f
            obtain ⟨g, m⟩ := g
            obtain ⟨pa, rfl, ha⟩ := feed_of ex es1 ef
            obtain ⟨pb, rfl, hb⟩ := feed_of ey es1 eg
            rcases ha with ⟨t1, ⟨us, s1⟩, r1⟩ | ⟨t1, ⟨us, s1⟩, r1⟩
            · rcases hb with ⟨t2, ⟨ws, s2⟩, r2⟩ | ⟨t2, _, _⟩
              · exact ⟨pa, pb, us, ws, rfl, .inr ⟨s1, s2, q.now (live_pair r1 r2 (fun _ _ z => z) (fun _ _ _ _ z => z) (fun _ _ z => z)) es1⟩⟩
              · rw [t1, t2] at ht
                cases ht
            · rcases hb with ⟨t2, _, _⟩ | ⟨t2, ⟨ws, s2⟩, r2⟩
              · rw [t1, t2] at ht
                cases ht
              · exact ⟨pa, pb, us, ws, rfl, .inl ⟨s1, s2, q.now (live_pair r1 r2 (fun _ _ z => z) (fun _ _ _ _ z => z) (fun _ _ z => z)) es1⟩⟩
      · exact q.elim
    · exact q.elim
  · exact q.elim⟩
/-! ### range of three -/
def rngCFeed (lo c : Int) (n : Nat) : Feed := fun i _ => some (if i < n then some (.int (lo + (i : Nat) * c)) else none)
def rngOk (i j c : Int) (n : Nat) : Bool := decide (c ≠ 0 ∧ c.natAbs < 1073741824 ∧ Builtin.Range.small i j c = true ∧ Builtin.Range.rangeSize i j c = n)
def itRng3 (as : MA) : MI := fun env st => (as env st).bind fun xs st => match xs with
  | [.int i, .int j, .int c] => if rngOk i j c (Builtin.Range.rangeSize i j c).toNat = true then .ok (rngCFeed i c (Builtin.Range.rangeSize i j c).toNat, (Builtin.Range.rangeSize i j c).toNat) st else .no
  | _ => .no
theorem live_rngC {K : PySem.W.Frag} {T : List (Addr × Str)} {H : Hp} {ρ : List Addr} {lo c : Int} {n : Nat} : Live K T H ρ (Itc lo c n) (rngCFeed lo c n) := by
  refine ⟨fun H' ρ' st i f es e => ?_, fun H' ρ' st i d f es e => ?_⟩
  · have z := Option.some.inj e
    by_cases h : i < n
    · rw [if_pos h] at z; cases z
    · exact Nat.le_of_not_lt h
  · have z := Option.some.inj e
    by_cases h : i < n
    · rw [if_pos h] at z
      cases z
      refine ⟨h, fun x H'' y => ?_⟩
      obtain ⟨e1, hy⟩ := y
      subst e1
      subst hy
      exact ⟨Fr.refl _ _, .int _, es⟩
    · rw [if_neg h] at z; cases z
theorem si_rng3 (hg : Gl X "range") (hm : X.mg "range" = none) (ha : SA X G [a, b, c] tas mas) (hs : starEach [a, b, c] X.env = (false, eval a X.env) :: starEach [b, c] X.env := by rfl)
    (hpl : (backTo pos (starEach [b, c] X.env)).any (·.1) = false := by rfl) : SI X G tg (.Call (.Name "range" p) [a, b, c] [] pos) (iRng3 tas) (itRng3 mas) := ⟨pi_range3 hg hm ha.pe hs hpl, fun σ env ρ st H Q ev es h => by
  refine ha.sd σ env ρ st H _ ev es (h.bind fun xs st1 ρ1 H1 vs f1 e1 es1 q => ?_)
  split at q
  · rename_i i j c
    split at q
    · rename_i hr
      cases e1 with
      | cons h1 r =>
        cases r with
        | cons h2 r =>
          cases r with
          | cons h3 r =>
            cases r
            cases h1
            cases h2
            cases h3
            have hr' : c ≠ 0 ∧ c.natAbs < 1073741824 ∧ Builtin.Range.small i j c = true ∧ Builtin.Range.rangeSize i j c = ((Builtin.Range.rangeSize i j c).toNat : Int) := by
              unfold rngOk at hr
              exact of_decide_eq_true hr
            exact ⟨i, j, c, _, rfl, hr', q.now live_rngC es1⟩
    · exact q.elim
  · exact q.elim⟩
end
/-! ### extend, pop -/
section
variable {K : PySem.W.Frag} {G : Gx}
def extendD : FM := fun o xs st => match o, xs with
  | .ref n, [.ref m] => match st[n]?, st[m]? with
    | some (.lst a), some (.lst b) => if a.length + b.length ≤ 100000 then .ok .non (st.set n (.lst (a ++ b))) else .no
    | _, _ => .no
  | _, _ => .no
theorem ms_extend : MtSo K G rExtend extendD := by
  intro o xs vo vs ρ st H Q eo exs es h
  unfold extendD at h
  split at h
  · rename_i n m
    split at h
    · rename_i a b e1 e2
      split at h
      · rename_i hl
        obtain ⟨p, rfl, hn⟩ := eo.ofRef
        obtain ⟨v, rfl, ev⟩ := exs.one rfl
        obtain ⟨q, rfl, hm⟩ := ev.ofRef
        obtain ⟨us, q1, q2⟩ := es.cell n p _ hn e1
        obtain ⟨ws, r1, r2⟩ := es.cell m q _ hm e2
        exact ⟨p, q, us, ws, rfl, rfl, q1, r1, by rw [← q2.length, ← r2.length]; exact Nat.le_trans hl line5, h ρ _ _ (Fr.write (List.mem_of_getElem? hn) q1) .non (es.write hn q1 (q2.append r2))⟩
      · exact h.elim
    · exact h.elim
  · exact h.elim
def popD : FM := fun o xs st => match o, xs with
  | .ref n, [] => match st[n]? with
    | some (.lst a) => match a[a.length - 1]? with
      | some d => .ok d (st.set n (.lst a.dropLast))
      | none => .no
    | _ => .no
  | _, _ => .no
theorem ms_pop : MtSo K G rPop popD := by
  intro o xs vo vs ρ st H Q eo exs es h
  unfold popD at h
  split at h
  · rename_i n
    split at h
    · rename_i a e1
      split at h
      · rename_i d e2
        obtain ⟨p, rfl, hn⟩ := eo.ofRef
        cases exs
        obtain ⟨us, q1, q2⟩ := es.cell n p _ hn e1
        obtain ⟨v, g1, g2⟩ := q2.get e2
        have fw : Fr H ρ (upd H p (.lst us.dropLast)) ρ := Fr.write (List.mem_of_getElem? hn) q1
        exact ⟨p, us, v, rfl, rfl, q1, by rw [← q2.length]; exact g1, h ρ _ _ fw (g2.mono fw) (es.write hn q1 q2.dropLast)⟩
      · exact h.elim
    · exact h.elim
  · exact h.elim
end
/-! ### a, b, c = x, y, z -/
def sPar3 (i j l : Nat) (as : MA) : MS := fun env st => (as env st).toS fun ds st => match ds with
  | [d, e, f] => .nx (((env.set i (some d)).set j (some e)).set l (some f)) st
  | _ => .no
section
variable {X : Cx} {G : Gx} {a b c : Expr} {tas : TA} {mas : MA} {pos : Pos}
theorem ss_par3 (i j l : Nat) {x y z : Str} {px py pz pt : Pos} {kt k2 pt2} (hc : X.calm = true) (hN : X.N.Nodup) (ha : SA X G [a, b, c] tas mas) (hi : X.N[i]? = some x := by rfl) (hj : X.N[j]? = some y := by rfl) (hl : X.N[l]? = some z := by rfl) (hij : i ≠ j := by decide) (hil : i ≠ l := by decide) (hjl : j ≠ l := by decide)
    (hx : X.env.scope.names.lookup x = some .local := by rfl) (hy : X.env.scope.names.lookup y = some .local := by rfl) (hz : X.env.scope.names.lookup z = some .local := by rfl)
    (hw : swappedStores [.Tuple [.Name x px, .Name y py, .Name z pz] kt pt] (.Tuple [a, b, c] k2 pt2) X.env = pure (some [x, y, z]) := by rfl)
    (hs : swapsWithSole [.Tuple [.Name x px, .Name y py, .Name z pz] kt pt] (.Tuple [a, b, c] k2 pt2) pos.line X.env = pure false := by rfl) :
    SS X G (.Assign [.Tuple [.Name x px, .Name y py, .Name z pz] kt pt] (.Tuple [a, b, c] k2 pt2) pos) (tPar3 i j l tas) (sPar3 i j l mas) := ⟨ps_par3 hc hN hi hj hl hij hil hjl hx hy hz ha.pe hw hs, fun σ env ρ st H Z ev es h => ha.sd σ env ρ st H _ ev es (h.bindR fun ds st1 ρ1 H1 vs f e1 es1 q => by
  cases e1 with
  | nil => exact q.elim
  | @cons d v ds vs e1 r1 =>
    cases r1 with
    | nil => exact q.elim
    | @cons d2 v2 ds vs e2 r2 =>
      cases r2 with
      | nil => exact q.elim
      | @cons d3 v3 ds vs e3 r3 =>
        cases r3 with
        | nil => exact ⟨v, v2, v3, rfl, q ρ1 H1 _ (Fr.refl H1 ρ1) ((((ev.mono f).set e1 i).set e2 j).set e3 l) es1⟩
        | cons _ _ => exact q.elim)⟩
end
end Dn

set_option Elab.async false
set_option linter.all false
set_option maxRecDepth 100000
set_option maxHeartbeats 2000000
/-! math.lcm of two, three, four. -/
namespace Dn
open PySem PySem.Spec PyProof.Rows L2 PySem.W PySem.Calls
theorem args_lcm3 (a b c : Value) : argsOk "math.lcm" ⟨[a, b, c], []⟩ := by unfold argsOk; kernel_rfl
theorem args_lcm4 (a b c d : Value) : argsOk "math.lcm" ⟨[a, b, c, d], []⟩ := by unfold argsOk; kernel_rfl
abbrev lcm2 (a b : Int) : Nat := (Nat.lcm 1 a.natAbs).lcm b.natAbs
abbrev lcm3 (a b c : Int) : Nat := (lcm2 a b).lcm c.natAbs
abbrev lcm4 (a b c d : Int) : Nat := (lcm3 a b c).lcm d.natAbs
theorem run_lcm3 (a : Int) (t : Tok) (b : Int) (u : Tok) (c : Int) (v : Tok) (h0 : ¬(max 1 a.natAbs).log2 / 30 + 1 > 450) (h1 : ¬(max a.natAbs b.natAbs).log2 / 30 + 1 > 450)
    (h2 : ¬(max ((Nat.lcm 1 a.natAbs).lcm b.natAbs) c.natAbs).log2 / 30 + 1 > 450) (hsz : ((((Nat.lcm 1 a.natAbs).lcm b.natAbs).lcm c.natAbs : Nat) : Int).natAbs.log2 < bitsLine) :
    Gives (Builtin.«math.lcm» ⟨[.int a t, .int b u, .int c v], []⟩) (.int ((((Nat.lcm 1 a.natAbs).lcm b.natAbs).lcm c.natAbs : Nat) : Int)) :=
  .of_wp fun M A E s Q h => by
    obtain ⟨hp, g, d, tk, os⟩ := s
    wp_walk
    refine wpAny_ite_false (decide_eq_false h2) ?_
    wp_walk
    refine wpAny_ite_false (decide_eq_false (Nat.not_le.mpr hsz)) ?_
    wp_walk
    exact ⟨_, rfl, h⟩
theorem run_lcm4 (a : Int) (t : Tok) (b : Int) (u : Tok) (c : Int) (v : Tok) (e : Int) (x : Tok) (h0 : ¬(max 1 a.natAbs).log2 / 30 + 1 > 450) (h1 : ¬(max a.natAbs b.natAbs).log2 / 30 + 1 > 450)
    (h2 : ¬(max ((Nat.lcm 1 a.natAbs).lcm b.natAbs) c.natAbs).log2 / 30 + 1 > 450) (h3 : ¬(max (((Nat.lcm 1 a.natAbs).lcm b.natAbs).lcm c.natAbs) e.natAbs).log2 / 30 + 1 > 450)
    (hsz : (((((Nat.lcm 1 a.natAbs).lcm b.natAbs).lcm c.natAbs).lcm e.natAbs : Nat) : Int).natAbs.log2 < bitsLine) :
    Gives (Builtin.«math.lcm» ⟨[.int a t, .int b u, .int c v, .int e x], []⟩) (.int (((((Nat.lcm 1 a.natAbs).lcm b.natAbs).lcm c.natAbs).lcm e.natAbs : Nat) : Int)) :=
  .of_wp fun M A E s Q h => by
    obtain ⟨hp, g, d, tk, os⟩ := s
    wp_walk
    refine wpAny_ite_false (decide_eq_false h2) ?_
    wp_walk
    refine wpAny_ite_false (decide_eq_false h3) ?_
    wp_walk
    refine wpAny_ite_false (decide_eq_false (Nat.not_le.mpr hsz)) ?_
    wp_walk
    exact ⟨_, rfl, h⟩
def rLcm : List V → Hp → VK → Prop := fun vs H Q =>
  (∃ a b : Int, vs = [.int a, .int b] ∧ a.natAbs.log2 < 3000 ∧ b.natAbs.log2 < 3000 ∧ Q (.int (((Nat.lcm 1 a.natAbs).lcm b.natAbs : Nat) : Int)) H) ∨
  (∃ a b c : Int, vs = [.int a, .int b, .int c] ∧ a.natAbs.log2 < 3000 ∧ b.natAbs.log2 < 3000 ∧ c.natAbs.log2 < 3000 ∧ Q (.int ((((Nat.lcm 1 a.natAbs).lcm b.natAbs).lcm c.natAbs : Nat) : Int)) H) ∨
  (∃ a b c d : Int, vs = [.int a, .int b, .int c, .int d] ∧ a.natAbs.log2 < 3000 ∧ b.natAbs.log2 < 3000 ∧ c.natAbs.log2 < 3000 ∧ d.natAbs.log2 < 3000 ∧ Q (.int (((((Nat.lcm 1 a.natAbs).lcm b.natAbs).lcm c.natAbs).lcm d.natAbs : Nat) : Int)) H)
theorem lt2 {x k : Nat} (h : x.log2 < k) : x < 2 ^ k := by
  by_cases z : x = 0
  · rw [z]
    exact Nat.two_pow_pos k
  · exact (Nat.log2_lt z).mp h
theorem log_of {x k : Nat} (h : x < 2 ^ k) (hk : 0 < k) : x.log2 < k := by
  by_cases z : x = 0
  · rw [z]
    exact hk
  · exact (Nat.log2_lt z).mpr h
theorem lcm_lt {x y k m : Nat} (h : x < 2 ^ k) (h' : y < 2 ^ m) : x.lcm y < 2 ^ (k + m) := by
  have e : x.lcm y ≤ x * y := Nat.div_le_self _ _
  rw [Nat.pow_add]
  exact Nat.lt_of_le_of_lt e (Nat.mul_lt_mul'' h h')
theorem pow_up {x k m : Nat} (h : x < 2 ^ k) (hm : k ≤ m) : x < 2 ^ m := Nat.lt_of_lt_of_le h (Nat.pow_le_pow_right (by decide) hm)
theorem no450 {x y : Nat} (h : x < 2 ^ 9001) (h' : y < 2 ^ 9001) : ¬(max x y).log2 / 30 + 1 > 450 := by
  have : max x y < 2 ^ 9001 := Nat.max_lt.mpr ⟨h, h'⟩
  have := log_of this (by decide)
  omega
theorem fits {x k : Nat} (h : x < 2 ^ k) (hk : 0 < k) (hb : k ≤ 20000) : ((x : Nat) : Int).natAbs.log2 < bitsLine := by
  have := log_of h hk
  have e : bitsLine = 134217728 := by decide +kernel
  rw [Int.natAbs_natCast, e]
  omega
variable {X : Cx}
theorem cr_lcm : CallR X (.builtin "math.lcm") rLcm := by
  intro pins s σ H vs us Q I r h
  have one : (1 : Nat) < 2 ^ 9001 := Nat.one_lt_two_pow (by decide)
  have u9 : ∀ {x : Nat}, x < 2 ^ 3000 → x < 2 ^ 9001 := fun h => pow_up h (by decide)
  have la : ∀ {a : Int}, a.natAbs < 2 ^ 3000 → (Nat.lcm 1 a.natAbs) < 2 ^ 3000 := fun h => by rw [Nat.lcm_one_left]; exact h
  rcases h with ⟨a, b, rfl, ha, hb, q⟩ | ⟨a, b, c, rfl, ha, hb, hc, q⟩ | ⟨a, b, c, d, rfl, ha, hb, hc, hd, q⟩
  · obtain ⟨t, u, rfl⟩ := Vals.int2 r
    have l2 := lcm_lt (la (lt2 ha)) (lt2 hb)
    exact call_function_meets MGF.kind_lcm MGF.plain_lcm MGF.entry_lcm (MGF.args_lcm _ _) (mg_run_lcm a t b u (no450 one (u9 (lt2 ha))) (no450 (u9 (lt2 ha)) (u9 (lt2 hb))) (fits l2 (by decide) (by decide))).meets ⟨.int _, H, I.tok _, ⟨_, rfl⟩, q⟩
  · cases r with
    | cons r1 r =>
      obtain ⟨u2, u3, rfl, r2, r3⟩ := vals2 r
      obtain ⟨t, rfl⟩ := r1
      obtain ⟨u, rfl⟩ := r2
      obtain ⟨v, rfl⟩ := r3
      have l2 := lcm_lt (la (lt2 ha)) (lt2 hb)
      have l3 := lcm_lt l2 (lt2 hc)
      exact call_function_meets MGF.kind_lcm MGF.plain_lcm MGF.entry_lcm (args_lcm3 _ _ _) (run_lcm3 a t b u c v (no450 one (u9 (lt2 ha))) (no450 (u9 (lt2 ha)) (u9 (lt2 hb))) (no450 (pow_up l2 (by decide)) (u9 (lt2 hc))) (fits l3 (by decide) (by decide))).meets ⟨.int _, H, I.tok _, ⟨_, rfl⟩, q⟩
  · cases r with
    | cons r1 r =>
      cases r with
      | cons r2 r =>
        obtain ⟨u3, u4, rfl, r3, r4⟩ := vals2 r
        obtain ⟨t, rfl⟩ := r1
        obtain ⟨u, rfl⟩ := r2
        obtain ⟨v, rfl⟩ := r3
        obtain ⟨x, rfl⟩ := r4
        have l2 := lcm_lt (la (lt2 ha)) (lt2 hb)
        have l3 := lcm_lt l2 (lt2 hc)
        have l4 := lcm_lt l3 (lt2 hd)
        exact call_function_meets MGF.kind_lcm MGF.plain_lcm MGF.entry_lcm (args_lcm4 _ _ _ _) (run_lcm4 a t b u c v d x (no450 one (u9 (lt2 ha))) (no450 (u9 (lt2 ha)) (u9 (lt2 hb))) (no450 (pow_up l2 (by decide)) (u9 (lt2 hc))) (no450 (pow_up l3 (by decide)) (u9 (lt2 hd))) (fits l4 (by decide) (by decide))).meets ⟨.int _, H, I.tok _, ⟨_, rfl⟩, q⟩
def lcmD : FN := fun xs st => match xs with
  | [.int a, .int b] => if a.natAbs.log2 < 3000 ∧ b.natAbs.log2 < 3000 then .ok (.int ((a.natAbs.lcm b.natAbs : Nat) : Int)) st else .no
  | [.int a, .int b, .int c] => if a.natAbs.log2 < 3000 ∧ b.natAbs.log2 < 3000 ∧ c.natAbs.log2 < 3000 then .ok (.int (((a.natAbs.lcm b.natAbs).lcm c.natAbs : Nat) : Int)) st else .no
  | [.int a, .int b, .int c, .int d] => if a.natAbs.log2 < 3000 ∧ b.natAbs.log2 < 3000 ∧ c.natAbs.log2 < 3000 ∧ d.natAbs.log2 < 3000 then .ok (.int ((((a.natAbs.lcm b.natAbs).lcm c.natAbs).lcm d.natAbs : Nat) : Int)) st else .no
  | _ => .no
theorem cs_lcm {K : PySem.W.Frag} {G : Gx} : CallS K G rLcm lcmD := by
  intro xs vs ρ st H Q e es h
  unfold lcmD at h
  split at h
  · rename_i a b
    split at h
    · rename_i hc
      obtain ⟨v, w, rfl, ev, ew⟩ := e.two
      cases ev.ofInt
      cases ew.ofInt
      refine .inl ⟨a, b, rfl, hc.1, hc.2, ?_⟩
      rw [Nat.lcm_one_left]
      exact h.now (.int _) es
    · exact h.elim
  · rename_i a b c
    split at h
    · rename_i hc
      cases e with
      | cons e1 r =>
        obtain ⟨v, w, rfl, ev, ew⟩ := r.two
        cases e1.ofInt
        cases ev.ofInt
        cases ew.ofInt
        refine .inr (.inl ⟨a, b, c, rfl, hc.1, hc.2.1, hc.2.2, ?_⟩)
        rw [Nat.lcm_one_left]
        exact h.now (.int _) es
    · exact h.elim
  · rename_i a b c d
    split at h
    · rename_i hc
      cases e with
      | cons e1 r =>
        cases r with
        | cons e2 r =>
          obtain ⟨v, w, rfl, ev, ew⟩ := r.two
          cases e1.ofInt
          cases e2.ofInt
          cases ev.ofInt
          cases ew.ofInt
          refine .inr (.inr ⟨a, b, c, d, rfl, hc.1, hc.2.1, hc.2.2.1, hc.2.2.2, ?_⟩)
          rw [Nat.lcm_one_left]
          exact h.now (.int _) es
    · exact h.elim
  · exact h.elim
end Dn

set_option Elab.async false
set_option linter.all false
set_option maxRecDepth 100000
set_option maxHeartbeats 4000000
/-! sorted of tuples that are told apart by their first two ints; of ints. -/
namespace Sd
open PySem PySem.Spec PyProof.Rows L2 SrtO
section
variable {α β : Type}
abbrev KV (α : Type) := (Int × Int) × α
def ins (x : KV α) : List (KV α) → List (KV α)
  | [] => [x]
  | y :: l => if lexB x.1 y.1 = true then x :: y :: l else y :: ins x l
def isort : List (KV α) → List (KV α)
  | [] => []
  | x :: l => ins x (isort l)
theorem ins_perm (x : KV α) : ∀ l : List (KV α), (ins x l).Perm (x :: l)
  | [] => List.Perm.refl _
  | y :: l => by
    unfold ins
    split
    · exact List.Perm.refl _
    · exact ((ins_perm x l).cons y).trans (List.Perm.swap x y l)
theorem isort_perm : ∀ l : List (KV α), (isort l).Perm l
  | [] => List.Perm.refl _
  | x :: l => (ins_perm x (isort l)).trans ((isort_perm l).cons x)
abbrev Le (x y : KV α) : Prop := lexB y.1 x.1 = false
theorem le_lt {p q : Int × Int} (h : lexB p q = true) : lexB q p = false := by
  have a := lexB_iff.mp h
  refine lexB_no.mpr ?_
  omega
theorem le_tr {p q r : Int × Int} (h : lexB q p = false) (h' : lexB r q = false) : lexB r p = false := by
  have a := lexB_no.mp h
  have b := lexB_no.mp h'
  refine lexB_no.mpr ?_
  omega
theorem ins_sorted (x : KV α) : ∀ {l : List (KV α)}, l.Pairwise Le → (ins x l).Pairwise Le
  | [], _ => List.pairwise_singleton _ _
  | y :: l, h => by
    have hy := List.pairwise_cons.mp h
    unfold ins
    split
    · rename_i hx
      refine List.pairwise_cons.mpr ⟨fun z hz => ?_, h⟩
      rcases List.mem_cons.mp hz with e | hz
      · rw [e]
        exact le_lt hx
      · exact le_tr (le_lt hx) (hy.1 z hz)
    · rename_i hx
      refine List.pairwise_cons.mpr ⟨fun z hz => ?_, ins_sorted x hy.2⟩
      rcases List.mem_cons.mp ((ins_perm x l).mem_iff.mp hz) with e | hz
      · rw [e]
        exact Bool.eq_false_iff.mpr hx
      · exact hy.1 z hz
theorem isort_sorted : ∀ l : List (KV α), (isort l).Pairwise Le
  | [] => List.Pairwise.nil
  | x :: l => ins_sorted x (isort_sorted l)
theorem ins_cons (x y : KV α) (l : List (KV α)) : ins x (y :: l) = if lexB x.1 y.1 = true then x :: y :: l else y :: ins x l := rfl
theorem ins_map (f : α → β) (x : KV α) : ∀ l : List (KV α), (ins x l).map (fun z => (z.1, f z.2)) = ins (x.1, f x.2) (l.map fun z => (z.1, f z.2))
  | [] => rfl
  | y :: l => by
    rw [List.map_cons, ins_cons, ins_cons]
    by_cases h : lexB x.1 y.1 = true
    · rw [if_pos h, if_pos (show lexB (x.1, f x.2).1 (y.1, f y.2).1 = true from h)]
      rfl
    · rw [if_neg h, if_neg (show ¬ lexB (x.1, f x.2).1 (y.1, f y.2).1 = true from h), List.map_cons, ins_map f x l]
theorem isort_map (f : α → β) : ∀ l : List (KV α), (isort l).map (fun z => (z.1, f z.2)) = isort (l.map fun z => (z.1, f z.2))
  | [] => rfl
  | x :: l => by
    show (ins x (isort l)).map _ = ins _ _
    rw [ins_map, isort_map f l]
/-- keys told apart -/
def distinct : List (Int × Int) → Bool
  | [] => true
  | k :: ks => ks.all (fun j => !decide (j.1 = k.1 ∧ j.2 = k.2)) && distinct ks
theorem distinct_nodup : ∀ {ks : List (Int × Int)}, distinct ks = true → ks.Nodup
  | [], _ => List.nodup_nil
  | k :: ks, h => by
    unfold distinct at h
    rw [Bool.and_eq_true] at h
    refine List.nodup_cons.mpr ⟨fun hm => ?_, distinct_nodup h.2⟩
    have z := List.all_eq_true.mp h.1 k hm
    simp at z
end
/-! ### in the heap -/
def IsPre (h : Heap) (v : Value) (k : Int × Int) : Prop := ∃ a o t u r n, v = .ref a ∧ h.get? a = some o ∧ o.cls = .type "tuple" ∧ o.data = .seq (List.toArray (.int k.1 t :: .int k.2 u :: r)) n
theorem IsPre.keeps {h h' : Heap} {v : Value} {k : Int × Int} (p : IsPre h v k) (kp : ∀ b o, h.get? b = some o → o.cls = .type "tuple" → h'.get? b = some o) : IsPre h' v k := by
  obtain ⟨a, o, t, u, r, n, e, ho, hc, hd⟩ := p
  exact ⟨a, o, t, u, r, n, e, kp _ _ ho hc, hc, hd⟩
theorem IsPre.uniq {h : Heap} {v : Value} {k j : Int × Int} (p : IsPre h v k) (q : IsPre h v j) : k = j := by
  obtain ⟨a, o, t, u, r, n, e, ho, hc, hd⟩ := p
  obtain ⟨a', o', t', u', r', n', e', ho', hc', hd'⟩ := q
  rw [e] at e'
  cases e'
  rw [ho] at ho'
  cases ho'
  rw [hd] at hd'
  have z := (Data.seq.inj hd').1
  have z2 := List.toArray_inj z
  have z3 := List.cons.inj z2
  have z4 := List.cons.inj z3.2
  have i1 := (Value.int.inj z3.1).1
  have i2 := (Value.int.inj z4.1).1
  exact Prod.ext i1 i2
section
variable {prog : Program} {w : World} {A : Around} {E : Value → Shared → Prop} {s : Shared}
theorem kat_same {b : Bool} {fin : Bool} {Q : Bool → Shared → Prop} (h : Q fin s) : ∀ (l : List Value) (i : Nat), PySem.W.KatLex prog w A b fin Q (l.zip l) i s
  | [], i => PySem.W.kat_nil h
  | v :: l, i => PySem.W.kat_cons (SeqAt.EqAt.same v prog w _ _ (PySem.W.kat_yes (kat_same h l (i + 1))))
theorem pre_cmp {vs : List Value} {k : Value → Int × Int} (hp : ∀ v ∈ vs, IsPre s.heap v (k v)) (hi : ∀ v ∈ vs, ∀ u ∈ vs, k v = k u → v = u) : Cmp prog w A s (tuples' true) (fun p => p.1 ∈ vs) (lt2 fun v u => lexB (k v) (k u)) := by
  intro p q hm hm'
  have h1 := hp _ hm
  have h2 := hp _ hm'
  have h3 := hi _ hm _ hm'
  show wpAny (model prog w) A (keyLt' (tuples' true) p.1 q.1) (fun r s' => s' = s ∧ r = lexB (k p.1) (k q.1)) (fun _ _ => False) s
  by_cases e : p.1 = q.1
  · rw [e] at h1 ⊢
    obtain ⟨a, o, t, u, r, n, e1, ho, hc, hd⟩ := h2
    rw [e1]
    refine PySem.W.kat_lt ho hd ho hd (kat_same ⟨rfl, ?_⟩ _ 0)
    have z : lexB (k (Value.ref a)) (k (Value.ref a)) = false := lexB_no.mpr (by omega)
    rw [z]
    exact decide_eq_false (Nat.lt_irrefl _)
  · have hne : ¬ (k p.1 = k q.1) := fun z => e (h3 z)
    unfold lexB
    obtain ⟨a, o, t, u, r, n, e1, ho, hc, hd⟩ := h1
    obtain ⟨a', o', t', u', r', n', e1', ho', hc', hd'⟩ := h2
    generalize k p.1 = kp at *
    generalize k q.1 = kq at *
    obtain ⟨x, y⟩ := kp
    obtain ⟨x', y'⟩ := kq
    rw [e1, e1']
    refine PySem.W.kat_lt ho hd ho' hd' ?_
    show PySem.W.KatLex prog w A true _ _ ((.int x t, .int x' t') :: (.int y u, .int y' u') :: r.zip r') 0 s
    refine PySem.W.kat_cons (SeqAt.EqAt.int_int x t x' t' prog w _ _ ?_)
    refine PySem.W.kat_go (fun e1 => ?_) (fun e1 => ?_)
    · have ex : x = x' := by simpa using e1
      refine PySem.W.kat_yes (PySem.W.kat_cons (SeqAt.EqAt.int_int y u y' u' prog w _ _ ?_))
      refine PySem.W.kat_go (fun e2 => ?_) (fun e2 => ?_)
      · exfalso
        have ey : y = y' := by simpa using e2
        exact hne (by rw [ex, ey])
      · have e3 : (if x = x' then decide (y < y') else decide (x < x')) = decide (y < y') := if_pos ex
        refine PySem.W.kat_no (PySem.W.kat_one _ _ (PyProof.Rows.lt_int ?_))
        exact (show s = s ∧ decide (y < y') = (if x = x' then decide (y < y') else decide (x < x')) from ⟨rfl, e3.symm⟩)
    · have ex : ¬ x = x' := by simpa using e1
      have e3 : (if x = x' then decide (y < y') else decide (x < x')) = decide (x < x') := if_neg ex
      exact PySem.W.kat_no (oneLt_int ⟨rfl, e3.symm⟩)
theorem pre_firsts {h : Heap} : ∀ {vs : List Value}, (∀ v ∈ vs, ∃ k, IsPre h v k) → ∃ fs : List Value, PySem.W.KatTups h vs fs ∧ fs.length = vs.length ∧ ∀ f ∈ fs, ∃ x t, f = Value.int x t
  | [], _ => ⟨[], PySem.W.KatTups.nil, rfl, fun _ hm => by simp at hm⟩
  | v :: vs, hp => by
    obtain ⟨fs, h1, h2, h3⟩ := pre_firsts (vs := vs) fun v' hm => hp v' (List.mem_cons_of_mem _ hm)
    obtain ⟨k, a, o, t, u, r, n, e, ho, hc, hd⟩ := hp v (List.mem_cons_self ..)
    subst e
    refine ⟨.int k.1 t :: fs, PySem.W.KatTups.cons ho hc hd rfl h1, by rw [List.length_cons, List.length_cons, h2], fun f hm => ?_⟩
    rcases List.mem_cons.mp hm with rfl | hm
    · exact ⟨k.1, t, rfl⟩
    · exact h3 f hm
theorem pre_sortable {a : Addr} {vs : List Value} {k : Value → Int × Int} (h0 : 0 < vs.length) (hp : ∀ v ∈ vs, IsPre s.heap v (k v)) (hi : ∀ v ∈ vs, ∀ u ∈ vs, k v = k u → v = u) (ha : ∀ o, s.heap.get? a = some o → o.cls ≠ .type "tuple") : SortableO prog w A s a vs fun v u => lexB (k v) (k u) := by
  intro h' keep
  have hp' : ∀ v ∈ vs, IsPre h' v (k v) := fun v hm => (hp v hm).keeps fun b o e c => keep b o (fun z => by subst z; exact ha o e c) e
  obtain ⟨fs, h1, h2, h3⟩ := pre_firsts fun v hm => ⟨_, hp' v hm⟩
  refine ⟨tuples' true, fun Q E hq => ?_, pre_cmp hp' hi⟩
  refine PySem.W.kat_kind (T := .type "int") h1 (by omega) (fun f hm => ?_) (by rfl) ?_
  · obtain ⟨x, t, rfl⟩ := h3 f hm
    exact PySem.W.Looks.now
  · have e : (Value.type "int" != Value.type "tuple") = true := by first | decide +kernel | rfl | decide
    rw [e]
    exact hq
theorem sorted_pre {l : Addr} {vs : List Value} {k : Value → Int × Int} {Q : Value → Shared → Prop} (hl : s.heap.IsList l vs.toArray) (hz : vs.length ≤ sizeLine) (hp : ∀ v ∈ vs, IsPre s.heap v (k v)) (hi : ∀ v ∈ vs, ∀ u ∈ vs, k v = k u → v = u)
    (h : ∀ (h' : Heap) (d : Addr) (out : List Value), Srtd (fun v u => lexB (k v) (k u)) out → Stb (fun v u => lexB (k v) (k u)) out vs → (∀ b o, s.heap.get? b = some o → h'.get? b = some o) → s.heap.objs.size ≤ d → (∃ n, h'.get? d = some (seqObj "list" out.toArray n)) → Q (.ref d) { s with heap := h' }) :
    wpAny (model prog w) A (call (.builtin "sorted") [.ref l]) Q E s := by
  refine sorted_ord (swo_lex k) hl hz (fun h2 h₁ a ha kk => ?_) fun out hs hb => ?_
  · refine pre_sortable (s := { s with heap := h₁ }) (by omega) (fun v hm => (hp v hm).keeps fun b o e _ => (kk b o e).2) hi fun o e => ?_
    have e' : some o = some (seqObj "list" vs.toArray 0) := e.symm.trans ha
    cases e'
    intro c
    exact absurd (Value.type.inj c) (by decide)
  · exact h _ _ out hs hb (fun b o e => sortedAll_old e) (Nat.le_succ _) (sortedAll_at s.heap vs out.toArray)
end
/-! ### as a rule -/
section
variable {X : Cx}
/-- sorted(xs), xs tuples that begin with two ints, told apart by them: these ints are ks -/
def rSortedPre (K : PySem.W.Frag) : List V → Hp → VK → Prop := fun vs H Q => ∃ (a : Addr) (xs : List V) (ks : List (Int × Int)), vs = [V.ref a] ∧ SqL K H a xs ∧ ks.length = xs.length ∧ ks.Nodup ∧
  (∀ z ∈ ks.zip xs, ∃ (t : Addr) (r : List V), z.2 = V.ref t ∧ SqT K H t (.int z.1.1 :: .int z.1.2 :: r)) ∧ ∀ p, H p = none → Q (.ref p) (upd H p (.lst ((isort (ks.zip xs)).map (·.2))))
theorem zip_fst {α β : Type} : ∀ {ks : List α} {xs : List β}, ks.length = xs.length → (ks.zip xs).map (·.1) = ks
  | [], [], _ => rfl
  | [], _ :: _, h => by cases h
  | _ :: _, [], h => by cases h
  | k :: ks, x :: xs, h => by
    show k :: (ks.zip xs).map (·.1) = k :: ks
    rw [zip_fst (by simpa using h)]
theorem zip_snd {α β : Type} : ∀ {ks : List α} {xs : List β}, ks.length = xs.length → (ks.zip xs).map (·.2) = xs
  | [], [], _ => rfl
  | [], _ :: _, h => by cases h
  | _ :: _, [], h => by cases h
  | k :: ks, x :: xs, h => by
    show x :: (ks.zip xs).map (·.2) = x :: xs
    rw [zip_snd (by simpa using h)]
theorem zip_key {α β : Type} {ks : List α} {xs : List β} (hl : ks.length = xs.length) (nd : ks.Nodup) {k : α} {x y : β} (h : (k, x) ∈ ks.zip xs) (h' : (k, y) ∈ ks.zip xs) : x = y := by
  have n2 : ((ks.zip xs).map (·.1)).Nodup := by rw [zip_fst hl]; exact nd
  obtain ⟨i, hi⟩ := List.getElem?_of_mem h
  obtain ⟨j, hj⟩ := List.getElem?_of_mem h'
  have e1 : ((ks.zip xs).map (·.1))[i]? = some k := by rw [List.getElem?_map, hi]; rfl
  have e2 : ((ks.zip xs).map (·.1))[j]? = some k := by rw [List.getElem?_map, hj]; rfl
  obtain ⟨q1, p1⟩ := List.getElem?_eq_some_iff.mp e1
  obtain ⟨q2, p2⟩ := List.getElem?_eq_some_iff.mp e2
  have ij : i = j := (List.getElem_inj n2).mp (p1.trans p2.symm)
  subst ij
  rw [hi] at hj
  cases hj
  rfl
theorem zip_ex {α β : Type} {ks : List α} {xs : List β} (hl : ks.length = xs.length) {x : β} (h : x ∈ xs) : ∃ k, (k, x) ∈ ks.zip xs := by
  have : x ∈ (ks.zip xs).map (·.2) := by rw [zip_snd hl]; exact h
  obtain ⟨z, hz, rfl⟩ := List.mem_map.mp this
  exact ⟨z.1, hz⟩
theorem cr_sortedPre : CallR X (.builtin "sorted") (rSortedPre X.K) := by
  intro pins s σ H vs us Q I r h
  obtain ⟨a, xs, ks, rfl, hs, hl, nd, hx, q⟩ := h
  obtain ⟨its, rv, hli, hz⟩ := I.list hs
  obtain ⟨u, rfl, ru⟩ := vals1 r
  obtain rfl : u = Value.ref a := ru
  obtain ⟨e1, e2⟩ := refs_back rv fun x m => by
    obtain ⟨k, hk⟩ := zip_ex hl m
    obtain ⟨t, _, e, _⟩ := hx _ hk
    exact ⟨t, e⟩
  have hlen : ks.length = its.length := by rw [hl, rv.length]
  -- the key of a value
  have pre : ∀ z ∈ ks.zip its, IsPre s.heap z.2 z.1 := fun z hz => by
    have hz2 : (z.1, backV z.2) ∈ ks.zip xs := by
      rw [e1, List.zip_map_right]
      exact List.mem_map.mpr ⟨z, hz, rfl⟩
    obtain ⟨t, r, e, ht⟩ := hx _ hz2
    obtain ⟨t', e'⟩ := e2 z.2 (by
      have : z.2 ∈ (ks.zip its).map (·.2) := List.mem_map.mpr ⟨z, hz, rfl⟩
      rw [zip_snd hlen] at this
      exact this)
    rw [e'] at e
    have et : t' = t := by cases e; rfl
    subst et
    obtain ⟨its2, r2, p2, _⟩ := I.tuple ht
    obtain ⟨o, ho, hc, n, hd⟩ := (show s.heap.IsTuple t' its2.toArray from p2)
    cases r2 with
    | cons r1 r2 =>
      cases r2 with
      | cons r3 r4 =>
        obtain ⟨t1, rfl⟩ := r1
        obtain ⟨t2, rfl⟩ := r3
        exact ⟨t', o, t1, t2, _, n, e', ho, hc, hd⟩
  obtain ⟨k, hk⟩ : ∃ k : Value → Int × Int, ∀ z ∈ ks.zip its, k z.2 = z.1 := by
    refine ⟨fun v => @dite _ (∃ kk, IsPre s.heap v kk) (Classical.propDecidable _) (fun h => Classical.choose h) (fun _ => (0, 0)), fun z hz => ?_⟩
    have hz' : ∃ kk, IsPre s.heap z.2 kk := ⟨z.1, pre z hz⟩
    show @dite _ (∃ kk, IsPre s.heap z.2 kk) (Classical.propDecidable _) (fun h => Classical.choose h) (fun _ => (0, 0)) = z.1
    rw [dif_pos hz']
    exact (Classical.choose_spec hz').uniq (pre z hz)
  have hp : ∀ v ∈ its, IsPre s.heap v (k v) := fun v hv => by
    obtain ⟨kk, hz⟩ := zip_ex hlen hv
    have e := hk _ hz
    dsimp only at e
    rw [e]
    exact pre _ hz
  have hi : ∀ v ∈ its, ∀ u ∈ its, k v = k u → v = u := fun v hv u hu e => by
    obtain ⟨kk, hz⟩ := zip_ex hlen hv
    obtain ⟨kj, hz'⟩ := zip_ex hlen hu
    have e1 := hk _ hz
    have e2 := hk _ hz'
    dsimp only at e1 e2
    have : kk = kj := by rw [← e1, ← e2, e]
    subst this
    exact zip_key hlen nd hz hz'
  refine sorted_pre (k := k) hli.isList (by rw [← rv.length]; exact hz) hp hi fun h' d out h1 h2 kp hd hn => ?_
  have eo : out = (isort (ks.zip its)).map (·.2) := by
    have p1 : ((isort (ks.zip its)).map (·.2)).Perm its := by
      have z := (isort_perm (ks.zip its)).map (·.2)
      rw [zip_snd hlen] at z
      exact z
    refine List.Perm.eq_of_pairwise (le := fun x y => lexB (k y) (k x) = false) (fun x y hx hy a b => ?_) h1 ?_ (h2.perm.trans p1.symm)
    · refine hi x (h2.perm.mem_iff.mp hx) y (p1.mem_iff.mp hy) ?_
      have a' := lexB_no.mp a
      have b' := lexB_no.mp b
      refine Prod.ext ?_ ?_ <;> omega
    · rw [List.pairwise_map]
      refine List.Pairwise.imp_of_mem (fun {x y} hx hy h => ?_) (isort_sorted (ks.zip its))
      have ex := hk x ((isort_perm _).mem_iff.mp hx)
      have ey := hk y ((isort_perm _).mem_iff.mp hy)
      rw [ex, ey]
      exact h
  have h3 : ∀ u ∈ out, ∃ a, u = Value.ref a := fun u hu => e2 u (h2.perm.mem_iff.mp hu)
  obtain ⟨n, hn⟩ := hn
  have eb : out.map backV = (isort (ks.zip xs)).map (·.2) := by
    rw [eo, List.map_map]
    have z := isort_map backV (ks.zip its)
    have z2 : (ks.zip its).map (fun z => (z.1, backV z.2)) = ks.zip xs := by
      rw [e1, List.zip_map_right]
      rfl
    rw [z2] at z
    rw [← z, List.map_map]
    rfl
  have hln : (out.map backV).length ≤ sizeLine := by
    rw [List.length_map, h2.len, ← rv.length]
    exact hz
  refine ⟨.ref d, upd H d (.lst (out.map backV)), I.laid (t' := s.toks) kp hd ⟨hln, out, n, vals_back h3, hn⟩, rfl, ?_⟩
  rw [eb]
  exact q d (I.hok.fresh hd)
end
end Sd
namespace Dn
open PySem PySem.Spec PyProof.Rows L2 SrtO Sd
def preK : D → Option (Int × Int)
  | .tup (.int i :: .int j :: _) => some (i, j)
  | _ => none
def preKs : List D → Option (List (Int × Int))
  | [] => some []
  | d :: ds => match preK d, preKs ds with
    | some k, some ks => some (k :: ks)
    | _, _ => none
theorem preK_of {d : D} {k : Int × Int} (h : preK d = some k) : ∃ r, d = .tup (.int k.1 :: .int k.2 :: r) := by
  unfold preK at h
  split at h
  · cases h
    exact ⟨_, rfl⟩
  · cases h
theorem preKs_of : ∀ {ds : List D} {ks : List (Int × Int)}, preKs ds = some ks → ks.length = ds.length ∧ ∀ z ∈ ks.zip ds, preK z.2 = some z.1
  | [], ks, h => by
    cases h
    exact ⟨rfl, fun z hz => nomatch hz⟩
  | d :: ds, ks, h => by
    unfold preKs at h
    cases e1 : preK d with
    | none => rw [e1] at h; cases h
    | some k =>
      cases e2 : preKs ds with
      | none => rw [e1, e2] at h; cases h
      | some js =>
        rw [e1, e2] at h
        cases h
        obtain ⟨h1, h2⟩ := preKs_of e2
        refine ⟨by rw [List.length_cons, List.length_cons, h1], fun z hz => ?_⟩
        rcases List.mem_cons.mp hz with e | hz
        · rw [e]
          exact e1
        · exact h2 z hz
def isortI : List Int → List Int := fun ns => (isort (ns.map fun n => ((n, 0), n))).map (·.2)
def sortPreD (ds : List D) : Option (List D) := match preKs ds with
  | some ks => if distinct ks = true then some ((isort (ks.zip ds)).map (·.2)) else none
  | none => none
def sortD : FN := fun xs st => match lstOf st xs with
  | some ds => match sortPreD ds with
    | some es => .ok (.ref st.length) (st ++ [.lst es])
    | none => .no
  | none => .no
section
variable {K : PySem.W.Frag} {G : Gx} {H : Hp} {ρ : List Addr}
/-- two lists of pairs, alike but for data and their values -/
inductive EVk (K : PySem.W.Frag) (H : Hp) (ρ : List Addr) : List (KV D) → List (KV V) → Prop
  | nil : EVk K H ρ [] []
  | cons {k : Int × Int} {d : D} {v : V} {ds : List (KV D)} {vs : List (KV V)} : EV K H ρ d v → EVk K H ρ ds vs → EVk K H ρ ((k, d) :: ds) ((k, v) :: vs)
theorem evk_zip : ∀ {ks : List (Int × Int)} {ds : List D} {vs : List V}, EVs K H ρ ds vs → EVk K H ρ (ks.zip ds) (ks.zip vs)
  | [], _, _, _ => by rw [List.zip_nil_left, List.zip_nil_left]; exact .nil
  | _ :: _, [], _, h => by cases h; exact .nil
  | _ :: _, _ :: _, _, h => by
    cases h with
    | cons a b => exact .cons a (evk_zip b)
theorem evk_ins {k : Int × Int} {d : D} {v : V} (h : EV K H ρ d v) : ∀ {ds : List (KV D)} {vs : List (KV V)}, EVk K H ρ ds vs → EVk K H ρ (ins (k, d) ds) (ins (k, v) vs)
  | _, _, .nil => .cons h .nil
  | _, _, @EVk.cons _ _ _ j e w ds vs a b => by
    rw [ins_cons, ins_cons]
    by_cases q : lexB k j = true
    · rw [if_pos (show lexB (k, d).1 (j, e).1 = true from q), if_pos (show lexB (k, v).1 (j, w).1 = true from q)]
      exact .cons h (.cons a b)
    · rw [if_neg (show ¬ lexB (k, d).1 (j, e).1 = true from q), if_neg (show ¬ lexB (k, v).1 (j, w).1 = true from q)]
      exact .cons a (evk_ins h b)
theorem evk_sort : ∀ {ds : List (KV D)} {vs : List (KV V)}, EVk K H ρ ds vs → EVk K H ρ (isort ds) (isort vs)
  | _, _, .nil => .nil
  | _, _, .cons a b => evk_ins a (evk_sort b)
theorem evk_snd : ∀ {ds : List (KV D)} {vs : List (KV V)}, EVk K H ρ ds vs → EVs K H ρ (ds.map (·.2)) (vs.map (·.2))
  | _, _, .nil => .nil
  | _, _, .cons a b => .cons a (evk_snd b)
theorem evk_get : ∀ {ds : List (KV D)} {vs : List (KV V)}, EVk K H ρ ds vs → ∀ z ∈ vs, ∃ d, (z.1, d) ∈ ds ∧ EV K H ρ d z.2
  | _, _, .nil, z, hz => nomatch hz
  | _, _, .cons a b, z, hz => by
    rcases List.mem_cons.mp hz with e | hz
    · subst e
      exact ⟨_, List.mem_cons_self, a⟩
    · obtain ⟨d, h1, h2⟩ := evk_get b z hz
      exact ⟨d, List.mem_cons_of_mem _ h1, h2⟩
theorem cs_sort : CallS K G (rSortedPre K) sortD := by
  intro xs vs ρ st H Q e es h
  unfold sortD at h
  split at h
  · rename_i ds q
    split at h
    · rename_i es' q2
      unfold sortPreD at q2
      split at q2
      · rename_i ks q3
        split at q2
        · rename_i hd
          cases q2
          obtain ⟨a, ws, rfl, h1, h2⟩ := e.lst es q
          obtain ⟨p1, p2⟩ := preKs_of q3
          have ez := evk_zip (ks := ks) h2
          refine ⟨a, ws, ks, rfl, h1, by rw [p1, h2.length], distinct_nodup hd, fun z hz => ?_, fun p hp => ?_⟩
          · obtain ⟨d, g1, g2⟩ := evk_get ez z hz
            obtain ⟨r, er⟩ := preK_of (p2 _ g1)
            dsimp only at er
            rw [er] at g2
            obtain ⟨t, us, g3, g4, g5⟩ := g2.ofTup
            cases g5 with
            | cons i1 g5 =>
              cases g5 with
              | cons i2 g5 =>
                cases i1
                cases i2
                exact ⟨t, _, g3, g4⟩
          · exact newL h (evk_snd (evk_sort ez)) es p hp
        · cases q2
      · cases q2
    · exact h.elim
  · exact h.elim
end
end Dn

set_option Elab.async false
set_option linter.all false
set_option maxRecDepth 100000
set_option maxHeartbeats 4000000
/-! Comprehensions and loops run, in general. -/
namespace Dn
open PySem L2
variable {st : Sto}
theorem set_at (st : Sto) (a b : Cell) (l : Sto) : (st ++ a :: l).set st.length b = st ++ b :: l := by
  rw [List.set_append_right _ _ (Nat.le_refl _), Nat.sub_self]
  rfl
/-- a comprehension without a test; what the element makes grows the store -/
theorem lc_gen {fd : Feed} {ds : List D} {v : Nat} {env : Ev} {e : ME} {g : D → D} (hfd : ∀ l i, fd i (st ++ l) = some ds[i]?) (hz : ds.length ≤ 99999)
    (he : ∀ d ∈ ds, ∀ l, ∃ l', e (env.set v (some d)) (st ++ l) = .ok (g d) (st ++ (l ++ l'))) : ∀ (n i : Nat) (l : Sto), i + n = ds.length →
    ∃ l', lcGo fd [v] (mName v) tYesD e st.length n i env (st ++ .lst ((ds.take i).map g) :: l) = .ok (.ref st.length) (st ++ .lst (ds.map g) :: l') := by
  intro n
  induction n with
  | zero =>
    intro i l hi
    have ei : i = ds.length := by omega
    subst ei
    have hf := hfd (.lst (ds.map g) :: l) ds.length
    rw [List.getElem?_eq_none (Nat.le_refl _)] at hf
    rw [List.take_length]
    refine ⟨l, ?_⟩
    simp only [lcGo, hf]
  | succ n ih =>
    intro i l hi
    have hlt : i < ds.length := by omega
    have hf := hfd (.lst ((ds.take i).map g) :: l) i
    rw [List.getElem?_eq_getElem hlt] at hf
    obtain ⟨l1, k1⟩ := he ds[i] (List.getElem_mem hlt) (.lst ((ds.take i).map g) :: l)
    obtain ⟨l2, k2⟩ := ih (i + 1) (l ++ l1) (by omega)
    have et : ds.take (i + 1) = ds.take i ++ [ds[i]] := by
      rw [List.take_add_one, List.getElem?_eq_getElem hlt]
      rfl
    rw [et, List.map_append, List.map_singleton] at k2
    have hl : ((ds.take i).map g).length < 100000 := by
      rw [List.length_map, List.length_take]
      omega
    rw [List.cons_append] at k1
    have hget : (st ++ (Cell.lst ((ds.take i).map g) :: (l ++ l1)))[st.length]? = some (.lst ((ds.take i).map g)) := by rw [at_0]; rfl
    refine ⟨l2, ?_⟩
    rw [← k2]
    simp only [lcGo, hf, mName, R.noEr_ok, R.bind_ok, tYesD, ↓reduceIte, k1, hget, hl, set_at]
theorem dLc_gen {it : MI} {fd : Feed} {ds : List D} {v : Nat} {env env' : Ev} {e : ME} {g : D → D} (hit : it env st = .ok (fd, ds.length) st) (hw : wipeD env [v] = env' := by rfl) (hfd : ∀ l i, fd i (st ++ l) = some ds[i]?) (hz : ds.length ≤ 99999)
    (he : ∀ d ∈ ds, ∀ l, ∃ l', e (env'.set v (some d)) (st ++ l) = .ok (g d) (st ++ (l ++ l'))) : ∃ l', dLc it [v] (mName v) tYesD e env st = .ok (.ref st.length) (st ++ .lst (ds.map g) :: l') := by
  obtain ⟨l', k⟩ := lc_gen hfd hz he ds.length 0 [] (by omega)
  refine ⟨l', ?_⟩
  subst hw
  unfold dLc
  rw [hit]
  exact k
theorem seq_feed (ds : List D) (st : Sto) : ∀ (l : Sto) (i : Nat), seqFeed ds i (st ++ l) = some ds[i]? := fun _ _ => rfl
end Dn

set_option Elab.async false
set_option linter.all false
set_option maxRecDepth 100000
set_option maxHeartbeats 4000000
/-! Plain tuples compared. -/
namespace Dn
open PySem L2
mutual
def D.dat : D → PyData
  | .non => .none
  | .bl b => .bool b
  | .int i => .int i
  | .str s => .str s
  | .tup ds => .tuple (D.datAll ds)
  | _ => .none
def D.datAll : List D → List PyData
  | [] => []
  | d :: ds => d.dat :: D.datAll ds
end
mutual
/-- plain data, n deep at the most -/
def D.eo : D → Nat → Bool
  | .non, _ => true
  | .bl _, _ => true
  | .int _, _ => true
  | .str s, _ => PyData.canLay0 (.str s)
  | .tup ds, n + 1 => D.eoAll ds n
  | _, _ => false
def D.eoAll : List D → Nat → Bool
  | [], _ => true
  | d :: ds, n => d.eo n && D.eoAll ds n
end
mutual
theorem eo_py : ∀ (d : D) (n : Nat), d.eo n = true → d.pyN = some d.dat ∧ d.dat.canLay0 = true ∧ d.dat.depth ≤ n + 1
  | .non, n, _ => ⟨rfl, rfl, by simp [D.dat, PyData.depth]⟩
  | .bl b, n, _ => ⟨rfl, rfl, by simp [D.dat, PyData.depth]⟩
  | .int i, n, _ => ⟨rfl, rfl, by simp [D.dat, PyData.depth]⟩
  | .str s, n, h => ⟨rfl, h, by simp [D.dat, PyData.depth]⟩
  | .tup ds, 0, h => by cases h
  | .tup ds, n + 1, h => by
    obtain ⟨h1, h2, h3⟩ := eo_pyAll ds n (by unfold D.eo at h; exact h)
    refine ⟨?_, ?_, ?_⟩
    · unfold D.pyN D.dat
      rw [h1]
      rfl
    · unfold D.dat PyData.canLay0
      exact h2
    · unfold D.dat PyData.depth
      omega
  | .ref _, n, h => by cases n <;> cases h
  | .ty _, n, h => by cases n <;> cases h
  | .ob _, n, h => by cases n <;> cases h
  | .kl _, n, h => by cases n <;> cases h
theorem eo_pyAll : ∀ (ds : List D) (n : Nat), D.eoAll ds n = true → D.pyAll ds = some (D.datAll ds) ∧ PyData.canLayAll0 (D.datAll ds) = true ∧ PyData.depthAll (D.datAll ds) ≤ n + 1
  | [], n, _ => ⟨rfl, rfl, by simp [D.datAll, PyData.depthAll]⟩
  | d :: ds, n, h => by
    unfold D.eoAll at h
    have h' := (Bool.and_eq_true _ _).mp h
    obtain ⟨a1, a2, a3⟩ := eo_py d n h'.1
    obtain ⟨b1, b2, b3⟩ := eo_pyAll ds n h'.2
    refine ⟨?_, ?_, ?_⟩
    · unfold D.pyAll D.datAll
      rw [a1, b1]
    · unfold D.datAll PyData.canLayAll0
      rw [a2, b2]
      rfl
    · unfold D.datAll PyData.depthAll
      omega
end
theorem eo_shaped {d : D} {n : Nat} (h : d.eo n = true) (hn : n ≤ 60) : SeqAt.shaped d.dat = true := by
  obtain ⟨_, h2, h3⟩ := eo_py d n h
  unfold SeqAt.shaped
  rw [h2, Bool.true_and]
  exact decide_eq_true (by omega)
def eqvT (a b : List D) : Bool := PyData.eqv (.tuple (D.datAll a)) (.tuple (D.datAll b))
theorem eqv_tup {a b : List D} {n m : Nat} (ha : D.eo (.tup a) n = true) (hb : D.eo (.tup b) m = true) (hn : n ≤ 60) (hm : m ≤ 60) (st : Sto) : eqvD (.tup a) (.tup b) st = some (eqvT a b) := by
  have e1 : (D.tup a).py st = some (D.tup a).dat := (eo_py _ n ha).1
  have e2 : (D.tup b).py st = some (D.tup b).dat := (eo_py _ m hb).1
  have s1 := eo_shaped ha hn
  have s2 := eo_shaped hb hm
  have e0 : scalD (.tup a) (.tup b) = none := rfl
  unfold eqvD
  rw [e0, e1, e2]
  dsimp only
  rw [if_pos ⟨s1, s2⟩]
  rfl
theorem eq_tup {a b : List D} {n m : Nat} (ha : D.eo (.tup a) n = true) (hb : D.eo (.tup b) m = true) (hn : n ≤ 60 := by decide) (hm : m ≤ 60 := by decide) (st : Sto) : eqD (.tup a) (.tup b) st = .ok (.bl (eqvT a b)) st := by
  unfold eqD
  rw [eqv_tup ha hb hn hm]
theorem ne_tup {a b : List D} {n m : Nat} (ha : D.eo (.tup a) n = true) (hb : D.eo (.tup b) m = true) (hn : n ≤ 60 := by decide) (hm : m ≤ 60 := by decide) (st : Sto) : neD (.tup a) (.tup b) st = .ok (.bl (!eqvT a b)) st := by
  unfold neD
  rw [eqv_tup ha hb hn hm]
theorem eqvT_refl {a : List D} {n : Nat} (ha : D.eo (.tup a) n = true) : eqvT a a = true := PySem.SeqAt.eqv_refl _ (eo_py _ n ha).2.1
theorem ne_self {a : List D} {n : Nat} (ha : D.eo (.tup a) n = true) (hn : n ≤ 60 := by decide) (st : Sto) : neD (.tup a) (.tup a) st = .ok (.bl false) st := by
  rw [ne_tup ha ha hn hn, eqvT_refl ha]
  rfl
theorem eq_self {a : List D} {n : Nat} (ha : D.eo (.tup a) n = true) (hn : n ≤ 60 := by decide) (st : Sto) : eqD (.tup a) (.tup a) st = .ok (.bl true) st := by
  rw [eq_tup ha ha hn hn, eqvT_refl ha]
theorem eoAll_of {ds : List D} {n : Nat} (h : ∀ d ∈ ds, d.eo n = true) : D.eoAll ds n = true := by
  induction ds with
  | nil => rfl
  | cons d r ih =>
    unfold D.eoAll
    rw [h d List.mem_cons_self, ih fun x hx => h x (List.mem_cons_of_mem _ hx)]
    rfl
end Dn

set_option Elab.async false
set_option linter.all false
set_option maxRecDepth 100000
set_option maxHeartbeats 4000000
/-! Plain tuples without booleans: equal just if they are the same. -/
namespace Dn
open PySem L2
mutual
def D.pu : D → Bool
  | .non => true
  | .int _ => true
  | .str _ => true
  | .tup ds => D.puAll ds
  | _ => false
def D.puAll : List D → Bool
  | [] => true
  | d :: ds => d.pu && D.puAll ds
end
theorem puAll_of {ds : List D} (h : ∀ d ∈ ds, d.pu = true) : D.puAll ds = true := by
  induction ds with
  | nil => rfl
  | cons d r ih =>
    unfold D.puAll
    rw [h d List.mem_cons_self, ih fun x hx => h x (List.mem_cons_of_mem _ hx)]
    rfl
mutual
theorem eqv_pu : ∀ {a b : D}, a.pu = true → b.pu = true → (PyData.eqv a.dat b.dat = true ↔ a = b)
  | .non, .non, _, _ => by simp [D.dat, PyData.eqv]
  | .non, .int _, _, _ => by simp [D.dat, PyData.eqv]
  | .non, .str _, _, _ => by simp [D.dat, PyData.eqv]
  | .non, .tup _, _, _ => by simp [D.dat, PyData.eqv]
  | .int _, .non, _, _ => by simp [D.dat, PyData.eqv]
  | .int _, .int _, _, _ => by simp [D.dat, PyData.eqv]
  | .int _, .str _, _, _ => by simp [D.dat, PyData.eqv]
  | .int _, .tup _, _, _ => by simp [D.dat, PyData.eqv]
  | .str _, .non, _, _ => by simp [D.dat, PyData.eqv]
  | .str _, .int _, _, _ => by simp [D.dat, PyData.eqv]
  | .str _, .str _, _, _ => by simp [D.dat, PyData.eqv]
  | .str _, .tup _, _, _ => by simp [D.dat, PyData.eqv]
  | .tup _, .non, _, _ => by simp [D.dat, PyData.eqv]
  | .tup _, .int _, _, _ => by simp [D.dat, PyData.eqv]
  | .tup _, .str _, _, _ => by simp [D.dat, PyData.eqv]
  | .tup as, .tup bs, ha, hb => by
    have := eqv_puAll (as := as) (bs := bs) (by unfold D.pu at ha; exact ha) (by unfold D.pu at hb; exact hb)
    unfold D.dat PyData.eqv
    rw [this, D.tup.injEq]
  | .bl _, _, h, _ => by cases h
  | .ref _, _, h, _ => by cases h
  | .ty _, _, h, _ => by cases h
  | .kl _, _, h, _ => by cases h
  | .ob _, _, h, _ => by cases h
  | _, .bl _, _, h => by cases h
  | _, .ref _, _, h => by cases h
  | _, .ty _, _, h => by cases h
  | _, .kl _, _, h => by cases h
  | _, .ob _, _, h => by cases h
theorem eqv_puAll : ∀ {as bs : List D}, D.puAll as = true → D.puAll bs = true → (PyData.eqvAll (D.datAll as) (D.datAll bs) = true ↔ as = bs)
  | [], [], _, _ => by simp [D.datAll, PyData.eqvAll]
  | [], _ :: _, _, _ => by simp [D.datAll, PyData.eqvAll]
  | _ :: _, [], _, _ => by simp [D.datAll, PyData.eqvAll]
  | a :: as, b :: bs, ha, hb => by
    unfold D.puAll at ha hb
    have ha' := (Bool.and_eq_true _ _).mp ha
    have hb' := (Bool.and_eq_true _ _).mp hb
    unfold D.datAll PyData.eqvAll
    rw [Bool.and_eq_true, eqv_pu ha'.1 hb'.1, eqv_puAll ha'.2 hb'.2, List.cons.injEq]
end
theorem eqvT_pu {a b : List D} (ha : D.puAll a = true) (hb : D.puAll b = true) : eqvT a b = true ↔ a = b := by
  unfold eqvT
  show PyData.eqvAll _ _ = true ↔ _
  exact eqv_puAll ha hb
theorem eq_pu_t {a b : List D} {n m : Nat} (ha : D.eo (.tup a) n = true) (hb : D.eo (.tup b) m = true) (pa : D.puAll a = true) (pb : D.puAll b = true) (e : a = b) (st : Sto) (hn : n ≤ 60 := by decide) (hm : m ≤ 60 := by decide) : eqD (.tup a) (.tup b) st = .ok (.bl true) st := by
  rw [eq_tup ha hb hn hm, (eqvT_pu pa pb).mpr e]
theorem eq_pu_f {a b : List D} {n m : Nat} (ha : D.eo (.tup a) n = true) (hb : D.eo (.tup b) m = true) (pa : D.puAll a = true) (pb : D.puAll b = true) (e : a ≠ b) (st : Sto) (hn : n ≤ 60 := by decide) (hm : m ≤ 60 := by decide) : eqD (.tup a) (.tup b) st = .ok (.bl false) st := by
  rw [eq_tup ha hb hn hm, Bool.eq_false_iff.mpr fun z => e ((eqvT_pu pa pb).mp z)]
theorem ne_pu_t {a b : List D} {n m : Nat} (ha : D.eo (.tup a) n = true) (hb : D.eo (.tup b) m = true) (pa : D.puAll a = true) (pb : D.puAll b = true) (e : a ≠ b) (st : Sto) (hn : n ≤ 60 := by decide) (hm : m ≤ 60 := by decide) : neD (.tup a) (.tup b) st = .ok (.bl true) st := by
  rw [ne_tup ha hb hn hm, Bool.eq_false_iff.mpr fun z => e ((eqvT_pu pa pb).mp z)]
  rfl
theorem ne_pu_f {a b : List D} {n m : Nat} (ha : D.eo (.tup a) n = true) (hb : D.eo (.tup b) m = true) (pa : D.puAll a = true) (pb : D.puAll b = true) (e : a = b) (st : Sto) (hn : n ≤ 60 := by decide) (hm : m ≤ 60 := by decide) : neD (.tup a) (.tup b) st = .ok (.bl false) st := by
  rw [ne_tup ha hb hn hm, (eqvT_pu pa pb).mpr e]
  rfl
end Dn

set_option Elab.async false
set_option linter.all false
set_option maxRecDepth 100000
set_option maxHeartbeats 4000000
/-! x in xs, for data at any depth. -/
namespace Dn
open PySem L2 PyProof.Rows
def rInD (K : PySem.W.Frag) (neg : Bool) : R2 := fun x y H Q => ∃ d xs, Dp K H x d ∧ (Dp K H y (.list xs) ∨ Dp K H y (.tuple xs)) ∧ d.canLay0 = true ∧ d.depth ≤ 60 ∧ PyData.canLayAll0 xs = true ∧ Q (.bl (if neg then !(xs.any fun y => PyData.eqv y d) else xs.any fun y => PyData.eqv y d)) H
section
variable {X : Cx}
theorem op_inD (hu : X.A.units + 64 < cLine) : OpR X (compareOp .In) (rInD X.K false) := by
  intro pins s σ H x y v u Q I rx ry h
  obtain ⟨d, xs, hd, hy, cd, dd, cx, q⟩ := h
  obtain ⟨as, r1⟩ := Dp.reads I d x v hd rx
  have room : X.A.units + 1 + min (PyData.depthAll xs) d.depth < cLine := by
    have := Nat.min_le_right (PyData.depthAll xs) d.depth
    omega
  rcases hy with hy | hy
  · obtain ⟨bs, r2⟩ := Dp.reads I (.list xs) y u hy ry
    exact SeqAt.in_list_reads r2 r1 cx cd room ⟨.bl _, H, I, rfl, q⟩
  · obtain ⟨bs, r2⟩ := Dp.reads I (.tuple xs) y u hy ry
    exact SeqAt.in_tuple_reads r2 r1 cx cd room ⟨.bl _, H, I, rfl, q⟩
theorem op_notInD (hu : X.A.units + 64 < cLine) : OpR X (compareOp .NotIn) (rInD X.K true) := by
  intro pins s σ H x y v u Q I rx ry h
  obtain ⟨d, xs, hd, hy, cd, dd, cx, q⟩ := h
  obtain ⟨as, r1⟩ := Dp.reads I d x v hd rx
  have room : X.A.units + 1 + min (PyData.depthAll xs) d.depth < cLine := by
    have := Nat.min_le_right (PyData.depthAll xs) d.depth
    omega
  rcases hy with hy | hy
  · obtain ⟨bs, r2⟩ := Dp.reads I (.list xs) y u hy ry
    exact SeqAt.notIn_list_reads r2 r1 cx cd room ⟨.bl _, H, I, rfl, q⟩
  · obtain ⟨bs, r2⟩ := Dp.reads I (.tuple xs) y u hy ry
    exact SeqAt.notIn_tuple_reads r2 r1 cx cd room ⟨.bl _, H, I, rfl, q⟩
def rInE (K : PySem.W.Frag) (neg : Bool) : R2 := fun x y H Q => rIn K neg x y H Q ∨ rInD K neg x y H Q
theorem op_inE (hu : X.A.units + 64 < cLine) : OpR X (compareOp .In) (rInE X.K false) := op_in_seq.or (op_inD hu)
theorem op_notInE (hu : X.A.units + 64 < cLine) : OpR X (compareOp .NotIn) (rInE X.K true) := op_notIn_seq.or (op_notInD hu)
def seqP : PyData → Option (List PyData)
  | .list xs => some xs
  | .tuple xs => some xs
  | _ => none
def dataD (neg : Bool) (x y : D) (st : Sto) : R D := match x.py st, (y.py st).bind seqP with
  | some d, some xs => if d.canLay0 = true ∧ d.depth ≤ 60 ∧ PyData.canLayAll0 xs = true then .ok (.bl (if neg then !(xs.any fun y => PyData.eqv y d) else xs.any fun y => PyData.eqv y d)) st else .no
  | _, _ => .no
/-- flat things by their own rule, all others as data -/
def memE (neg : Bool) : F2 := fun x y st => match memD neg x y st with
  | .no => dataD neg x y st
  | r => r
theorem os_memE {K : PySem.W.Frag} {G : Gx} {neg : Bool} : OpS K G (rInE K neg) (memE neg) := by
  intro x y vx vy ρ st H Q ex ey es h
  unfold memE at h
  cases q : memD neg x y st with
  | ok a st1 =>
    rw [q] at h
    exact .inl (os_mem x y vx vy ρ st H Q ex ey es (by rw [q]; exact h))
  | er n st1 =>
    rw [q] at h
    exact .inl (os_mem x y vx vy ρ st H Q ex ey es (by rw [q]; exact h))
  | no =>
    rw [q] at h
    dsimp only at h
    unfold dataD at h
    cases q1 : x.py st with
    | none => rw [q1] at h; exact h.elim
    | some d =>
      cases q2 : y.py st with
      | none => rw [q1, q2] at h; exact h.elim
      | some e =>
        rw [q1, q2] at h
        have de := dp_of ey es q2
        cases e with
        | list xs =>
          dsimp only [Option.bind, seqP] at h
          split at h
          · rename_i hc
            exact .inr ⟨d, xs, dp_of ex es q1, .inl de, hc.1, hc.2.1, hc.2.2, h.now (.bl _) es⟩
          · exact h.elim
        | tuple xs =>
          dsimp only [Option.bind, seqP] at h
          split at h
          · rename_i hc
            exact .inr ⟨d, xs, dp_of ex es q1, .inr de, hc.1, hc.2.1, hc.2.2, h.now (.bl _) es⟩
          · exact h.elim
        | _ => exact h.elim
end
theorem memD_tup {neg : Bool} {xs : List D} {y : D} {st : Sto} : memD neg (.tup xs) y st = .no := by
  unfold memD
  cases y.items st with
  | none => rfl
  | some ds =>
    dsimp only
    rw [if_neg (fun z => nomatch z.1)]
/-- plain tuples in a list or tuple of such -/
theorem datAll_any {x : D} : ∀ {ds : List D}, x.pu = true → D.puAll ds = true → (((D.datAll ds).any fun y => PyData.eqv y x.dat) = true ↔ x ∈ ds)
  | [], _, _ => by simp [D.datAll]
  | d :: ds, hx, hd => by
    unfold D.puAll at hd
    have hd' := (Bool.and_eq_true _ _).mp hd
    have ih := datAll_any (ds := ds) hx hd'.2
    unfold D.datAll
    rw [List.any_cons, Bool.or_eq_true, ih, eqv_pu hd'.1 hx, List.mem_cons]
    constructor
    · rintro (h | h)
      · exact .inl h.symm
      · exact .inr h
    · rintro (h | h)
      · exact .inl h.symm
      · exact .inr h
theorem mem_data {neg b : Bool} {xs ds : List D} {y : D} {st : Sto} {n : Nat} (hx : (D.tup xs).eo n = true) (hn : n ≤ 50) (px : (D.tup xs).pu = true) (hd : D.eoAll ds n = true) (pd : D.puAll ds = true) (hy : y = .tup ds ∨ ∃ r, y = .ref r ∧ st[r]? = some (.lst ds)) (hb : b = true ↔ D.tup xs ∈ ds) :
    memE neg (.tup xs) y st = .ok (.bl (if neg then !b else b)) st := by
  obtain ⟨a1, a2, a3⟩ := eo_py _ n hx
  obtain ⟨b1, b2, b3⟩ := eo_pyAll _ n hd
  have e1 : (D.tup xs).py st = some (D.tup xs).dat := a1
  have e2 : (y.py st).bind seqP = some (D.datAll ds) := by
    rcases hy with rfl | ⟨r, rfl, hr⟩
    · have : (D.tup ds).py st = some (.tuple (D.datAll ds)) := by
        show D.pyN (.tup ds) = _
        unfold D.pyN
        rw [b1]
        rfl
      rw [this]
      rfl
    · have hs : Sto.seq st r = some ds := by unfold Sto.seq; rw [hr]
      have : (D.ref r).py st = some (.list (D.datAll ds)) := by
        simp only [D.py, hs, b1, Option.map_some]
      rw [this]
      rfl
  have key : ((D.datAll ds).any fun y => PyData.eqv y (D.tup xs).dat) = b := by
    have := datAll_any px pd
    cases b with
    | true => exact this.mpr (hb.mp rfl)
    | false => exact Bool.eq_false_iff.mpr fun z => by cases hb.mpr (this.mp z)
  unfold memE
  rw [memD_tup]
  dsimp only
  unfold dataD
  rw [e1, e2]
  dsimp only
  rw [if_pos ⟨a2, by omega, b2⟩, key]
end Dn

set_option Elab.async false
set_option linter.all false
set_option maxRecDepth 100000
set_option maxHeartbeats 2000000
/-! zip of a tuple with a list; enumerate of a list, of a tuple. -/
namespace Dn
open PySem PySem.Spec L2 PyProof.Rows
/-- a tuple and a list, walked side by side -/
def ItzM (K : PySem.W.Frag) (la lb : Addr) : It where
  go := fun i H => ∃ (xs ys : List V) (x y : V), SqT K H la xs ∧ SqL K H lb ys ∧ xs[i]? = some x ∧ ys[i]? = some y
  yld := fun i H v H' => ∃ T x y, v = .ref T ∧ H T = none ∧ H' = upd H T (.tup [x, y]) ∧ (∀ l, SqT K H la l → l[i]? = some x) ∧ ∀ l, SqL K H lb l → l[i]? = some y
  stop := fun i H => ∃ xs ys : List V, SqT K H la xs ∧ SqL K H lb ys ∧ i = min xs.length ys.length
section
variable {P : Program} {w : World} {K : PySem.W.Frag} {els : List Expr} {kx : Nat} {tp : Pos} {la lb zz ti to ja jb : Addr}
/-- the walk's own five objects -/
def fiveZ (zz ti to ja jb : Addr) : List Addr := [zz, ti, to, ja, jb]
theorem five_in {c : Addr} : c ∈ fiveZ zz ti to ja jb ↔ c = zz ∨ c = ti ∨ c = to ∨ c = ja ∨ c = jb := by unfold fiveZ; simp
def stZ (la lb zz ti to ja jb : Addr) (i : Nat) (h : Heap) : Prop := IsZip h zz ti to .none ∧ IsTupOf2 h ti (.ref ja) (.ref jb) ∧ (∃ p q, IsTupOf2 h to p q) ∧ h.IsTupleIter ja la i ∧ h.IsListIter jb lb i
structure ApartM (zz ti to ja jb la lb : Addr) : Prop where
  sep : ZipSep2 zz ti to ja jb [ja, la] [jb, lb]
theorem turn_zipM (D : ApartM zz ti to ja jb la lb) : Turn P w K (.Tuple els kx tp) (ItzM K la lb) (fiveZ zz ti to ja jb) zz (stZ la lb zz ti to ja jb) where
  mem := five_in.mpr (.inl rfl)
  obj := fun i h st c hc => by
    obtain ⟨g1, g2, ⟨p, q, g3⟩, ⟨oa, ga, _, da⟩, ⟨ob, gb, _, db⟩⟩ := st
    rcases five_in.mp hc with rfl | rfl | rfl | rfl | rfl
    · exact ⟨_, g1, fun v z => nomatch z⟩
    · exact ⟨_, g2, fun v z => nomatch z⟩
    · exact ⟨_, g3, fun v z => nomatch z⟩
    · exact ⟨oa, ga, fun v z => by rw [da] at z; cases z⟩
    · exact ⟨ob, gb, fun v z => by rw [db] at z; cases z⟩
  keep := fun i h h' st k => by
    obtain ⟨g1, g2, ⟨p, q, g3⟩, g4, g5⟩ := st
    have m := fun c hc => k c (five_in.mpr hc)
    exact ⟨m zz (.inl rfl) _ g1, m ti (.inr (.inl rfl)) _ g2, ⟨p, q, m to (.inr (.inr (.inl rfl))) _ g3⟩, g4.at fun o z => m ja (.inr (.inr (.inr (.inl rfl)))) o z, g5.at fun o z => m jb (.inr (.inr (.inr (.inr rfl)))) o z⟩
  item := by
    intro X eP ew eK calm i pins s σ H E I own st g
    cases eP; cases ew; cases eK
    obtain ⟨g1, g2, ⟨p, q, g3⟩, g4, g5⟩ := st
    obtain ⟨xs, ys, x, y, sx, sy, hx, hy⟩ := g
    obtain ⟨ua, ra, pa, _⟩ := I.tuple sx
    obtain ⟨ub, rb, pb, _⟩ := I.list sy
    obtain ⟨va, eva, rva⟩ := ra.get hx
    obtain ⟨vb, evb, rvb⟩ := rb.get hy
    have hd : X.A.in1.handled = none := I.ok.hd calm
    have na : la ≠ ja := fun z => by
      obtain ⟨o, e1, e2, _⟩ := g4
      obtain ⟨o', e3, e4, _⟩ := show s.heap.IsTuple la ua.toArray from pa
      rw [z, e1] at e3
      cases e3
      rw [e2] at e4
      exact absurd e4 (by decide)
    have nb : lb ≠ jb := fun z => by
      obtain ⟨o, e1, e2, _⟩ := g5
      obtain ⟨o', e3, e4, _⟩ := pb.isList
      rw [z, e1] at e3
      cases e3
      rw [e2] at e4
      exact absurd e4 (by decide)
    have lta : i < ua.toArray.size := by
      have := (List.getElem?_eq_some_iff.mp eva).1
      simpa using this
    have ltb : i < ub.toArray.size := by
      have := (List.getElem?_eq_some_iff.mp evb).1
      simpa using this
    have hzl : zz < s.heap.objs.size := Heap.lt_size g1
    refine wpAny_pyNext_zipD2_item D.sep (Draws.tuple hd ja la na ua.toArray) (Draws.list hd jb lb nb ub.toArray) g1 g2 g3 ⟨g4, pa⟩ ⟨g5, pb.isList⟩ lta ltb fun z1 z2 h' tk e1 e2 f1 f2 f3 f4 f5 f6 f7 => ?_
    have e1' : z1 = va := by
      have q1 : ua.toArray[i]? = some va := by simpa using eva
      rw [q1] at e1
      exact (Option.some.inj e1).symm
    have e2' : z2 = vb := by
      have q2 : ub.toArray[i]? = some vb := by simpa using evb
      rw [q2] at e2
      exact (Option.some.inj e2).symm
    subst e1' e2'
    refine ⟨_, rfl, wpAny_letOwnedTupleGo_zip (s := { s with heap := h', toks := tk }) f1 fun h2 k1 k2 => ?_⟩
    have fresh : ∀ c, c ∈ fiveZ zz ti to ja jb → c < s.heap.objs.size := fun c hc => by
      rcases five_in.mp hc with z | z | z | z | z
      · rw [z]; exact hzl
      · rw [z]; exact Heap.lt_size g2
      · rw [z]; exact Heap.lt_size g3
      · rw [z]; obtain ⟨_, u, _⟩ := g4; exact Heap.lt_size u
      · rw [z]; obtain ⟨_, u, _⟩ := g5; exact Heap.lt_size u
    have pair2 : h2.get? s.heap.objs.size = some { cls := .type "tuple", data := .seq #[z1, z2] } := (k2.2 _ (Nat.ne_of_gt hzl)).trans f5
    have made : ObjOk X.prog X.w (upd H s.heap.objs.size (.tup [x, y])) h2 s.heap.objs.size (.tup [x, y]) :=
      ⟨by show 2 ≤ sizeLine; decide, [z1, z2], .cons rva (.cons rvb .nil), ⟨_, pair2, rfl, _, rfl⟩⟩
    have I2 := I.turnedNew (t' := tk) (ch := fiveZ zz ti to ja jb) (fun c o nc u => by
      have n1 : c ≠ zz := fun z => nc (five_in.mpr (.inl z))
      have n3 : c ≠ to := fun z => nc (five_in.mpr (.inr (.inr (.inl z))))
      have n4 : c ≠ ja := fun z => nc (five_in.mpr (.inr (.inr (.inr (.inl z)))))
      have n5 : c ≠ jb := fun z => nc (five_in.mpr (.inr (.inr (.inr (.inr z)))))
      exact (k2.2 c n1).trans (f7 c o n1 n3 n4 n5 u)) own (Nat.le_refl _) made
    refine ⟨.ref s.heap.objs.size, _, I2, rfl, ⟨_, x, y, rfl, I.hok.fresh (Nat.le_refl _), rfl, fun l hl => by rw [I.tuple_inj hl sx]; exact hx, fun l hl => by rw [I.list_inj hl sy]; exact hy⟩, ⟨k1, ?_, ⟨z1, z2, ?_⟩, ?_, ?_⟩, fun c hc => ?_⟩
    · exact (k2.2 _ D.sep.TIz).trans (f7 _ _ D.sep.TIz D.sep.TITO D.sep.TIi1 D.sep.TIi2 g2)
    · exact (k2.2 _ D.sep.TOz).trans f2
    · exact f3.1.at fun o u => (k2.2 _ (Ne.symm D.sep.zi1)).trans u
    · exact f4.1.at fun o u => (k2.2 _ (Ne.symm D.sep.zi2)).trans u
    · rw [upd_ne (Nat.ne_of_lt (fresh c hc))]
      exact (own c hc).1
  done := by
    intro X eP ew eK calm i pins s σ H E I own st g
    cases eP; cases ew; cases eK
    obtain ⟨g1, g2, ⟨p, q, g3⟩, g4, g5⟩ := st
    obtain ⟨xs, ys, sx, sy, fin⟩ := g
    obtain ⟨ua, ra, pa, _⟩ := I.tuple sx
    obtain ⟨ub, rb, pb, _⟩ := I.list sy
    have hd : X.A.in1.handled = none := I.ok.hd calm
    have la1 := ra.length
    have lb1 := rb.length
    have na : la ≠ ja := fun z => by
      obtain ⟨o, e1, e2, _⟩ := g4
      obtain ⟨o', e3, e4, _⟩ := show s.heap.IsTuple la ua.toArray from pa
      rw [z, e1] at e3
      cases e3
      rw [e2] at e4
      exact absurd e4 (by decide)
    have nb : lb ≠ jb := fun z => by
      obtain ⟨o, e1, e2, _⟩ := g5
      obtain ⟨o', e3, e4, _⟩ := pb.isList
      rw [z, e1] at e3
      cases e3
      rw [e2] at e4
      exact absurd e4 (by decide)
    have sa : ua.toArray.size = xs.length := by simp; omega
    have sb : ub.toArray.size = ys.length := by simp; omega
    refine wpAny_pyNext_zipD2_end D.sep (Draws.tuple hd ja la na ua.toArray) (Draws.list hd jb lb nb ub.toArray) g1 g2 g3 ⟨g4, pa⟩ ⟨g5, pb.isList⟩ (by rw [sa]; omega) (by rw [sb]; omega) (by rw [sa, sb]; omega) fun h' tk kk => ?_
    refine ⟨rfl, I.turnedL (t' := tk) (ch := fiveZ zz ti to ja jb) (fun c o nc u => ?_) own⟩
    exact kk c o (fun z => nc (five_in.mpr (.inl z))) (fun z => nc (five_in.mpr (.inr (.inr (.inl z))))) (fun z => nc (five_in.mpr (.inr (.inr (.inr (.inl z)))))) (fun z => nc (five_in.mpr (.inr (.inr (.inr (.inr z)))))) u
  self := fun A i s Q E st h => wpAny_pyIter_zip st.1 h
end
theorem pi_zipM {X : Cx} {a b : Expr} {ta : TA} {p pos tp : Pos} {els : List Expr} {kx : Nat} (hg : Gl X "zip") (hm : X.mg "zip" = none) (ha : PA X [a, b] ta)
    (hs : starEach [a, b] X.env = (false, eval a X.env) :: starEach [b] X.env := by rfl) (hpl : (backTo pos (starEach [b] X.env)).any (·.1) = false := by rfl) :
    PI X (.Tuple els kx tp) (.Call (.Name "zip" p) [a, b] [] pos) (fun σ H R => ta σ H fun vs H1 => ∃ la lb xs ys, vs = [.ref la, .ref lb] ∧ SqT X.K H1 la xs ∧ SqL X.K H1 lb ys ∧ R (ItzM X.K la lb) H1) := by
  constructor
  intro pins s σ H R I h
  refine Call_ (ld_blt I hg hm PyProof.Rows.boot_zip (PyProof.Rows.callWith_type1 (thn (ha.run pos pins s σ H _ I h) ?_) hs hpl))
  rintro us s1 ⟨vs, H1, I1, r1, la, lb, xs, ys, ex, sx, sy, q⟩
  subst ex
  obtain ⟨u1, r1a, eu, rv1, rr1⟩ : ∃ u1 r1a, us = u1 :: r1a ∧ RelV (.ref la) u1 ∧ Vals [.ref lb] r1a := by
    cases r1 with
    | cons r rr => exact ⟨_, _, rfl, r, rr⟩
  subst eu
  obtain ⟨u2, eu2, rv2⟩ : ∃ u2, r1a = [u2] ∧ RelV (.ref lb) u2 := by
    cases rr1 with
    | cons r rr =>
      cases rr
      exact ⟨_, rfl, r⟩
  subst eu2
  cases rv1
  cases rv2
  obtain ⟨ua, ra, pa, _⟩ := I1.tuple sx
  obtain ⟨ub, rb, pb, _⟩ := I1.list sy
  have pa' : s1.heap.IsTuple la ua.toArray := pa
  have lta : la < s1.heap.objs.size := by obtain ⟨o, e, _⟩ := pa'; exact Heap.lt_size e
  have ltb : lb < s1.heap.objs.size := by obtain ⟨o, e, _⟩ := pb.isList; exact Heap.lt_size e
  refine zip_begins2 (begins_tuple la ua.toArray) (begins_list lb ub.toArray) pa' pb.isList fun h' z1 z2 z3 z4 z5 z6 kk => wpAny_pyIter_zip z1 ?_
  generalize hn : s1.heap.objs.size = n at *
  have I2 : Inv X pins σ H1 { s1 with heap := h' } := I1.kept (t' := s1.toks) kk
  have D : ApartM (n + 4) (n + 2) (n + 3) n (n + 1) la lb := ⟨by
    have far : ∀ (k : Nat) (m c : Addr), m = n → c < n → ¬ m + k = c := fun k m c e hc z => by
      have h1 : n + k < n := by rw [← e, z, e]; exact hc
      exact absurd h1 (Nat.not_lt.mpr (Nat.le_add_right _ _))
    constructor
    all_goals first
      | simp; done
      | (simp; exact far _ n la rfl lta)
      | (simp; exact far _ n lb rfl ltb)
      | (simp; exact fun z => far 0 n lb rfl ltb z)
      | (simp; exact fun z => absurd ltb (by rw [← z]; exact Nat.lt_irrefl _))
      | (simp; exact fun z => absurd lta (by rw [← z]; exact Nat.not_lt.mpr (Nat.le_add_right _ _)))⟩
  refine ⟨n + 4, fiveZ (n + 4) (n + 2) (n + 3) n (n + 1), _, _, H1, rfl, I2, turn_zipM D, ⟨z1, z2, ⟨_, _, z3⟩, ⟨_, z4, rfl, rfl⟩, ⟨_, z5, rfl, rfl⟩⟩, fun c hc => ?_, q⟩
  have big : s1.heap.objs.size ≤ c := by
    rw [hn]
    rcases five_in.mp hc with z | z | z | z | z <;> rw [z] <;> first | exact Nat.le_add_right _ _ | exact Nat.le_refl _
  exact I1.fpOk big (I1.hok.fresh big)
/-! ### on data -/
/-- a list as it stands -/
def rdOf : D → Option (Sto → Option (List D))
  | .kl es => some fun _ => some es
  | .ref n => some fun st => match st[n]? with
    | some (.lst es) => some es
    | _ => none
  | _ => none
def mixFeed (ds : List D) (rd : Sto → Option (List D)) : Feed := fun i st => match rd st with
  | some es => match ds[i]?, es[i]? with
    | some a, some b => some (some (.tup [a, b]))
    | _, _ => if i = min ds.length es.length then some none else none
  | none => none
def itMix (x y : D) (st : Sto) : Option (Feed × Nat) := match x with
  | .tup ds => match rdOf y with
    | some rd => match rd st with
      | some es => some (mixFeed ds rd, min ds.length es.length)
      | none => none
    | none => none
  | _ => none
def itZipM (as : MA) : MI := fun env st => (as env st).bind fun xs st => match xs with
  | [x, y] => match itMix x y st with
    | some f => .ok f st
    | none => .no
  | _ => .no
section
variable {X : Cx} {G : Gx} {a b tg : Expr} {els : List Expr} {tas : TA} {mas : MA} {pos p tp : Pos} {kx : Nat}
theorem live_mix {K : PySem.W.Frag} {T : List (Addr × Str)} {H : Hp} {ρ : List Addr} {la lb : Addr} {ds : List D} {xs : List V} {y : D} {rd : Sto → Option (List D)} (hq : SqT K H la xs) (hr : EVs K H ρ ds xs) (hy : EV K H ρ y (.ref lb)) (e : rdOf y = some rd) : Live K T H ρ (ItzM K la lb) (mixFeed ds rd) := by
  have rdl : ∀ H' ρ' st es, Fr H ρ H' ρ' → ES K T H' ρ' st → rd st = some es → ∃ ys, SqL K H' lb ys ∧ EVs K H' ρ' es ys := by
    intro H' ρ' st es fr hes hrd
    cases hy with
    | @kl _ es0 ys sq r =>
      cases e
      cases hrd
      exact ⟨ys, (fr.rf sq).l, r.mono fr⟩
    | @ref n _ hn =>
      cases e
      dsimp only at hrd
      split at hrd
      · rename_i es1 hst
        cases hrd
        obtain ⟨ys, q1, q2⟩ := hes.seq (fr.get hn) hst
        exact ⟨ys, q1, q2⟩
      · cases hrd
    | _ => cases e
  refine ⟨fun H' ρ' st i fr hes hh => ?_, fun H' ρ' st i d fr hes hh => ?_⟩
  · unfold mixFeed at hh
    cases hrd : rd st with
    | none => rw [hrd] at hh; cases hh
    | some es =>
      rw [hrd] at hh
      obtain ⟨ys, q1, q2⟩ := rdl H' ρ' st es fr hes hrd
      dsimp only at hh
      split at hh
      · cases hh
      · split at hh
        · rename_i hi
          exact ⟨xs, ys, fr.rd hq, q1, by rw [hi, hr.length, q2.length]⟩
        · cases hh
  · unfold mixFeed at hh
    cases hrd : rd st with
    | none => rw [hrd] at hh; cases hh
    | some es =>
      rw [hrd] at hh
      obtain ⟨ys, q1, q2⟩ := rdl H' ρ' st es fr hes hrd
      dsimp only at hh
      split at hh
      · rename_i u v eu ev
        cases hh
        obtain ⟨x, e1, e2⟩ := (hr.mono fr).get eu
        obtain ⟨z, e3, e4⟩ := q2.get ev
        refine ⟨⟨xs, ys, x, z, fr.rd hq, q1, e1, e3⟩, fun t H'' yl => ?_⟩
        obtain ⟨Ta, p, q, rfl, hT, rfl, hp, hq2⟩ := yl
        have ep := hp xs (fr.rd hq)
        have eq := hq2 ys q1
        rw [e1] at ep
        rw [e3] at eq
        cases ep
        cases eq
        have fl : Fr H' ρ' (upd H' Ta (.tup [x, z])) ρ' := Fr.laid hT
        exact ⟨fl, .tup (.inl (.inl upd_same)) (.cons (e2.mono fl) (.cons (e4.mono fl) .nil)), hes.laid hT⟩
      · split at hh <;> cases hh
theorem si_zipM (hg : Gl X "zip") (hm : X.mg "zip" = none) (ha : SA X G [a, b] tas mas) (hs : starEach [a, b] X.env = (false, eval a X.env) :: starEach [b] X.env := by rfl) (hpl : (backTo pos (starEach [b] X.env)).any (·.1) = false := by rfl) :
    SI X G (.Tuple els kx tp) (.Call (.Name "zip" p) [a, b] [] pos) (fun σ H R => tas σ H fun vs H1 => ∃ la lb xs ys, vs = [.ref la, .ref lb] ∧ SqT X.K H1 la xs ∧ SqL X.K H1 lb ys ∧ R (ItzM X.K la lb) H1) (itZipM mas) := ⟨pi_zipM hg hm ha.pe hs hpl, fun σ env ρ st H Q ev es h => by
  refine ha.sd σ env ρ st H _ ev es (h.bind fun xs st1 ρ1 H1 vs f1 e1 es1 q => ?_)
  split at q
  · rename_i x y
    split at q
    · rename_i f ef
      cases e1 with
      | cons ex r =>
        cases r with
        | cons ey r =>
          cases r
          unfold itMix at ef
          split at ef
          · rename_i ds
            split at ef
            · rename_i rd erd
              split at ef
              · rename_i es2 ers
                cases ef
                cases ex with
                | @tup la _ us hq hr =>
                  have : ∃ lb, EV X.K H1 ρ1 y (.ref lb) ∧ ∃ ys, SqL X.K H1 lb ys := by
                    cases ey with
                    | @kl lb _ ys sq r => exact ⟨lb, .kl sq r, ys, sq.l⟩
                    | @ref n lb hn =>
                      cases erd
                      dsimp only at ers
                      split at ers
                      · rename_i es3 hst
                        obtain ⟨ys, q1, q2⟩ := es1.seq hn hst
                        exact ⟨lb, .ref hn, ys, q1⟩
                      · cases ers
                    | _ => cases erd
                  obtain ⟨lb, ey2, ys, sy⟩ := this
                  have same : ∀ v, EV X.K H1 ρ1 y v → v = .ref lb → _ := fun v h _ => h
                  cases ey with
                  | @kl lb2 _ ys2 sq r => exact ⟨la, lb2, us, ys2, rfl, hq, sq.l, q.now (live_mix hq hr (.kl sq r) erd) es1⟩
                  | @ref n lb2 hn =>
                    cases erd
                    dsimp only at ers
                    split at ers
                    · rename_i es3 hst
                      obtain ⟨ys2, q1, q2⟩ := es1.seq hn hst
                      exact ⟨la, lb2, us, ys2, rfl, hq, q1, q.now (live_mix hq hr (.ref hn) rfl) es1⟩
                    · cases ers
                  | _ => cases erd
              · cases ef
            · cases ef
          · cases ef
    · exact q.elim
  · exact q.elim⟩
end
end Dn

set_option Elab.async false
set_option linter.all false
set_option maxRecDepth 100000
set_option maxHeartbeats 2000000
/-! enumerate of a list, of a tuple. -/
namespace Dn
open PySem PySem.Spec L2 PyProof.Rows
section
/-- its two new objects, whatever is walked -/
theorem meets_enum1 {v : Value} {ob : Obj} {Hh : Heap → Prop} (B : Begins v ob Hh) :
    Meets (Builtin.«enumerate.__new__» ⟨[.type "enumerate", v], []⟩) (fun _ R s => Hh s.heap ∧ R (.ok (.ret (.ref (s.heap.push ob).objs.size)))
      { s with heap := (s.heap.push ob).push { cls := .type "enumerate", data := .fields #[.none, .bool false, .ref s.heap.objs.size, rawInt 0, .none, .none] } }) :=
  .of_wp fun prog w A R s hh => by
    obtain ⟨hp, g, d, tk, os⟩ := s
    obtain ⟨there, hh⟩ := hh
    have is_sub := sub_enumerate
    have begun : ∀ {A1 : Around} {E1 Q1 : Value → Shared → Prop}, Q1 (.ref hp.objs.size) ⟨hp.push ob, g, d, tk, os⟩ → wpAny (model prog w) A1 (pyIter v) Q1 E1 ⟨hp, g, d, tk, os⟩ :=
      fun q => B.iter prog w _ _ ⟨hp, g, d, tk, os⟩ _ there q
    wp_walk using begun
    refine wpAny_stack_any fun top => wpAny_pure ?_
    split
    · rename_i cc _ _ _ _ _
      cases (cc == Value.type "enumerate")
      all_goals
        wp_walk using begun
        exact ⟨_, rfl, hh⟩
    · wp_walk using begun
      exact ⟨_, rfl, hh⟩
variable {prog : Program} {w : World} {A : Around} {E : Value → Shared → Prop} {s : Shared}
theorem enum_one {v : Value} {ob : Obj} {Hh : Heap → Prop} {Q : Value → Shared → Prop} (B : Begins v ob Hh) (there : Hh s.heap)
    (go : ∀ h', IsEnum h' (s.heap.objs.size + 1) s.heap.objs.size 0 .none → h'.get? s.heap.objs.size = some ob → (∀ b o, s.heap.get? b = some o → h'.get? b = some o) → Q (.ref (s.heap.objs.size + 1)) { s with heap := h' }) :
    wpAny (model prog w) A (call (.type "enumerate") [v]) Q E s := by
  refine callType_new F.called_enumerate (by decide) (F.typeCall_enumerate_1 _) (F.newCall_enumerate_1 _) (fun obj => F.args_object_init_2 obj _) F.entry_enumerate_new (meets_enum1 B) ⟨there, ?_⟩
  have size1 : (s.heap.push ob).objs.size = s.heap.objs.size + 1 := Heap.size_push ..
  have en : IsEnum ((s.heap.push ob).push { cls := .type "enumerate", data := .fields #[.none, .bool false, .ref s.heap.objs.size, rawInt 0, .none, .none] }) (s.heap.objs.size + 1) s.heap.objs.size 0 .none := by
    have made := Heap.get?_push_size (s.heap.push ob) (o := { cls := .type "enumerate", data := .fields #[.none, .bool false, .ref s.heap.objs.size, rawInt 0, .none, .none] }) rfl
    rw [size1] at made
    exact made
  show _ ∧ _
  rw [size1]
  exact ⟨⟨_, en, rfl⟩, go _ en (Heap.get?_push_of_some _ (Heap.get?_push_size _ B.free)) fun b o x => Heap.get?_push_of_some _ (Heap.get?_push_of_some _ x)⟩
end
/-- a tuple, each item in a new pair with its number -/
def IteT (K : PySem.W.Frag) (a : Addr) : It where
  go := fun i H => ∃ (xs : List V) (x : V), SqT K H a xs ∧ xs[i]? = some x
  yld := fun i H v H' => ∃ T x, v = .ref T ∧ H T = none ∧ H' = upd H T (.tup [.int (i : Nat), x]) ∧ ∀ xs, SqT K H a xs → xs[i]? = some x
  stop := fun i H => ∃ xs : List V, SqT K H a xs ∧ i = xs.length
section
variable {P : Program} {w : World} {K : PySem.W.Frag} {els : List Expr} {kx : Nat} {tp : Pos} {ta en it : Addr}
def stE (ta en it : Addr) (i : Nat) (h : Heap) : Prop := (∃ old, IsEnum h en it ((i : Nat) : Int) old) ∧ h.IsTupleIter it ta i ∧ en ≠ it ∧ en ≠ ta
theorem two_in {c : Addr} : c ∈ [en, it] ↔ c = en ∨ c = it := by simp
theorem turn_enumT : Turn P w K (.Tuple els kx tp) (IteT K ta) [en, it] en (stE ta en it) where
  mem := two_in.mpr (.inl rfl)
  obj := fun i h st c hc => by
    obtain ⟨⟨old, g1⟩, ⟨o, g2, _, g3⟩, _⟩ := st
    rcases two_in.mp hc with rfl | rfl
    · exact ⟨_, g1, fun v z => nomatch z⟩
    · exact ⟨o, g2, fun v z => by rw [g3] at z; cases z⟩
  keep := fun i h h' st k => by
    obtain ⟨⟨old, g1⟩, g2, g3⟩ := st
    exact ⟨⟨old, k en (two_in.mpr (.inl rfl)) _ g1⟩, g2.at fun o z => k it (two_in.mpr (.inr rfl)) o z, g3⟩
  item := by
    intro X eP ew eK calm i pins s σ H E I own st g
    cases eP; cases ew; cases eK
    obtain ⟨⟨old, g1⟩, g2, g3, g4⟩ := st
    obtain ⟨xs, x, sx, hx⟩ := g
    obtain ⟨ua, ra, pa, _⟩ := I.tuple sx
    obtain ⟨va, eva, rva⟩ := ra.get hx
    have hd : X.A.in1.handled = none := I.ok.hd calm
    have na : ta ≠ it := fun z => by
      obtain ⟨o, e1, e2, _⟩ := g2
      obtain ⟨o', e3, e4, _⟩ := show s.heap.IsTuple ta ua.toArray from pa
      rw [z, e1] at e3
      cases e3
      rw [e2] at e4
      exact absurd e4 (by decide)
    have lta : i < ua.toArray.size := by
      have := (List.getElem?_eq_some_iff.mp eva).1
      simpa using this
    have hel : en < s.heap.objs.size := Heap.lt_size g1
    refine wpAny_pyNext_enum_itemC (Draws.tuple hd it ta na ua.toArray) g1 ⟨g2, pa⟩ lta g3 (by simp [g3, g4]) fun z h' tk e1 f1 f2 f3 f4 f5 => ?_
    have e1' : z = va := by
      have q1 : ua.toArray[i]? = some va := by simpa using eva
      rw [q1] at e1
      exact (Option.some.inj e1).symm
    subst e1'
    refine ⟨_, rfl, wpAny_letOwnedTupleGo_enum (s := { s with heap := h', toks := tk + 1 }) f1 fun h2 k1 k2 => ?_⟩
    have pair2 : h2.get? s.heap.objs.size = some { cls := .type "tuple", data := .seq #[.int i tk, z] } := (k2.2 _ (Nat.ne_of_gt hel)).trans f3
    have made : ObjOk X.prog X.w (upd H s.heap.objs.size (.tup [.int (i : Nat), x])) h2 s.heap.objs.size (.tup [.int (i : Nat), x]) :=
      ⟨by show 2 ≤ sizeLine; decide, [.int i tk, z], .cons ⟨_, rfl⟩ (.cons rva .nil), ⟨_, pair2, rfl, _, rfl⟩⟩
    have I2 := I.turnedNew (t' := tk + 1) (ch := [en, it]) (fun c o nc u => by
      have n1 : c ≠ en := fun z => nc (two_in.mpr (.inl z))
      have n2 : c ≠ it := fun z => nc (two_in.mpr (.inr z))
      exact (k2.2 c n1).trans (f5 c o n1 n2 u)) own (Nat.le_refl _) made
    refine ⟨.ref s.heap.objs.size, _, I2, rfl, ⟨_, x, rfl, I.hok.fresh (Nat.le_refl _), rfl, fun l hl => by rw [I.tuple_inj hl sx]; exact hx⟩, ⟨⟨z, ?_⟩, f2.1.at fun o u => (k2.2 _ (Ne.symm g3)).trans u, g3, g4⟩, fun c hc => ?_⟩
    · have e2 : ((i + 1 : Nat) : Int) = (i : Int) + 1 := by omega
      rw [e2]
      exact k1
    · have lt : c < s.heap.objs.size := by
        rcases two_in.mp hc with z | z
        · rw [z]; exact hel
        · rw [z]; obtain ⟨_, u, _⟩ := g2; exact Heap.lt_size u
      rw [upd_ne (Nat.ne_of_lt lt)]
      exact (own c hc).1
  done := by
    intro X eP ew eK calm i pins s σ H E I own st g
    cases eP; cases ew; cases eK
    obtain ⟨⟨old, g1⟩, g2, g3, g4⟩ := st
    obtain ⟨xs, sx, fin⟩ := g
    obtain ⟨ua, ra, pa, _⟩ := I.tuple sx
    have hd : X.A.in1.handled = none := I.ok.hd calm
    have la1 := ra.length
    have na : ta ≠ it := fun z => by
      obtain ⟨o, e1, e2, _⟩ := g2
      obtain ⟨o', e3, e4, _⟩ := show s.heap.IsTuple ta ua.toArray from pa
      rw [z, e1] at e3
      cases e3
      rw [e2] at e4
      exact absurd e4 (by decide)
    have sa : ua.toArray.size = i := by simp; omega
    obtain ⟨a0, a1, a2, a3, a4, a5⟩ := own it (two_in.mpr (.inr rfl))
    refine wpAny_pyNext_enum_endD (Draws.tuple hd it ta na ua.toArray) g1 ⟨by rw [sa]; exact g2, pa⟩ fun h' kk => ?_
    exact ⟨rfl, I.turned (t' := s.toks) (fun b o nb u => kk b o nb u) a0 a1 a3 a4 a5⟩
  self := fun A i s Q E st h => wpAny_pyIter_enum st.1.choose_spec h
end
def iEnumB (K : PySem.W.Frag) (ta : TA) : TI := fun σ H R => ta σ H fun vs H1 => ∃ a, vs = [.ref a] ∧ ((∃ xs, SqL K H1 a xs ∧ R (Ite K a) H1) ∨ (∃ xs, SqT K H1 a xs ∧ R (IteT K a) H1))
theorem pi_enumB {X : Cx} {e : Expr} {ta : TA} {p pos tp : Pos} {els : List Expr} {kx : Nat} (hg : Gl X "enumerate") (hm : X.mg "enumerate" = none) (ha : PA X [e] ta) (hs : starEach [e] X.env = [(false, eval e X.env)] := by rfl) :
    PI X (.Tuple els kx tp) (.Call (.Name "enumerate" p) [e] [] pos) (iEnumB X.K ta) := by
  constructor
  intro pins s σ H R I h
  refine Call_ (ld_blt I hg hm boot_enumerate (PyProof.Rows.callWith_type1 (thn (ha.run pos pins s σ H _ I h) ?_) hs rfl))
  rintro us s1 ⟨vs, H1, I1, r1, a, ex, q⟩
  subst ex
  obtain ⟨u, eu, ru⟩ : ∃ u, us = [u] ∧ RelV (.ref a) u := by
    cases r1 with
    | cons r rr =>
      cases rr
      exact ⟨_, rfl, r⟩
  subst eu
  cases ru
  have own : ∀ b ∈ [s1.heap.objs.size + 1, s1.heap.objs.size], FpOk X pins H1 b := fun b hb => by
    have big : s1.heap.objs.size ≤ b := by
      rcases two_in.mp hb with z | z <;> rw [z] <;> first | exact Nat.le_add_right _ _ | exact Nat.le_refl _
    exact I1.fpOk big (I1.hok.fresh big)
  rcases q with ⟨xs, sx, q⟩ | ⟨xs, sx, q⟩
  · obtain ⟨ua, ra, pa, _⟩ := I1.list sx
    refine enum_one (begins_list a ua.toArray) pa.isList fun h' g1 g2 kk => wpAny_pyIter_enum g1 ?_
    exact ⟨s1.heap.objs.size + 1, _, _, _, H1, rfl, I1.kept (t' := s1.toks) kk, turn_enum a (s1.heap.objs.size + 1) s1.heap.objs.size, ⟨⟨_, g1⟩, ⟨_, g2, rfl, rfl⟩, Nat.succ_ne_self _⟩, own, q⟩
  · obtain ⟨ua, ra, pa, _⟩ := I1.tuple sx
    have pa' : s1.heap.IsTuple a ua.toArray := pa
    have lta : a < s1.heap.objs.size := by obtain ⟨o, e, _⟩ := pa'; exact Heap.lt_size e
    refine enum_one (begins_tuple a ua.toArray) pa' fun h' g1 g2 kk => wpAny_pyIter_enum g1 ?_
    exact ⟨s1.heap.objs.size + 1, _, _, _, H1, rfl, I1.kept (t' := s1.toks) kk, turn_enumT (ta := a), ⟨⟨_, g1⟩, ⟨_, g2, rfl, rfl⟩, Nat.succ_ne_self _, Nat.ne_of_gt (Nat.lt_succ_of_lt lta)⟩, own, q⟩
/-! ### on data -/
def enumFeed (f : Feed) : Feed := fun i st => match f i st with
  | some (some d) => some (some (.tup [.int (i : Int), d]))
  | some none => some none
  | none => none
/-- a tuple's numbers: the end stands at its length alone -/
def enumT (ds : List D) : Feed := fun i _ => match ds[i]? with
  | some d => some (some (.tup [.int (i : Int), d]))
  | none => if i = ds.length then some none else none
def itEnum (as : MA) : MI := fun env st => (as env st).bind fun xs st => match xs with
  | [.tup ds] => .ok (enumT ds, ds.length) st
  | [.kl ds] => .ok (enumFeed (seqFeed ds), ds.length) st
  | [.ref n] => match st[n]? with
    | some (.lst ds) => .ok (enumFeed (lstFeed n), ds.length) st
    | _ => .no
  | _ => .no
section
variable {K : PySem.W.Frag} {T : List (Addr × Str)} {H : Hp} {ρ : List Addr} {a : Addr}
theorem live_enumT {ds : List D} {xs : List V} (hq : SqT K H a xs) (hr : EVs K H ρ ds xs) : Live K T H ρ (IteT K a) (enumT ds) := by
  refine ⟨fun H' ρ' st i fr hes hh => ?_, fun H' ρ' st i d fr hes hh => ?_⟩
  · unfold enumT at hh
    cases e : ds[i]? with
    | some d => rw [e] at hh; cases hh
    | none =>
      rw [e] at hh
      dsimp only at hh
      split at hh
      · rename_i hi
        exact ⟨xs, fr.rd hq, by rw [hi, hr.length]⟩
      · cases hh
  · unfold enumT at hh
    cases e : ds[i]? with
    | none =>
      rw [e] at hh
      dsimp only at hh
      split at hh <;> cases hh
    | some u =>
      rw [e] at hh
      cases hh
      obtain ⟨x, e1, e2⟩ := (hr.mono fr).get e
      refine ⟨⟨xs, x, fr.rd hq, e1⟩, fun t H'' yl => ?_⟩
      obtain ⟨Ta, q, rfl, hT, rfl, hp⟩ := yl
      have ep := hp xs (fr.rd hq)
      rw [e1] at ep
      cases ep
      have fl : Fr H' ρ' (upd H' Ta (.tup [.int (i : Nat), x])) ρ' := Fr.laid hT
      exact ⟨fl, .tup (.inl (.inl upd_same)) (.cons (.int _) (.cons (e2.mono fl) .nil)), hes.laid hT⟩
theorem live_enumL {f : Feed} (h1 : RdS K T (fun H => SqL K H a) H ρ f) : Live K T H ρ (Ite K a) (enumFeed f) := by
  refine ⟨fun H' ρ' st i fr hes hh => ?_, fun H' ρ' st i d fr hes hh => ?_⟩
  · unfold enumFeed at hh
    cases e : f i st with
    | none => rw [e] at hh; cases hh
    | some o =>
      rw [e] at hh
      cases o with
      | some d => cases hh
      | none =>
        obtain ⟨vs, ds, a1, a2, a3⟩ := h1 H' ρ' st i _ fr hes e
        exact ⟨vs, a1, by rw [← a2.length]; exact List.getElem?_eq_none_iff.mp a3⟩
  · unfold enumFeed at hh
    cases e : f i st with
    | none => rw [e] at hh; cases hh
    | some o =>
      rw [e] at hh
      cases o with
      | none => cases hh
      | some u =>
        cases hh
        obtain ⟨vs, ds, a1, a2, a3⟩ := h1 H' ρ' st i _ fr hes e
        obtain ⟨x, e1, e2⟩ := a2.get a3
        refine ⟨⟨vs, x, a1, e1⟩, fun t H'' yl => ?_⟩
        obtain ⟨Ta, q, rfl, hT, rfl, hp⟩ := yl
        have ep := hp vs a1
        rw [e1] at ep
        cases ep
        have fl : Fr H' ρ' (upd H' Ta (.tup [.int (i : Nat), x])) ρ' := Fr.laid hT
        exact ⟨fl, .tup (.inl (.inl upd_same)) (.cons (.int _) (.cons (e2.mono fl) .nil)), hes.laid hT⟩
end
theorem si_enum {X : Cx} {G : Gx} {a : Expr} {els : List Expr} {tas : TA} {mas : MA} {pos p tp : Pos} {kx : Nat} (hg : Gl X "enumerate") (hm : X.mg "enumerate" = none) (ha : SA X G [a] tas mas) (hs : starEach [a] X.env = [(false, eval a X.env)] := by rfl) :
    SI X G (.Tuple els kx tp) (.Call (.Name "enumerate" p) [a] [] pos) (iEnumB X.K tas) (itEnum mas) := ⟨pi_enumB hg hm ha.pe hs, fun σ env ρ st H Q ev es h => by
  refine ha.sd σ env ρ st H _ ev es (h.bind fun xs st1 ρ1 H1 vs f1 e1 es1 q => ?_)
  split at q
  · cases e1 with
    | cons ex r =>
      cases r
      cases ex with
      | @tup a _ us hq hr => exact ⟨a, rfl, .inr ⟨us, hq, q.now (live_enumT hq hr) es1⟩⟩
  · cases e1 with
    | cons ex r =>
      cases r
      cases ex with
      | @kl a _ us hq hr => exact ⟨a, rfl, .inl ⟨us, hq.l, q.now (live_enumL (rd_kl hq hr)) es1⟩⟩
  · rename_i n
    split at q
    · rename_i ds hst
      cases e1 with
      | cons ex r =>
        cases r
        cases ex with
        | @ref _ a hn =>
          obtain ⟨us, q1, q2⟩ := es1.seq hn hst
          exact ⟨a, rfl, .inl ⟨us, q1, q.now (live_enumL (rd_lst hn)) es1⟩⟩
    · exact q.elim
  · exact q.elim⟩
end Dn

set_option Elab.async false
set_option linter.all false
set_option maxRecDepth 100000
set_option maxHeartbeats 2000000
/-! insert. -/
namespace Dn
open PySem PySem.Spec L2 PyProof.Rows
section
variable {K : PySem.W.Frag} {G : Gx}
def insertD : FM := fun o xs st => match o, xs with
  | .ref n, [.int i, y] => match st[n]? with
    | some (.lst ds) => if ds.length < 1000000 ∧ 0 ≤ i ∧ i < 2 ^ 63 then .ok .non (st.set n (.lst (ds.take i.toNat ++ [y] ++ ds.drop i.toNat))) else .no
    | _ => .no
  | _, _ => .no
theorem ms_insert : MtSo K G (fun x vs H Q => ∃ (l : Addr) (xs : List V) (i : Int) (y : V), x = .ref l ∧ vs = [.int i, y] ∧ H l = some (.lst xs) ∧ xs.length < sizeLine ∧ 0 ≤ i ∧ i < 2 ^ 63 ∧
    Q .non (upd H l (.lst (xs.take i.toNat ++ [y] ++ xs.drop i.toNat)))) insertD := by
  intro o xs vo vs ρ st H Q eo exs es h
  unfold insertD at h
  split at h
  · rename_i n i y
    split at h
    · rename_i ds e1
      split at h
      · rename_i hc
        obtain ⟨p, rfl, hn⟩ := eo.ofRef
        cases exs with
        | cons ei r =>
          cases ei
          cases r with
          | @cons _ vy _ _ ey r =>
            cases r
            obtain ⟨us, q1, q2⟩ := es.cell n p _ hn e1
            have fw : Fr H ρ (upd H p (.lst (us.take i.toNat ++ [vy] ++ us.drop i.toNat))) ρ := Fr.write (List.mem_of_getElem? hn) q1
            exact ⟨p, us, i, _, rfl, rfl, q1, by rw [← q2.length]; exact Nat.lt_of_lt_of_le hc.1 (by decide), hc.2.1, hc.2.2, h ρ _ _ fw .non (es.write hn q1 (((q2.take _).append (.cons ey .nil)).append (q2.drop _)))⟩
      · exact h.elim
    · exact h.elim
  · exact h.elim
/-- append, to longer lists -/
def appendB : FM := fun o xs st => match o, xs with
  | .ref n, [y] => match st[n]? with
    | some (.lst ds) => if ds.length < 1000000 then .ok .non (st.set n (.lst (ds ++ [y]))) else .no
    | _ => .no
  | _, _ => .no
theorem ms_appendB : MtSo K G rAppend appendB := by
  intro o xs vo vs ρ st H Q eo exs es h
  unfold appendB at h
  split at h
  · rename_i n y
    split at h
    · rename_i ds q
      split at h
      · rename_i hl
        obtain ⟨a, rfl, hn⟩ := eo.ofRef
        obtain ⟨v, rfl, ev⟩ := exs.one rfl
        obtain ⟨ws, q1, q2⟩ := es.cell n a _ hn q
        exact ⟨a, ws, v, rfl, rfl, q1, by rw [← q2.length]; exact Nat.lt_of_lt_of_le hl (by decide), h ρ _ _ (Fr.write (List.mem_of_getElem? hn) q1) .non (es.write hn q1 (q2.append (.cons ev .nil)))⟩
      · exact h.elim
    · exact h.elim
  · exact h.elim
end
end Dn

set_option Elab.async false
set_option linter.all false
set_option maxRecDepth 100000
set_option maxHeartbeats 2000000
/-! a, b = a list. -/
namespace Dn
open PySem PySem.Spec L2 PyProof.Rows
/-- a list of that length -/
def gLst (K : PySem.W.Frag) (n : Nat) (t : TGs) : TG := fun v σ H Q => ∃ a xs, v = .ref a ∧ SqL K H a xs ∧ xs.length = n ∧ t xs σ H Q
theorem pg_lst {X : Cx} {es : List Expr} {kx n : Nat} {t : TGs} {pos : Pos} (calm : X.calm = true) (each : PGs X es t) (many : (assignEach es X.env).length = n := by rfl) (nostar : (assignEach es X.env).findIdx? (·.1) = none := by rfl) :
    PG X (.Tuple es kx pos) (gLst X.K n t) := by
  constructor
  intro pins s σ H v u Q I r hw
  obtain ⟨a, xs, ev, sx, len, hw⟩ := hw
  subst ev
  cases r
  obtain ⟨ua, ra, pa, _⟩ := I.list sx
  have hd : X.A.handled = none := I.ok.hd calm
  rw [arm_assign_Tuple]
  refine wpAny_bind (wpAny_standAt ?_)
  unfold unpack
  have many2 : (assignEach es X.env).length = ua.toArray.size := by
    have := ra.length
    rw [many, ← len, this]
    simp
  rw [many2, nostar]
  refine wpAny_bind (wpAny_holding (PySem.W.kun_itemsOf hd pa.isList fun h' kk => ?_))
  have I1 : Inv X pins σ H { s with heap := h' } := I.kept (t' := s.toks) fun b o e => kk b o (Nat.ne_of_lt (Heap.lt_size e)) e
  exact each.run pins _ σ H xs _ Q I1 (by simpa using ra) hw
def mLst (n : Nat) (gs : MGs) : MG := fun d env st => match d with
  | .ref r => match st[r]? with
    | some (.lst ds) => if ds.length = n then gs ds env st else .no
    | _ => .no
  | _ => .no
theorem sg_lst {X : Cx} {G : Gx} {es : List Expr} {kx n : Nat} {gs : TGs} {mgs : MGs} {pos : Pos} (calm : X.calm = true) (h : SGs X G es gs mgs) (many : (assignEach es X.env).length = n := by rfl) (nostar : (assignEach es X.env).findIdx? (·.1) = none := by rfl) :
    SG X G (.Tuple es kx pos) (gLst X.K n gs) (mLst n mgs) :=
  ⟨pg_lst calm h.pe many nostar, fun d v σ env ρ st H Q hd ev es q => by
  cases hd with
  | @ref r a hn =>
    simp only [mLst] at q
    cases e : st[r]? with
    | none => rw [e] at q; exact q.elim
    | some c =>
      rw [e] at q
      cases c with
      | dct kvs => exact q.elim
      | dtt _ => exact q.elim
      | obj _ _ => exact q.elim
      | exc _ => exact q.elim
      | lst ds =>
        dsimp only at q
        by_cases hl : ds.length = n
        · rw [if_pos hl] at q
          obtain ⟨vs, q1, q2⟩ := es.cell r a _ hn e
          exact ⟨a, vs, rfl, .inl (.inl q1), by rw [← q2.length]; exact hl, h.sd ds vs σ env ρ st H Q q2 ev es q⟩
        · rw [if_neg hl] at q
          exact q.elim
  | _ => exact q.elim⟩
end Dn

set_option Elab.async false
set_option linter.all false
set_option maxRecDepth 100000
set_option maxHeartbeats 2000000
/-! Dicts whose keys are tuples of ints, wherever the tuples stand; list of a dict; two targets. -/
namespace Dn
open PySem PySem.Spec PyProof.Rows L2
abbrev Ws := List (List Int × Addr × V)
abbrev Xs := List (List Int × Addr × Value)
def KI : Ws → Xs → Prop := Paired (fun (p : List Int × Addr × V) (q : List Int × Addr × Value) => p.1 = q.1 ∧ p.2.1 = q.2.1 ∧ RelV p.2.2 q.2.2)
def getW (ws : Ws) (k : List Int) : Option V := (ws.find? fun x => decide (x.1 = k)).map (·.2.2)
def putW (ws : Ws) (k : List Int) (b : Addr) (v : V) : Ws := if (ws.any fun x => decide (x.1 = k)) = true then ws.map (fun x => if x.1 = k then (x.1, x.2.1, v) else x) else ws ++ [(k, b, v)]
theorem items_ints {P : Program} {w : World} : ∀ {k : List Int} {its : List Value}, Vals (k.map V.int) its → ItemsAre (intKind P w) k its
  | [], _, .nil => .nil
  | i :: k, _, .cons r t => .cons (by obtain ⟨u, rfl⟩ := r; simp [PySem.intKind, Value.isInt]) (items_ints t)
section
variable {X : Cx} {pins : List (Addr × Obj)} {σ : L2.St} {H : Hp} {s : Shared} {a b : Addr} {k : List Int} {ws : Ws}
theorem keyI (I : Inv X pins σ H s) (h : SqT X.K H a (k.map V.int)) : (tupleKind (intKind X.prog X.w)).is s.heap k a := by
  obtain ⟨its, r, ⟨o, e, c, n, d⟩, z⟩ := I.tuple h
  exact ⟨o, its.toArray, n, e, c, d, by simpa using items_ints r⟩
theorem KI.mem {ws : Ws} {xs : Xs} (r : KI ws xs) : ∀ x ∈ xs, ∃ p ∈ ws, p.1 = x.1 ∧ p.2.1 = x.2.1 := by
  unfold KI at r
  induction r with
  | nil => intro x hx; exact nomatch hx
  | @cons p q ps qs h t ih =>
    intro x hx
    rcases List.mem_cons.mp hx with e | hx
    · subst e; exact ⟨p, List.mem_cons_self, h.1, h.2.1⟩
    · obtain ⟨p', h1, h2⟩ := ih x hx
      exact ⟨p', List.mem_cons_of_mem _ h1, h2⟩
theorem KI.keys {ws : Ws} {xs : Xs} (r : KI ws xs) : ws.map (·.1) = xs.map (·.1) := by
  unfold KI at r
  induction r with
  | nil => rfl
  | @cons p q ps qs h t ih => rw [List.map_cons, List.map_cons, h.1, ih]
theorem KI.addrs {ws : Ws} {xs : Xs} (r : KI ws xs) : ws.map (fun x => x.2.1) = xs.map (fun x => x.2.1) := by
  unfold KI at r
  induction r with
  | nil => rfl
  | @cons p q ps qs h t ih => rw [List.map_cons, List.map_cons, h.2.1, ih]
theorem KI.at {ws : Ws} {xs : Xs} (r : KI ws xs) (k : List Int) : (getW ws k = none ∧ atKey xs k = none) ∨ ∃ v p, getW ws k = some v ∧ atKey xs k = some p ∧ RelV v p.2 := by
  unfold KI at r
  induction r with
  | nil => exact .inl ⟨rfl, rfl⟩
  | @cons p q ps qs h t ih =>
    by_cases e : p.1 = k
    · exact .inr ⟨p.2.2, q.2, by simp [getW, List.find?_cons, e], by simp [atKey, List.find?_cons, ← h.1, e], h.2.2⟩
    · have g1 : getW (p :: ps) k = getW ps k := by simp [getW, List.find?_cons, e]
      have g2 : atKey (q :: qs) k = atKey qs k := by simp [atKey, List.find?_cons, ← h.1, e]
      rw [g1, g2]
      exact ih
theorem KI.any {ws : Ws} {xs : Xs} (r : KI ws xs) (k : List Int) : (ws.any fun x => decide (x.1 = k)) = (atKey xs k).isSome := by
  unfold KI at r
  induction r with
  | nil => rfl
  | @cons p q ps qs h t ih =>
    by_cases e : p.1 = k
    · simp [atKey, List.find?_cons, ← h.1, e]
    · have g2 : atKey (q :: qs) k = atKey qs k := by simp [atKey, List.find?_cons, ← h.1, e]
      rw [g2, ← ih, List.any_cons, decide_eq_false e, Bool.false_or]
theorem KI.upd {ws : Ws} {xs : Xs} (r : KI ws xs) (k : List Int) {v : V} {u : Value} (rv : RelV v u) : KI (ws.map (fun x => if x.1 = k then (x.1, x.2.1, v) else x)) (xs.map (putAt k u)) := by
  unfold KI at r ⊢
  induction r with
  | nil => exact .nil
  | @cons p q ps qs h t ih =>
    rw [List.map_cons, List.map_cons]
    refine .cons ?_ ih
    unfold putAt
    by_cases e : p.1 = k
    · rw [if_pos e, if_pos (h.1 ▸ e)]
      exact ⟨h.1, h.2.1, rv⟩
    · rw [if_neg e, if_neg (h.1 ▸ e)]
      exact h
theorem Paired.app {α β : Type} {F : α → β → Prop} : ∀ {l₁ : List α} {l₂ : List β} {m₁ : List α} {m₂ : List β}, Paired F l₁ l₂ → Paired F m₁ m₂ → Paired F (l₁ ++ m₁) (l₂ ++ m₂)
  | _, _, _, _, .nil, h => h
  | _, _, _, _, .cons r t, h => .cons r (Paired.app t h)
theorem KI.put {ws : Ws} {xs : Xs} (r : KI ws xs) (k : List Int) (b : Addr) {v : V} {u : Value} (rv : RelV v u) : KI (putW ws k b v) (storedH xs k b u) := by
  unfold putW storedH
  rw [r.any k]
  by_cases e : (atKey xs k).isSome = true
  · rw [if_pos e, if_pos e]
    exact r.upd k rv
  · rw [if_neg e, if_neg e]
    exact Paired.app r (.cons ⟨rfl, rfl, rv⟩ .nil)
theorem putW_len (ws : Ws) (k : List Int) (b : Addr) (v : V) : (putW ws k b v).length ≤ ws.length + 1 := by
  unfold putW
  split
  · rw [List.length_map]; omega
  · rw [List.length_append]; exact Nat.le_refl _
theorem putW_keys {K : PySem.W.Frag} {H : Hp} {ws : Ws} {k : List Int} {b : Addr} {v : V} (h : ∀ x ∈ ws, SqT K H x.2.1 (x.1.map V.int)) (hb : SqT K H b (k.map V.int)) : ∀ x ∈ putW ws k b v, SqT K H x.2.1 (x.1.map V.int) := by
  unfold putW
  split
  · intro x hx
    obtain ⟨y, hy, e⟩ := List.mem_map.mp hx
    by_cases q : y.1 = k
    · rw [if_pos q] at e; subst e; exact h y hy
    · rw [if_neg q] at e; subst e; exact h y hy
  · intro x hx
    rcases List.mem_append.mp hx with hx | hx
    · exact h x hx
    · rw [List.mem_singleton.mp hx]; exact hb
theorem td_of (I : Inv X pins σ H s) (e : H a = some (TDO a ws)) (hk : ∀ x ∈ ws, SqT X.K H x.2.1 (x.1.map V.int)) :
    ws.length ≤ sizeLine ∧ (a == sysModules) = false ∧ ∃ xs, KI ws xs ∧ s.heap.DictOfH (tupleKind (intKind X.prog X.w)) a xs := by
  obtain ⟨⟨z, hd, nd, xs, r, o, es, ep, h1, h2, h3, h4⟩, _, _⟩ := (show ObjOk X.prog X.w H s.heap a (.ext (TD a ws)) from I.hok a _ e)
  refine ⟨z, hd, xs, r, o, es, ep, h1, h2, h3, h4 _ _, ?_, ?_⟩
  · intro x hx
    obtain ⟨p, hp, e1, e2⟩ := KI.mem r x hx
    rw [← e1, ← e2]
    exact keyI I (hk p hp)
  · rw [KI.keys r] at nd; exact nd
theorem td_new {P : Program} {w : World} {H' : Hp} {h' : Heap} {xs : Xs} (z : ws.length ≤ sizeLine) (hd : (a == sysModules) = false) (r : KI ws xs) (dd : h'.DictOfH (tupleKind (intKind P w)) a xs) : ObjOk P w H' h' a (TDO a ws) := by
  obtain ⟨o, es, ep, h1, h2, h3, h4, _, h5⟩ := dd
  refine ⟨⟨z, hd, by rw [KI.keys r]; exact h5, xs, r, o, es, ep, h1, h2, h3, fun _ _ => h4⟩, ⟨o, h1⟩, ?_⟩
  rintro g1 g2 ⟨z, hd, nd, xs, r, o, es, ep, h1, h2⟩ hs
  exact ⟨z, hd, nd, xs, r, o, es, ep, hs o h1, h2⟩
end

/-! ### the operations -/
def rTIn (K : PySem.W.Frag) (neg : Bool) : R2 := fun y x H Q => ∃ a b k ws, x = .ref a ∧ y = .ref b ∧ H a = some (TDO a ws) ∧ (∀ x ∈ ws, SqT K H x.2.1 (x.1.map V.int)) ∧ SqT K H b (k.map V.int) ∧ Q (.bl (if neg then !(getW ws k).isSome else (getW ws k).isSome)) H
section
variable {X : Cx} {o i e value : Expr} {pos pos' : Pos} {td ty tv : TE}
theorem op_tin (hu : X.A.units + 64 < cLine) : OpR X (compareOp .In) (rTIn X.K false) := by
  have hu : X.A.units + 1 < cLine := by omega
  intro pins s σ H x y u v Q I rx ry h
  obtain ⟨a, b, k, ws, rfl, rfl, e, hk, hb, q⟩ := h
  obtain rfl : u = Value.ref b := rx
  obtain rfl : v = Value.ref a := ry
  obtain ⟨z, hd, xs, rel, dd⟩ := td_of I e hk
  refine wpAny_in_heap (tupleKind_room_in1 hu) (keyI I hb) hd dd ⟨_, H, I.tok _, ?_, q⟩
  have e1 : (getW ws k).isSome = (atKey xs k).isSome := by
    rcases KI.at rel k with ⟨h1, h2⟩ | ⟨v, p, h1, h2, _⟩ <;> rw [h1, h2] <;> rfl
  rw [← e1]
  rfl
theorem op_tnotin (hu : X.A.units + 64 < cLine) : OpR X (compareOp .NotIn) (rTIn X.K true) := by
  have hu : X.A.units + 1 < cLine := by omega
  intro pins s σ H x y u v Q I rx ry h
  obtain ⟨a, b, k, ws, rfl, rfl, e, hk, hb, q⟩ := h
  obtain rfl : u = Value.ref b := rx
  obtain rfl : v = Value.ref a := ry
  obtain ⟨z, hd, xs, rel, dd⟩ := td_of I e hk
  refine wpAny_notIn_heap (tupleKind_room_in1 hu) (keyI I hb) hd dd ⟨_, H, I.tok _, ?_, q⟩
  have e1 : (getW ws k).isSome = (atKey xs k).isSome := by
    rcases KI.at rel k with ⟨h1, h2⟩ | ⟨v, p, h1, h2, _⟩ <;> rw [h1, h2] <;> rfl
  rw [← e1]
  rfl
def tTGet (K : PySem.W.Frag) (td ty : TE) : TE := fun σ H Q => td σ H fun x H1 => ty σ H1 fun y H2 => ∃ a b k ws v, x = .ref a ∧ y = .ref b ∧ H2 a = some (TDO a ws) ∧ (∀ x ∈ ws, SqT K H2 x.2.1 (x.1.map V.int)) ∧ SqT K H2 b (k.map V.int) ∧ getW ws k = some v ∧ Q v H2
theorem pe_tget (hu : X.A.units + 1 < cLine) (ho : PE X o td) (hi : PE X i ty) (hs : NoSl i) : PE X (.Subscript o i pos) (tTGet X.K td ty) := by
  refine ⟨fun pins s σ H Q I h => ?_⟩
  refine subD_of PySem.F.slot_dict_getitem.lookup hs (thn (ho.run pins s σ H _ I h) fun u s1 ⟨x, H1, I1, rx, q1⟩ => thn (hi.run pins s1 σ H1 _ I1 q1) fun iv s2 ⟨y, H2, I2, ry, a, b, k, ws, v, ex, ey, e, hk, hb, g, q2⟩ => ?_)
  subst ex ey
  obtain rfl : u = Value.ref a := rx
  obtain rfl : iv = Value.ref b := ry
  obtain ⟨z, hd, xs, rel, dd⟩ := td_of I2 e hk
  rcases KI.at rel k with ⟨h1, _⟩ | ⟨v', p, h1, hp, rp⟩
  · rw [h1] at g; cases g
  · rw [h1] at g; cases g
    exact ⟨dd.typeIs, wpAny_getItem_heap (tupleKind_room_in1 hu) (keyI I2 hb) dd hp ⟨v, H2, I2.tok _, rp, q2⟩⟩
def sTPut (K : PySem.W.Frag) (td ty tv : TE) : TS := fun D σ H => tv σ H fun v H1 => td σ H1 fun x H2 => ty σ H2 fun y H3 => ∃ a b k ws, x = .ref a ∧ y = .ref b ∧ H3 a = some (TDO a ws) ∧ (∀ x ∈ ws, SqT K H3 x.2.1 (x.1.map V.int)) ∧ SqT K H3 b (k.map V.int) ∧ ws.length < sizeLine ∧
  D.nx σ (upd H3 a (TDO a (putW ws k b v)))
theorem ps_tput (hu : X.A.units + 1 < cLine) (ho : PE X o td) (hi : PE X i ty) (hv : PE X value tv) (hs : swapsWith value (some (.Subscript o i pos')) pos.line X.env = pure false) :
    PS X (.Assign [.Subscript o i pos'] value pos) (sTPut X.K td ty tv) := by
  refine ⟨fun pins s σ H D I h => ?_⟩
  refine wpAny_Assign_Subscript (thn (hv.run pins s σ H _ I h) fun r s1 ⟨v, H1, I1, rv, q1⟩ => thn (ho.run pins s1 σ H1 _ I1 q1) fun u s2 ⟨x, H2, I2, rx, q2⟩ => thn (hi.run pins s2 σ H2 _ I2 q2) fun iv s3 ⟨y, H3, I3, ry, a, b, k, ws, ex, ey, e, hk, hb, hl, q3⟩ => ?_) hs
  subst ex ey
  obtain rfl : u = Value.ref a := rx
  obtain rfl : iv = Value.ref b := ry
  obtain ⟨z, hd, xs, rel, dd⟩ := td_of I3 e hk
  have hz : xs.length ≤ sizeLine := by rw [← Paired.length rel]; exact z
  have hl2 : (putW ws k b v).length ≤ sizeLine := by have := putW_len ws k b v; omega
  refine wpAny_setItem_heap (hsz := hz) (tupleKind_room_in1 hu) (keyI I3 hb) dd fun h' dd' hs => ⟨σ, _, ?_, q3⟩
  have he : ∃ q, h'.get? a = some q := let ⟨q, _, _, hq, _⟩ := dd'; ⟨q, hq⟩
  exact d_write I3 (by rw [e]; exact True.intro) hs he (td_new hl2 hd (KI.put rel k b rv) dd')
def tTDisp (K : PySem.W.Frag) (tk tv : TE) : TE := fun σ H Q => ∀ p, H p = none → tk σ (upd H p (TDO p [])) fun x H1 => tv σ H1 fun y H2 => ∃ b k, x = .ref b ∧ H2 p = some (TDO p []) ∧ SqT K H2 b (k.map V.int) ∧ Q (.ref p) (upd H2 p (TDO p [(k, b, y)]))
theorem pe_tdisp {kx vx : Expr} (hu : X.A.units < cLine) (hk : PE X kx ty) (hv : PE X vx tv) : PE X (.Dict [some kx] [vx] pos) (tTDisp X.K ty tv) := by
  refine ⟨fun pins s σ H Q I q => ?_⟩
  have hn := I.hok.fresh (Nat.le_refl s.heap.objs.size)
  have hsys : (s.heap.objs.size == sysModules) = false := beq_eq_false_iff_ne.mpr (Ne.symm (Nat.ne_of_lt I.big))
  have I1 := I.laid (a := s.heap.objs.size) (o := TDO s.heap.objs.size []) (h' := s.heap.push { cls := .type "dict", data := .dict #[] }) (t' := s.toks) (fun _ _ q => Heap.get?_push_of_some _ q) (Nat.le_refl _)
    (td_new (P := X.prog) (w := X.w) (Nat.zero_le _) hsys (xs := []) .nil (Heap.DictOfH.new s.heap))
  rw [arm_eval_Dict, zip_pairTrees [some kx] [vx] X.env pos rfl rfl, dictDisplay_pairs _ (by simp [pairTrees]) (by simp [pairTrees])]
  refine wpAny_bind (wpAny_standAt (wpAny_bind (wpAny_subDictH (knd := tupleKind (intKind X.prog X.w)) hu (by simp [pairTrees]) ?_)))
  refine pairTrees_cons_walk (thn (hk.run pins _ σ _ _ I1 (q _ hn)) fun u s1 ⟨x, H1, I2, rx, q1⟩ => thn (hv.run pins s1 σ H1 _ I2 q1) fun w2 s2 ⟨y, H2, I3, ry, b, k, ex, e, hb, q2⟩ => pairTrees_nil_walk ?_)
  subst ex
  obtain rfl : u = Value.ref b := rx
  obtain ⟨z, hd, xs, rel, dd⟩ := td_of I3 e (fun x hx => nomatch hx)
  cases rel
  refine ⟨[(k, b, w2)], ⟨rfl, rfl, keyI I3 hb, True.intro⟩, dd, fun h' tk dd' hs => wpAny_pure ⟨.ref s.heap.objs.size, _, ?_, rfl, q2⟩⟩
  have he : ∃ q, h'.get? s.heap.objs.size = some q := let ⟨q, _, _, hq, _⟩ := dd'; ⟨q, hq⟩
  exact d_write I3 (by rw [e]; exact True.intro) hs he (td_new (ws := [(k, b, y)]) (by rw [sizeLine_eq]; exact (by decide : (1 : Nat) ≤ 16777216)) hd (.cons ⟨rfl, rfl, ry⟩ .nil) dd')
theorem call_list_tI (hc : X.calm = true) : CallR X (.type "list") (fun xs H Q => ∃ d ws, xs = [V.ref d] ∧ H d = some (TDO d ws) ∧ (∀ x ∈ ws, SqT X.K H x.2.1 (x.1.map V.int)) ∧ ∀ p, H p = none → Q (.ref p) (upd H p (.lst (ws.map fun x => V.ref x.2.1)))) := by
  intro pins s σ H xs us Q I r h
  obtain ⟨d, ws, rfl, hd, hk, q⟩ := h
  obtain ⟨u, rfl, rx⟩ := r.one
  cases rx
  obtain ⟨z, hs, ks, pr, o, es, ep, ho, hx, hdt, he, _, hn⟩ := td_of I hd hk
  have l1 : es.size = ks.length := size_of_entries he
  have l2 : ws.length = ks.length := Paired.length pr
  refine PySem.W.kdl_call (kdl_raw hs hx hdt) (I.ok.hd hc) ho (by omega) fun h' tk acc' c' kp e it => ?_
  have ea : acc'.toList = ks.map fun x => Value.ref x.2.1 := by
    have hl : acc'.toList.length = ks.length := by rw [Array.length_toList, it.1]; exact l1
    apply List.ext_getElem?
    intro j
    rw [List.getElem?_map]
    cases hj : acc'.toList[j]? with
    | none =>
      have h1 := List.getElem?_eq_none_iff.mp hj
      rw [List.getElem?_eq_none (by omega)]
      all_goals rfl
    | some v =>
      obtain ⟨en, hen, hv⟩ := it.2 j v (by rw [← Array.getElem?_toList]; exact hj)
      have qe := entry_at he j
      rw [hen] at qe
      cases hb : ks[j]? with
      | none =>
        rw [hb] at qe
        exact nomatch (show some en = none from qe)
      | some b =>
        rw [hb] at qe
        have e2 : en = entryOfKey (tupleKind (intKind X.prog X.w)) b := Option.some.inj qe
        rw [hv, e2]
        all_goals rfl
  have eb : acc'.toList = (ks.map fun x => x.2.1).map Value.ref := by rw [ea, List.map_map]; all_goals rfl
  have ec : (ws.map fun x => V.ref x.2.1) = (ks.map fun x => x.2.1).map V.ref := by rw [← KI.addrs pr, List.map_map]; all_goals rfl
  have rv : Vals (ws.map fun x => V.ref x.2.1) acc'.toList := by rw [ec, eb]; exact vals_refs _
  have hz : (ws.map fun x => V.ref x.2.1).length ≤ sizeLine := by rw [List.length_map]; omega
  refine ⟨.ref s.heap.objs.size, _, I.laid (t' := tk) (o := .lst (ws.map fun x => V.ref x.2.1)) kp (Nat.le_refl _) ?_, rfl, q _ (I.hok.fresh (Nat.le_refl _))⟩
  exact ⟨hz, acc'.toList, c', rv, by rw [Array.toArray_toList]; exact e⟩
end

/-! ### what they make of data -/
def intsD : List D → Option (List Int)
  | [] => some []
  | .int i :: r => (intsD r).map (i :: ·)
  | _ => none
def getI (kvs : List (List Int × D)) (k : List Int) : Option D := (kvs.find? fun x => decide (x.1 = k)).map (·.2)
def putI (kvs : List (List Int × D)) (k : List Int) (d : D) : List (List Int × D) := if (kvs.any fun x => decide (x.1 = k)) = true then kvs.map (fun x => if x.1 = k then (x.1, d) else x) else kvs ++ [(k, d)]
section
variable {K : PySem.W.Frag} {T : List (Addr × Str)} {G : Gx} {H : Hp} {ρ : List Addr} {st : Sto}
theorem ints_of : ∀ {ds : List D} {vs : List V} {k : List Int}, EVs K H ρ ds vs → intsD ds = some k → vs = k.map V.int
  | [], _, k, .nil, e => by cases e; rfl
  | .int i :: r, _, k, .cons h t, e => by
    cases h
    unfold intsD at e
    cases q : intsD r with
    | none => rw [q] at e; cases e
    | some k' =>
      rw [q] at e
      cases e
      rw [ints_of t q]
      rfl
  | .non :: _, _, _, .cons _ _, e => nomatch e
  | .bl _ :: _, _, _, .cons _ _, e => nomatch e
  | .str _ :: _, _, _, .cons _ _, e => nomatch e
  | .tup _ :: _, _, _, .cons _ _, e => nomatch e
  | .ref _ :: _, _, _, .cons _ _, e => nomatch e
  | .ty _ :: _, _, _, .cons _ _, e => nomatch e
  | .kl _ :: _, _, _, .cons _ _, e => nomatch e
  | .ob _ :: _, _, _, .cons _ _, e => nomatch e
theorem evs_ints : ∀ k : List Int, EVs K H ρ (k.map D.int) (k.map V.int)
  | [] => .nil
  | i :: k => .cons (.int i) (evs_ints k)
/-- a tuple of ints, as a key -/
def D.ik : D → Option (List Int)
  | .tup ds => intsD ds
  | _ => none
theorem ik_of {d : D} {v : V} {k : List Int} (e : EV K H ρ d v) (h : d.ik = some k) : ∃ b, v = .ref b ∧ SqT K H b (k.map V.int) := by
  cases e with
  | @tup a ds vs h1 h2 => exact ⟨a, rfl, by rw [← ints_of h2 h]; exact h1⟩
  | _ => cases h
theorem getI_of {k : List Int} : ∀ {kvs : List (List Int × D)} {ws : Ws}, kvs.map (·.1) = ws.map (·.1) → EVs K H ρ (kvs.map (·.2)) (ws.map (·.2.2)) →
    (getI kvs k = none ∧ getW ws k = none) ∨ ∃ d v, getI kvs k = some d ∧ getW ws k = some v ∧ EV K H ρ d v
  | [], [], _, _ => .inl ⟨rfl, rfl⟩
  | [], _ :: _, e, _ => by cases e
  | _ :: _, [], e, _ => by cases e
  | (k1, d) :: kvs, (k2, b, v) :: ws, e, h => by
    rw [List.map_cons, List.map_cons] at e h
    have e1 : k1 = k2 := (List.cons.inj e).1
    subst e1
    cases h with
    | cons h1 h2 =>
      by_cases q : k1 = k
      · exact .inr ⟨d, v, by simp [getI, List.find?_cons, q], by simp [getW, List.find?_cons, q], h1⟩
      · have ih := getI_of (k := k) (List.cons.inj e).2 h2
        have g1 : getI ((k1, d) :: kvs) k = getI kvs k := by simp [getI, List.find?_cons, q]
        have g2 : getW ((k1, b, v) :: ws) k = getW ws k := by simp [getW, List.find?_cons, q]
        rw [g1, g2]
        exact ih
theorem anyI {k : List Int} : ∀ {kvs : List (List Int × D)} {ws : Ws}, kvs.map (·.1) = ws.map (·.1) → (kvs.any fun x => decide (x.1 = k)) = ws.any fun x => decide (x.1 = k)
  | [], [], _ => rfl
  | [], _ :: _, e => by cases e
  | _ :: _, [], e => by cases e
  | (k1, d) :: kvs, (k2, v) :: ws, e => by
    rw [List.map_cons, List.map_cons] at e
    have e1 : k1 = k2 := (List.cons.inj e).1
    subst e1
    rw [List.any_cons, List.any_cons, anyI (List.cons.inj e).2]
theorem mapI {k : List Int} {d : D} {v : V} (hd : EV K H ρ d v) : ∀ {kvs : List (List Int × D)} {ws : Ws}, kvs.map (·.1) = ws.map (·.1) → EVs K H ρ (kvs.map (·.2)) (ws.map (·.2.2)) →
    (kvs.map fun x => if x.1 = k then (x.1, d) else x).map (·.1) = (ws.map fun x => if x.1 = k then (x.1, x.2.1, v) else x).map (·.1) ∧ EVs K H ρ ((kvs.map fun x => if x.1 = k then (x.1, d) else x).map (·.2)) ((ws.map fun x => if x.1 = k then (x.1, x.2.1, v) else x).map (·.2.2))
  | [], [], _, _ => ⟨rfl, .nil⟩
  | [], _ :: _, e, _ => by cases e
  | _ :: _, [], e, _ => by cases e
  | (k1, d1) :: kvs, (k2, b, v1) :: ws, e, h => by
    rw [List.map_cons, List.map_cons] at e h
    have e1 : k1 = k2 := (List.cons.inj e).1
    subst e1
    cases h with
    | cons h1 h2 =>
      obtain ⟨i1, i2⟩ := mapI (k := k) hd (List.cons.inj e).2 h2
      simp only [List.map_cons]
      by_cases q : k1 = k
      · simp only [q, if_true]
        exact ⟨by rw [i1], .cons hd i2⟩
      · simp only [q, if_false]
        exact ⟨by rw [i1], .cons h1 i2⟩
theorem putI_of {k : List Int} {b : Addr} {d : D} {v : V} {kvs : List (List Int × D)} {ws : Ws} (hd : EV K H ρ d v) (e : kvs.map (·.1) = ws.map (·.1)) (h : EVs K H ρ (kvs.map (·.2)) (ws.map (·.2.2))) :
    (putI kvs k d).map (·.1) = (putW ws k b v).map (·.1) ∧ EVs K H ρ ((putI kvs k d).map (·.2)) ((putW ws k b v).map (·.2.2)) := by
  unfold putI putW
  rw [anyI e]
  by_cases q : (ws.any fun x => decide (x.1 = k)) = true
  · rw [if_pos q, if_pos q]
    exact mapI hd e h
  · rw [if_neg q, if_neg q, List.map_append, List.map_append, List.map_append, List.map_append]
    exact ⟨by rw [e]; rfl, h.append (.cons hd .nil)⟩
theorem code_ne {c : Addr} {q : Str} {ws : Ws} : LamX.CodeO c q ≠ TDO c ws := fun e => by
  have e' := HO.ext.inj e
  have t : Tok := 0
  have hs : (Array.replicate c (default : Obj)).size = c := Array.size_replicate
  have hh : Heap.get? { objs := (Array.replicate c (default : Obj)).push { cls := .none, data := .fields #[.none, .str q t] } } c = some { cls := .none, data := .fields #[.none, .str q t] } := by
    unfold Heap.get?
    have : ((Array.replicate c (default : Obj)).push { cls := Value.none, data := .fields #[.none, .str q t] })[c]? = some { cls := Value.none, data := .fields #[.none, .str q t] } := by
      rw [Array.getElem?_push, hs, if_pos rfl]
    dsimp only
    rw [this]
  have z := (congrFun e' _).mp ⟨_, _, t, hh, rfl, rfl⟩
  obtain ⟨_, _, _, xs, _, o, es, ep, h1, _, h3, _⟩ := z
  rw [hh] at h1
  cases h1
  cases h3
theorem tabs_tt {p : Addr} {ws : Ws} {u : HO} (hp : H p = some (TDO p ws)) (t : LamX.Tabs T H) : LamX.Tabs T (upd H p u) := fun q hq => by
  obtain ⟨ps, h1, h2, h3⟩ := t q hq
  refine ⟨ps, ?_, h2, fun pos cv hc => ?_⟩
  · rw [upd_ne (ne_of h1 hp (fun z => nomatch z))]
    exact h1
  · obtain ⟨c, e1, e2⟩ := h3 pos cv hc
    refine ⟨c, e1, ?_⟩
    rw [upd_ne (fun z => by subst z; rw [hp] at e2; exact code_ne (Option.some.inj e2).symm)]
    exact e2
/-- an object of the store is written -/
theorem Fr.writeT {p : Addr} {φ : Heap → Prop} {u : HO} (hm : p ∈ ρ) (hp : H p = some (.ext φ)) : Fr H ρ (upd H p u) ρ where
  pre := ⟨[], (List.append_nil _).symm⟩
  keep := fun a u h n _ => by rw [upd_ne (show a ≠ p from fun e => n (by rw [e]; exact hm))]; exact h
  tup := fun a u h => by rw [upd_ne (ne_of h hp (fun z => nomatch z))]; exact h
  frz := fun a u z h => by rw [upd_ne (ne_of h hp (fun z => nomatch z))]; exact h
  new := fun _ h n => absurd h n
theorem Fr.rd' {H' : Hp} {ρ' : List Addr} (f : Fr H ρ H' ρ') {ws : Ws} (h : ∀ x ∈ ws, SqT K H x.2.1 (x.1.map V.int)) : ∀ x ∈ ws, SqT K H' x.2.1 (x.1.map V.int) := fun x hx => f.rd (h x hx)
theorem ES.writeT {p : Addr} {i : Nat} {ws ws' : Ws} {kvs : List (List Int × D)} (e : ES K T H ρ st) (hi : ρ[i]? = some p) (hp : H p = some (TDO p ws)) (hk : kvs.map (·.1) = ws'.map (·.1)) (hs : ∀ x ∈ ws', SqT K H x.2.1 (x.1.map V.int)) (h : EVs K H ρ (kvs.map (·.2)) (ws'.map (·.2.2))) :
    ES K T (upd H p (TDO p ws')) ρ (st.set i (.dtt kvs)) where
  tabs := tabs_tt hp e.tabs
  len := by rw [List.length_set]; exact e.len
  nd := e.nd
  cell := fun j a c h1 h2 => by
    have Fw : Fr H ρ (upd H p (TDO p ws')) ρ := Fr.writeT (List.mem_of_getElem? hi) hp
    by_cases hj : j = i
    · subst hj
      rw [hi] at h1
      cases h1
      have hl : j < st.length := by rw [← e.len]; exact (List.getElem?_eq_some_iff.mp hi).1
      rw [List.getElem?_set_self hl] at h2
      cases h2
      exact ⟨ws', upd_same, hk, fun x hx => Fw.rd (hs x hx), h.mono Fw⟩
    · rw [List.getElem?_set_ne (Ne.symm hj)] at h2
      have hap : a ≠ p := fun z => hj (nd_get e.nd (z ▸ h1) hi)
      exact (e.cell j a c h1 h2).mono Fw fun o h _ => by rw [upd_ne hap]; exact h
theorem ES.layT {p : Addr} (e : ES K T H ρ st) (hp : H p = Option.none) : ES K T (upd H p (TDO p [])) (ρ ++ [p]) (st ++ [.dtt []]) where
  tabs := tabs_of (keepN hp) e.tabs
  len := by rw [List.length_append, List.length_append, e.len]; rfl
  nd := by
    rw [List.nodup_append]
    refine ⟨e.nd, by simp, fun a ha b hb z => ?_⟩
    rw [List.mem_singleton.mp hb] at z
    exact e.fresh hp (z ▸ ha)
  cell := fun i a c h1 h2 => by
    have Fl : Fr H ρ (upd H p (TDO p [])) (ρ ++ [p]) := Fr.laidS hp
    by_cases hi : i < ρ.length
    · rw [List.getElem?_append_left hi] at h1
      rw [List.getElem?_append_left (by rw [← e.len]; exact hi)] at h2
      exact (e.cell i a c h1 h2).mono Fl fun o h _ => by rw [upd_ne (ne_of_none h hp)]; exact h
    · have hl : i = ρ.length := by
        have := (List.getElem?_eq_some_iff.mp h1).1
        rw [List.length_append, List.length_singleton] at this
        omega
      subst hl
      rw [List.getElem?_append_right (Nat.le_refl _), Nat.sub_self] at h1
      rw [e.len, List.getElem?_append_right (Nat.le_refl _), Nat.sub_self] at h2
      cases h1
      cases h2
      exact ⟨[], upd_same, rfl, (fun (x : List Int × Addr × V) (hx : x ∈ []) => absurd hx (by simp)), EVs.nil⟩
/-! y in d, y not in d -/
def memT (neg : Bool) : F2 := fun y x st => match y.ik, x with
  | some k, .ref n => match st[n]? with
    | some (.dtt kvs) => .ok (.bl (if neg then !(getI kvs k).isSome else (getI kvs k).isSome)) st
    | _ => .no
  | _, _ => .no
theorem os_memT {neg : Bool} : OpS K G (rTIn K neg) (memT neg) := by
  intro x y vx vy ρ st H Q ex ey es h
  unfold memT at h
  split at h
  · rename_i k n hk
    obtain ⟨b, rfl, hb⟩ := ik_of ex hk
    obtain ⟨a, rfl, hn⟩ := ey.ofRef
    split at h
    · rename_i kvs q
      obtain ⟨ws, q1, q2, q3, q4⟩ := es.cell n a _ hn q
      refine ⟨a, b, k, ws, rfl, rfl, q1, q3, hb, ?_⟩
      have e1 : (getW ws k).isSome = (getI kvs k).isSome := by
        rcases getI_of (k := k) q2 q4 with ⟨z1, z2⟩ | ⟨d, v, z1, z2, _⟩ <;> rw [z1, z2] <;> rfl
      rw [e1]
      exact h.now (.bl _) es
    · exact h.elim
  · exact h.elim
/-! list(d) -/
def listTD : FN := fun xs st => match xs with
  | [.ref n] => match st[n]? with
    | some (.dtt kvs) => .ok (.ref st.length) (st ++ [.lst (kvs.map fun x => .tup (x.1.map D.int))])
    | _ => .no
  | _ => .no
theorem evs_keys : ∀ {kvs : List (List Int × D)} {ws : Ws}, kvs.map (·.1) = ws.map (·.1) → (∀ x ∈ ws, SqT K H x.2.1 (x.1.map V.int)) → EVs K H ρ (kvs.map fun x => D.tup (x.1.map D.int)) (ws.map fun x => V.ref x.2.1)
  | [], [], _, _ => .nil
  | [], _ :: _, e, _ => by cases e
  | _ :: _, [], e, _ => by cases e
  | (k1, d) :: kvs, (k2, b, v) :: ws, e, h => by
    rw [List.map_cons, List.map_cons] at e
    have e1 : k1 = k2 := (List.cons.inj e).1
    subst e1
    exact .cons (.tup (h _ List.mem_cons_self) (evs_ints k1)) (evs_keys (List.cons.inj e).2 fun x hx => h x (List.mem_cons_of_mem _ hx))
theorem cs_listT : CallS K G (fun xs H Q => ∃ d ws, xs = [V.ref d] ∧ H d = some (TDO d ws) ∧ (∀ x ∈ ws, SqT K H x.2.1 (x.1.map V.int)) ∧ ∀ p, H p = none → Q (.ref p) (upd H p (.lst (ws.map fun x => V.ref x.2.1)))) listTD := by
  intro xs vs ρ st H Q e es h
  unfold listTD at h
  split at h
  · rename_i n
    split at h
    · rename_i kvs q
      obtain ⟨v, rfl, ev⟩ := e.one rfl
      obtain ⟨a, rfl, hn⟩ := ev.ofRef
      obtain ⟨ws, q1, q2, q3, q4⟩ := es.cell n a _ hn q
      exact ⟨a, ws, rfl, q1, q3, newL h (evs_keys q2 q3) es⟩
    · exact h.elim
  · exact h.elim
def Key.d : Key → D
  | .inl i => .int i
  | .inr s => .str s
def listKD : FN := fun xs st => match xs with
  | [.ref n] => match st[n]? with
    | some (.dct kvs) => .ok (.ref st.length) (st ++ [.lst (kvs.map fun x => Key.d x.1)])
    | _ => .no
  | _ => .no
theorem evs_kd : ∀ {kvs : List (Key × D)} {vvs : List (Key × V)}, kvs.map (·.1) = vvs.map (·.1) → EVs K H ρ (kvs.map fun x => Key.d x.1) (vvs.map fun kv => kV kv.1)
  | [], [], _ => .nil
  | [], _ :: _, e => by cases e
  | _ :: _, [], e => by cases e
  | (k1, d) :: kvs, (k2, v) :: vvs, e => by
    rw [List.map_cons, List.map_cons] at e
    have e1 : k1 = k2 := (List.cons.inj e).1
    subst e1
    refine .cons ?_ (evs_kd (List.cons.inj e).2)
    cases k1 with
    | inl i => exact .int i
    | inr s => exact .str s
theorem cs_listK : CallS K G (fun xs H Q => ∃ (a : Addr) (kvs : List (Key × V)), xs = [.ref a] ∧ Rd H a (.dK kvs) ∧ ∀ p, H p = none → Q (.ref p) (upd H p (.lst (kvs.map fun kv => kV kv.1)))) listKD := by
  intro xs vs ρ st H Q e es h
  unfold listKD at h
  split at h
  · rename_i n
    split at h
    · rename_i kvs q
      obtain ⟨v, rfl, ev⟩ := e.one rfl
      obtain ⟨a, rfl, hn⟩ := ev.ofRef
      obtain ⟨vvs, q1, q2, q3⟩ := es.cell n a _ hn q
      exact ⟨a, vvs, rfl, .inl q1, newL h (evs_kd q2) es⟩
    · exact h.elim
  · exact h.elim
end
/-! d[k], d[k] = v, {k: v} -/
def dTGet (a b : ME) : ME := fun env st => (a env st).bind fun o st => (b env st).bind fun y st => match o, y.ik with
  | .ref n, some k => match st[n]? with
    | some (.dtt kvs) => match getI kvs k with
      | some d => .ok d st
      | none => .no
    | _ => .no
  | _, _ => .no
def dKGet (a b : ME) : ME := fun env st => (a env st).bind fun o st => (b env st).bind fun y st => match o, y.key with
  | .ref n, some k => match st[n]? with
    | some (.dct kvs) => match getK kvs k with
      | some d => .ok d st
      | none => .no
    | _ => .no
  | _, _ => .no
def sTPutD (o i v : ME) : MS := fun env st => (v env st).toS fun d st => (o env st).toS fun x st => (i env st).toS fun y st => match x, y.ik with
  | .ref n, some k => match st[n]? with
    | some (.dtt kvs) => if kvs.length < 100000 then .nx env (st.set n (.dtt (putI kvs k d))) else .no
    | _ => .no
  | _, _ => .no
def dTDisp (k v : ME) : ME := fun env st => (k env (st ++ [.dtt []])).bind fun y st1 => (v env st1).bind fun z st2 => match y.ik, st2[st.length]? with
  | some key, some (.dtt []) => .ok (.ref st.length) (st2.set st.length (.dtt [(key, z)]))
  | _, _ => .no
section
variable {X : Cx} {G : Gx} {o i e : Expr} {to ti te : TE} {mo mi me : ME} {pos pos' : Pos}
theorem se_tget (hu : X.A.units + 64 < cLine) (ho : SE X G o to mo) (hi : SE X G i ti mi) (hs : NoSl i := by exact fun _ _ => rfl) : SE X G (.Subscript o i pos) (tTGet X.K to ti) (dTGet mo mi) := ⟨pe_tget (by omega) ho.pe hi.pe hs, fun σ env ρ st H Q ev es h => by
  refine sd_bin ho hi ev es h fun x y vx vy ρ2 st2 H2 e1 e2 es2 _ h2 => ?_
  split at h2
  · rename_i n k hk
    obtain ⟨b, rfl, hb⟩ := ik_of e2 hk
    obtain ⟨a, rfl, hn⟩ := e1.ofRef
    split at h2
    · rename_i kvs q
      obtain ⟨ws, q1, q2, q3, q4⟩ := es2.cell n a _ hn q
      rcases getI_of (k := k) q2 q4 with ⟨z1, z2⟩ | ⟨d, v, z1, z2, z3⟩
      · rw [z1] at h2; exact h2.elim
      · rw [z1] at h2
        exact ⟨a, b, k, ws, v, rfl, rfl, q1, q3, hb, z2, h2.now z3 es2⟩
    · exact h2.elim
  · exact h2.elim⟩
theorem se_kget (hu : X.A.units + 64 < cLine) (ho : SE X G o to mo) (hi : SE X G i ti mi) (hs : NoSl i := by exact fun _ _ => rfl) : SE X G (.Subscript o i pos) (tDGet to ti) (dKGet mo mi) := ⟨pe_dget (by omega) ho.pe hi.pe hs, fun σ env ρ st H Q ev es h => by
  refine sd_bin ho hi ev es h fun x y vx vy ρ2 st2 H2 e1 e2 es2 _ h2 => ?_
  split at h2
  · rename_i n k hk
    have ek := key_of e2 hk
    subst ek
    obtain ⟨a, rfl, hn⟩ := e1.ofRef
    split at h2
    · rename_i kvs q
      obtain ⟨vvs, q1, q2, q3⟩ := es2.cell n a _ hn q
      rcases getK_of (k := k) q2 q3 with ⟨z1, z2⟩ | ⟨d, v, z1, z2, z3⟩
      · rw [z1] at h2; exact h2.elim
      · rw [z1] at h2
        exact ⟨a, v, rfl, z2 ▸ DGet.k q1, h2.now z3 es2⟩
    · exact h2.elim
  · exact h2.elim⟩
theorem ss_tput (hu : X.A.units + 64 < cLine) (ho : SE X G o to mo) (hi : SE X G i ti mi) (hv : SE X G e te me) (hs : swapsWith e (some (.Subscript o i pos')) pos.line X.env = pure false := by rfl) :
    SS X G (.Assign [.Subscript o i pos'] e pos) (sTPut X.K to ti te) (sTPutD mo mi me) := ⟨ps_tput (by omega) ho.pe hi.pe hv.pe hs, fun σ env ρ st H Z ev es h => by
  refine hv.sd σ env ρ st H _ ev es (h.bindR fun d st1 ρ1 H1 v f1 e1 es1 h1 => ?_)
  refine ho.sd σ env ρ1 st1 H1 _ (ev.mono f1) es1 (h1.bindR fun x st2 ρ2 H2 vx f2 e2 es2 h2 => ?_)
  refine hi.sd σ env ρ2 st2 H2 _ (ev.mono (f1.trans f2)) es2 (h2.bindR fun y st3 ρ3 H3 vy f3 e3 es3 h3 => ?_)
  have f13 := (f1.trans f2).trans f3
  split at h3
  · rename_i n k hk
    obtain ⟨b, rfl, hb⟩ := ik_of e3 hk
    obtain ⟨a, rfl, hn⟩ := (e2.mono f3).ofRef
    split at h3
    · rename_i kvs q
      obtain ⟨ws, q1, q2, q3, q4⟩ := es3.cell n a _ hn q
      by_cases hl : kvs.length < 100000
      · rw [if_pos hl] at h3
        have hlen : ws.length = kvs.length := by simpa using (congrArg List.length q2).symm
        obtain ⟨s1, s2⟩ := putI_of (k := k) (b := b) (e1.mono (f2.trans f3)) q2 q4
        have fw : Fr H3 ρ3 (upd H3 a (TDO a (putW ws k b v))) ρ3 := Fr.writeT (List.mem_of_getElem? hn) q1
        exact ⟨a, b, k, ws, rfl, rfl, q1, q3, hb, by rw [hlen]; exact Nat.lt_of_lt_of_le hl line5, h3 ρ3 _ σ fw (ev.mono (f13.trans fw)) (es3.writeT hn q1 s1 (putW_keys q3 hb) s2)⟩
      · rw [if_neg hl] at h3; exact h3.elim
    · exact h3.elim
  · exact h3.elim⟩
theorem se_tdisp (hu : X.A.units + 64 < cLine) (hk : SE X G i ti mi) (hv : SE X G e te me) : SE X G (.Dict [some i] [e] pos) (tTDisp X.K ti te) (dTDisp mi me) := ⟨pe_tdisp (by omega) hk.pe hv.pe, fun σ env ρ st H Q ev es h => by
  intro p hp
  have F0 : Fr H ρ (upd H p (TDO p [])) (ρ ++ [p]) := Fr.laidS hp
  have hloc : (ρ ++ [p])[st.length]? = some p := es.ref p
  refine hk.sd σ env (ρ ++ [p]) (st ++ [.dtt []]) _ _ (ev.mono F0) (es.layT hp) ((Post.shift F0 h).bind fun y st1 ρ1 H1 vy f1 e1 es1 h1 => ?_)
  refine hv.sd σ env ρ1 st1 H1 _ (ev.mono (F0.trans f1)) es1 (h1.bind fun z st2 ρ2 H2 vz f2 e2 es2 h2 => ?_)
  split at h2
  · rename_i key hkey q
    obtain ⟨b, rfl, hb⟩ := ik_of (e1.mono f2) hkey
    have hn := (f1.trans f2).get hloc
    obtain ⟨ws, q1, q2, q3, q4⟩ := es2.cell st.length p _ hn q
    have ew : ws = [] := by
      have := congrArg List.length q2
      simp at this
      exact List.eq_nil_of_length_eq_zero this.symm
    subst ew
    refine ⟨b, key, rfl, q1, hb, ?_⟩
    have fw : Fr H2 ρ2 (upd H2 p (TDO p [(key, b, vz)])) ρ2 := Fr.writeT (List.mem_of_getElem? hn) q1
    exact h2 ρ2 _ _ fw (.ref hn) (es2.writeT hn q1 rfl (fun x hx => by rw [List.mem_singleton.mp hx]; exact hb) (.cons e2 .nil))
  · exact h2.elim⟩
/-! t1 = t2 = e -/
def sAsg2 (a : ME) (g1 g2 : MG) : MS := fun env st => (a env st).toS fun d st => (g1 d env st).toS fun env st => (g2 d env st).toS fun env st => .nx env st
theorem ss_asg2 {t1 t2 : Expr} {g1 g2 : TG} {m1 m2 : MG} (ha : SE X G e te me) (h1 : SG X G t1 g1 m1) (h2 : SG X G t2 g2 m2) (hq : (assignEach [t1, t2] X.env).map (·.2) = [assign t1 X.env, assign t2 X.env] := by rfl) (hw : swappedStores [t1, t2] e X.env = pure none := by rfl) :
    SS X G (.Assign [t1, t2] e pos) (L2.tAsg2 te g1 g2) (sAsg2 me m1 m2) := ⟨ps_asg2 ha.pe h1.pe h2.pe hq hw, fun σ env ρ st H Z ev es h => by
  refine ha.sd σ env ρ st H _ ev es (h.bindR fun d st1 ρ1 H1 v f e1 es1 q => ?_)
  refine h1.sd d v σ env ρ1 st1 H1 _ e1 (ev.mono f) es1 (q.bindR fun env2 st2 ρ2 H2 σ2 f2 ev2 es2 q2 => ?_)
  exact h2.sd d v σ2 env2 ρ2 st2 H2 _ (e1.mono f2) ev2 es2 (q2.bindR fun env3 st3 ρ3 H3 σ3 f3 ev3 es3 q3 => q3 ρ3 H3 σ3 (Fr.refl H3 ρ3) ev3 es3)⟩
end
/-! sorted of ints -/
def intsOfD : List D → Option (List Int) := intsD
def insI (x : Int) : List Int → List Int
  | [] => [x]
  | y :: l => if x ≤ y then x :: y :: l else y :: insI x l
def sortInts : List Int → List Int
  | [] => []
  | x :: l => insI x (sortInts l)
theorem insI_perm (x : Int) : ∀ l : List Int, (insI x l).Perm (x :: l)
  | [] => .refl _
  | y :: l => by
    unfold insI
    split
    · exact .refl _
    · exact ((insI_perm x l).cons y).trans (List.Perm.swap x y l)
theorem insI_up {x : Int} : ∀ {l : List Int}, l.Pairwise (· ≤ ·) → (insI x l).Pairwise (· ≤ ·)
  | [], _ => by unfold insI; exact List.pairwise_singleton _ _
  | y :: l, h => by
    obtain ⟨h1, h2⟩ := List.pairwise_cons.mp h
    unfold insI
    split
    · rename_i q
      refine List.pairwise_cons.mpr ⟨fun z hz => ?_, h⟩
      rcases List.mem_cons.mp hz with rfl | hz
      · exact q
      · have := h1 z hz; omega
    · rename_i q
      refine List.pairwise_cons.mpr ⟨fun z hz => ?_, insI_up h2⟩
      rcases List.mem_cons.mp ((insI_perm x l).mem_iff.mp hz) with rfl | hz
      · omega
      · exact h1 z hz
theorem sortInts_perm : ∀ l : List Int, (sortInts l).Perm l
  | [] => .refl _
  | x :: l => (insI_perm x (sortInts l)).trans ((sortInts_perm l).cons x)
theorem sortInts_up : ∀ l : List Int, (sortInts l).Pairwise (· ≤ ·)
  | [] => List.Pairwise.nil
  | x :: l => insI_up (sortInts_up l)
def sortID : FN := fun xs st => match xs with
  | [.ref n] => match st[n]? with
    | some (.lst ds) => match intsD ds with
      | some ns => .ok (.ref st.length) (st ++ [.lst ((sortInts ns).map D.int)])
      | none => .no
    | _ => .no
  | _ => .no
theorem sort_one {ns ms : List Int} (h : ms.Perm ns) (hp : ms.Pairwise (· ≤ ·)) : ms = sortInts ns :=
  List.Perm.eq_of_pairwise (le := fun x y : Int => x ≤ y) (fun x y hx hy a b => Int.le_antisymm a b) hp (sortInts_up ns) (h.trans (sortInts_perm ns).symm)
theorem cs_sortI {K : PySem.W.Frag} {G : Gx} : CallS K G (rSortedI K) sortID := by
  intro xs vs ρ st H Q e es h
  unfold sortID at h
  split at h
  · rename_i n
    split at h
    · rename_i ds q
      split at h
      · rename_i ns hi
        obtain ⟨v, rfl, ev⟩ := e.one rfl
        obtain ⟨a, rfl, hn⟩ := ev.ofRef
        obtain ⟨ws, q1, q2⟩ := es.cell n a _ hn q
        have ew := ints_of q2 hi
        subst ew
        refine ⟨a, ns, rfl, .inl (.inl q1), fun ms p hp hs hf => ?_⟩
        rw [sort_one hp hs]
        exact newL h (evs_ints _) es p hf
      · exact h.elim
    · exact h.elim
  · exact h.elim
end Dn

set_option Elab.async false
set_option linter.all false
set_option maxRecDepth 100000
set_option maxHeartbeats 2000000
/-! A tuple turned about; a display of two pairs; d.get(k, x). -/
namespace HT
open PySem PyProof.Rows L2
section
variable {prog : Program} {w : World} {A : Around} {E : Value → Shared → Prop} {s : Shared}
theorem adjust_rev (n : Nat) : Builtin.Slice.sliceAdjust none none (-1) (n : Int) = ((n : Int) - 1, -1) := by
  unfold Builtin.Slice.sliceAdjust
  rfl
theorem places_rev (n : Nat) : Builtin.Slice.slicePlaces ((n : Int) - 1) (-1) (-1) = n := by
  unfold Builtin.Slice.slicePlaces
  have h1 : ¬ ((-1 : Int) > 0) := by decide
  simp only [h1, if_false]
  split
  · rw [show (- -1 : Int) = 1 by decide, Int.ediv_one]; omega
  · omega
theorem fm_congr {α β : Type} {f g : α → Option β} : ∀ {l : List α}, (∀ a ∈ l, f a = g a) → l.filterMap f = l.filterMap g
  | [], _ => rfl
  | a :: l, h => by
    rw [List.filterMap_cons, List.filterMap_cons, h a List.mem_cons_self, fm_congr fun b hb => h b (List.mem_cons_of_mem _ hb)]
theorem pick_rev (xs : Array Value) : ((List.range xs.size).filterMap fun (k : Nat) => xs[((xs.size : Int) - 1 + (k : Int) * (-1)).toNat]?).toArray = xs.toList.reverse.toArray := by
  have e : (List.range xs.size).filterMap (fun (k : Nat) => xs[((xs.size : Int) - 1 + (k : Int) * (-1)).toNat]?) = ((List.range xs.size).map (fun k => xs.size - 1 - k)).filterMap (xs[·]?) := by
    rw [List.filterMap_map]
    refine fm_congr fun k hk => ?_
    have := List.mem_range.mp hk
    show xs[((xs.size : Int) - 1 + (k : Int) * (-1)).toNat]? = xs[xs.size - 1 - k]?
    rw [show ((xs.size : Int) - 1 + (k : Int) * (-1)).toNat = xs.size - 1 - k by omega]
  rw [e, PySem.W.krv_range, List.filterMap_reverse, PySem.W.krv_all]
theorem sliceApplied_rev {sl : Addr} {vl vu vs : Value} {n : Nat} {Q : Int × Int × Nat → Shared → Prop} (hs : s.heap.IsSliceOf sl vl vu vs) (pl : IsPart vl none) (pu : IsPart vu none) (ps : IsPart vs (some (-1)))
    (h : Q ((n : Int) - 1, -1, n) s) : wpAny (model prog w) A (Builtin.Slice.sliceApplied (.ref sl) (pure (n : Int))) Q E s := by
  obtain ⟨os, hos, hcs, hds⟩ := id hs
  unfold Builtin.Slice.sliceApplied Builtin.Slice.sliceFields
  refine wpAny_bind (wpAny_bind (wpAny_field hos hds (x := vl) rfl (wpAny_bind (wpAny_field hos hds (x := vu) rfl (wpAny_bind (wpAny_field hos hds (x := vs) rfl (wpAny_pure ?_)))))))
  refine wpAny_bind (slicePart_ ps ?_)
  show wpAny _ _ (if ((-1 : Int) == 0) = true then _ else _) _ _ s
  rw [if_neg (by decide)]
  refine wpAny_bind (slicePart_ pl (wpAny_bind (slicePart_ pu (wpAny_bind (wpAny_pure ?_)))))
  show wpAny _ _ (match Builtin.Slice.sliceAdjust none none (-1) (n : Int) with | (lo, hi) => pure (lo, (-1 : Int), Builtin.Slice.slicePlaces lo hi (-1))) _ _ s
  rw [adjust_rev n]
  show wpAny _ _ (pure ((n : Int) - 1, (-1 : Int), Builtin.Slice.slicePlaces ((n : Int) - 1) (-1) (-1))) _ _ s
  rw [places_rev]
  exact wpAny_pure h
theorem getItem_tuple_rev {t sl : Addr} {items : Array Value} {vl vu vs : Value} {Q : Value → Shared → Prop} (ht : IsTup s.heap t items) (hs : s.heap.IsSliceOf sl vl vu vs) (pl : IsPart vl none) (pu : IsPart vu none) (ps : IsPart vs (some (-1)))
    (h : Q (.ref s.heap.objs.size) { s with heap := s.heap.push { cls := .type "tuple", data := .seq items.toList.reverse.toArray } })
    (hsz : items.size ≤ sizeLine) : wpAny (model prog w) A (getItem (.ref t) (.ref sl)) Q E s := by
  have htake : sizeOk (.seq items.toList.reverse.toArray) := by
    show items.toList.reverse.toArray.size ≤ sizeLine
    rw [List.size_toArray, List.length_reverse, Array.length_toList]
    exact hsz
  obtain ⟨os, hos, hcs, hds⟩ := id hs
  have hTs : s.TypeIs (.ref sl) "slice" := ⟨os, hos, hcs⟩
  unfold getItem
  try with_reducible refine wpAny_holding ?_
  first | refine wpAny_bind (wpAny_pure ?_) | skip
  refine wpAny_bind (wpAny_sequenceKey ht.typeIs (by decide) ?_)
  refine wpAny_bind (wpAny_callSpecial?_slot (name := Str.ofString "__getitem__") ht.typeIs PyProof.Rows.slot_tuple_getitem
    (wpAny_call_entry PyProof.Rows.slot_tuple_getitem ht.typeIs entry_tuple_getitem ?_ (args_tuple_getitem _ _)))
  show wpAny _ _ (Builtin.Tuple.tupleItemsOf (.ref t) >>= _) _ _ s
  refine wpAny_bind (tupleItemsOf_ ht ?_)
  refine wpAny_bind (wpAny_typeOf hTs ?_)
  rw [if_pos (by decide)]
  refine wpAny_bind (sliceApplied_rev hs pl pu ps ?_)
  have hno : ¬ (((((items.size : Nat) : Int) - 1) == 0 && (-1 : Int) == 1 && items.size == items.size) = true) := by
    intro q
    rw [Bool.and_eq_true, Bool.and_eq_true] at q
    exact absurd q.1.2 (by decide)
  show wpAny _ _ (if ((((items.size : Nat) : Int) - 1) == 0 && (-1 : Int) == 1 && items.size == items.size) = true then _ else _) _ _ s
  rw [if_neg hno, pick_rev]
  first
    | exact wpAny_bind (m := Builtin.Tuple.tupleExact _) (wpAny_newObj_type (wpAny_pure ⟨_, rfl, wpAny_pure h⟩) htake)
    | exact wpAny_bind (m := Builtin.Tuple.tupleExact _) (wpAny_newObj_type (wpAny_bind (wpAny_pure (wpAny_pure ⟨_, rfl, wpAny_pure h⟩))) htake)
    | exact wpAny_bind (wpAny_bind (m := Builtin.Tuple.tupleExact _) (wpAny_newObj_type (wpAny_pure (wpAny_pure ⟨_, rfl, wpAny_pure h⟩)) htake))
    | exact wpAny_bind (wpAny_bind (m := Builtin.Tuple.tupleExact _) (wpAny_newObj_type (wpAny_pure ⟨_, rfl, wpAny_pure h⟩) htake))
end
end HT
namespace Dn
open PySem PySem.Spec PyProof.Rows L2
section
variable {X : Cx}
def tRevT (K : PySem.W.Frag) (te : TE) : TE := fun σ H Q => te σ H fun x H1 => ∃ a xs, x = .ref a ∧ SqT K H1 a xs ∧ ∀ p, H1 p = none → Q (.ref p) (upd H1 p (.tup xs.reverse))
theorem pe_revT {e : Expr} {te : TE} {k : Nat} {p1 p2 p3 pos : Pos} (he : PE X e te) : PE X (.Subscript e (.Slice none none (some (.UnaryOp .USub (.Constant (.int 1) k p1) p2)) p3) pos) (tRevT X.K te) := by
  refine ⟨fun pins s σ H Q I h => ?_⟩
  refine Subscript_ (thn (he.run pins s σ H _ I h) fun v s1 ⟨x, H1, I1, r1, q1⟩ => ?_)
  obtain ⟨a, xs, ex, hx, q⟩ := q1
  subst ex
  cases r1
  have hst : PO X (some (.UnaryOp .USub (.Constant (.int 1) k p1) p2)) (tPart (tUn (rU fun i => .int (-i)) (tC (.int 1)))) := po_some (pe_un un_neg pe_int)
  refine wpAny_Slice (thn (po_none.run pins s1 σ H1 (fun o H2 => o = none ∧ H2 = H1) I1 ⟨rfl, rfl⟩) fun vl s2 ⟨l, H2, I2, pl, el, e2⟩ => ?_)
  subst el e2
  refine thn (po_none.run pins s2 σ H2 (fun o H3 => o = none ∧ H3 = H2) I2 ⟨rfl, rfl⟩) fun vu s3 ⟨u, H3, I3, pu, eu, e3⟩ => ?_
  subst eu e3
  refine thn (hst.run pins s3 σ H3 (fun o H4 => o = some (-1) ∧ H4 = H3) I3 ⟨1, rfl, -1, rfl, rfl, rfl⟩) fun vs s4 ⟨o, H4, I4, ps, eo, e4⟩ => ?_
  subst eo e4
  have I5 : Inv X pins σ H4 { s4 with heap := s4.heap.push { cls := .type "slice", data := .fields #[vl, vu, vs] } } := I4.kept (t' := s4.toks) fun b ob q => Heap.get?_push_of_some _ q
  obtain ⟨its, r, ht, hz⟩ := I5.tuple hx
  have hlen := r.length
  show wpAny (model X.prog X.w) X.A (subscriptTail e (.Slice none none (some (.UnaryOp .USub (.Constant (.int 1) k p1) p2)) p3) (.ref a) (.ref s4.heap.objs.size)) (EP X pins σ Q) X.xe { s4 with heap := s4.heap.push { cls := .type "slice", data := .fields #[vl, vu, vs] } }
  refine tail_any (ops := [.ref a, .ref s4.heap.objs.size]) ht.typeIs (PyProof.Rows.slot_tuple_getitem.lookup) ?_ (by with_unfolding_all rfl)
  refine HT.getItem_tuple_rev ht (Heap.IsSliceOf.new _ vl vu vs) pl pu ps ?_ (by rw [List.size_toArray]; omega)
  refine ⟨.ref _, _, I5.laid (t' := s4.toks) (o := .tup xs.reverse) (fun b ob q => Heap.get?_push_of_some _ q) (Nat.le_refl _) ?_, rfl, q _ (I5.hok.fresh (Nat.le_refl _))⟩
  exact ⟨by rw [List.length_reverse]; exact hz, _, r.reverse, IsTup.new _ _⟩
end
/-! what they make of data -/
def dRevT (a : ME) : ME := fun env st => (a env st).bind fun x st => match x with
  | .tup ds => .ok (.tup ds.reverse) st
  | _ => .no
def dDisp2 (k1 v1 k2 v2 : ME) : ME := fun env st => (k1 env (st ++ [.dct []])).bind fun a st1 => (v1 env st1).bind fun b st2 => (k2 env st2).bind fun c st3 => (v2 env st3).bind fun d st4 => match a.key, c.key, st4[st.length]? with
  | some ka, some kc, some (.dct []) => .ok (.ref st.length) (st4.set st.length (.dct (setK (setK [] ka b) kc d)))
  | _, _, _ => .no
def dGet2 (a b c : ME) : ME := fun env st => (a env st).bind fun o st => match o with
  | .ref n => match st[n]? with
    | some (.dct _) => (b env st).bind fun y st => (c env st).bind fun z st => match y.key, st[n]? with
      | some k, some (.dct kvs) => .ok ((getK kvs k).getD z) st
      | _, _ => .no
    | _ => .no
  | _ => .no
section
variable {X : Cx} {G : Gx} {e o f k1 v1 k2 v2 : Expr} {te to tf t1 t2 t3 t4 : TE} {me mo mf m1 m2 m3 m4 : ME} {pos apos cpos : Pos}
theorem se_revT {k : Nat} {p1 p2 p3 : Pos} (he : SE X G e te me) : SE X G (.Subscript e (.Slice none none (some (.UnaryOp .USub (.Constant (.int 1) k p1) p2)) p3) pos) (tRevT X.K te) (dRevT me) := ⟨pe_revT he.pe, fun σ env ρ st H Q ev es h => by
  refine he.sd σ env ρ st H _ ev es (h.bind fun x st1 ρ1 H1 vx f1 e1 es1 h1 => ?_)
  cases e1 with
  | @tup a ds vs hq hr =>
    refine ⟨a, vs, rfl, hq, fun p hp => ?_⟩
    exact h1 ρ1 _ _ (Fr.laid hp) (.tup (.inl (.inl upd_same)) (hr.reverse.mono (Fr.laid hp))) (es1.laid hp)
  | _ => exact h1.elim⟩
theorem se_disp2 (h1 : SE X G k1 t1 m1) (h2 : SE X G v1 t2 m2) (h3 : SE X G k2 t3 m3) (h4 : SE X G v2 t4 m4) : SE X G (.Dict [some k1, some k2] [v1, v2] pos) (tDisp [(t1, t2), (t3, t4)]) (dDisp2 m1 m2 m3 m4) :=
  ⟨pe_disp (pps_cons h1.pe h2.pe (pps_cons h3.pe h4.pe pps_nil)) (by rfl) (by rfl) (fun z => by cases z) (by show 2 ≤ 15; decide), fun σ env ρ st H Q ev es h => by
  intro p hp
  have F0 : Fr H ρ (upd H p (.dK [])) (ρ ++ [p]) := Fr.laidS hp
  have hloc : (ρ ++ [p])[st.length]? = some p := es.ref p
  refine h1.sd σ env (ρ ++ [p]) (st ++ [.dct []]) _ _ (ev.mono F0) (es.layD hp rfl .nil) ((Post.shift F0 h).bind fun a st1 ρ1 H1 va f1 e1 es1 q1 => ?_)
  refine h2.sd σ env ρ1 st1 H1 _ (ev.mono (F0.trans f1)) es1 (q1.bind fun b st2 ρ2 H2 vb f2 e2 es2 q2 => ?_)
  refine h3.sd σ env ρ2 st2 H2 _ (ev.mono ((F0.trans f1).trans f2)) es2 (q2.bind fun c st3 ρ3 H3 vc f3 e3 es3 q3 => ?_)
  refine h4.sd σ env ρ3 st3 H3 _ (ev.mono (((F0.trans f1).trans f2).trans f3)) es3 (q3.bind fun d st4 ρ4 H4 vd f4 e4 es4 q4 => ?_)
  split at q4
  · rename_i ka kc ha hc q
    have ea := key_of e1 ha
    have ec := key_of e3 hc
    subst ea ec
    have hn := (((f1.trans f2).trans f3).trans f4).get hloc
    obtain ⟨vvs, g1, g2, g3⟩ := es4.cell st.length p _ hn q
    have ew : vvs = [] := by
      have := congrArg List.length g2
      simp at this
      exact List.eq_nil_of_length_eq_zero this.symm
    subst ew
    refine ⟨g1, [(ka, vb), (kc, vd)], rfl, by show 2 ≤ 15; decide, ?_⟩
    obtain ⟨s1, s2⟩ := setK_of (k := ka) (d := b) (v := vb) (e2.mono (f3.trans f4)) (kvs := []) (vvs := []) rfl .nil
    obtain ⟨s3, s4⟩ := setK_of (k := kc) e4 s1 s2
    have fw : Fr H4 ρ4 (upd H4 p (.dK (putK (putK [] ka vb) kc vd))) ρ4 := Fr.writeD (List.mem_of_getElem? hn) g1
    exact q4 ρ4 _ _ fw (.ref hn) (es4.writeD hn g1 s3 s4)
  · exact q4.elim⟩
theorem se_get2 (hu : X.A.units + 64 < cLine) (ho : SE X G o to mo) (he : SE X G e te me) (hf : SE X G f tf mf) (m : M2 X o "get" apos e f cpos) : SE X G (.Call (.Attribute o "get" apos) [e, f] [] cpos) (tDGet2 to te tf) (dGet2 mo me mf) := ⟨pe_dget2 (by omega) ho.pe he.pe hf.pe m, fun σ env ρ st H Q ev es h => by
  refine ho.sd σ env ρ st H _ ev es (h.bind fun x st1 ρ1 H1 vx f1 e1 es1 h1 => ?_)
  cases e1 with
  | @ref n a hn =>
    dsimp only at h1
    split at h1
    · rename_i kvs0 q0
      obtain ⟨vv0, g0, _, _⟩ := es1.cell n a _ hn q0
      refine ⟨a, rfl, .inl ⟨vv0, .inl g0⟩, ?_⟩
      refine he.sd σ env ρ1 st1 H1 _ (ev.mono f1) es1 (h1.bind fun y st2 ρ2 H2 vy f2 e2 es2 h2 => ?_)
      refine hf.sd σ env ρ2 st2 H2 _ (ev.mono (f1.trans f2)) es2 (h2.bind fun z st3 ρ3 H3 vz f3 e3 es3 h3 => ?_)
      split at h3
      · rename_i k kvs hk q
        obtain ⟨vvs, g1, g2, g3⟩ := es3.cell n a _ ((f2.trans f3).get hn) q
        have ek := key_of e2 hk
        subst ek
        refine ⟨valV vvs k, DGet.k g1, ?_⟩
        rcases getK_of (k := k) g2 g3 with ⟨z1, z2⟩ | ⟨d, v, z1, z2, z3⟩
        · rw [z1] at h3
          rw [z2]
          exact h3.now e3 es3
        · rw [z1] at h3
          rw [z2]
          exact h3.now z3 es3
      · exact h3.elim
    · exact h1.elim
  | _ => exact h1.elim⟩
end
end Dn

set_option Elab.async false
set_option linter.all false
set_option maxRecDepth 100000
set_option maxHeartbeats 2000000
/-! Own instances in the store: fields, stores to fields, methods, the making of one. -/
namespace Dn
open PySem L2
variable {K : PySem.W.Frag} {T : List (Addr × Str)} {H H' : Hp} {ρ ρ' : List Addr} {st : Sto}
def putFD (f : Str) (d : D) : List (Str × D) → List (Str × D)
  | [] => [(f, d)]
  | (g, x) :: r => if g = f then (g, d) :: r else (g, x) :: putFD f d r
theorem fld_of {f : Str} : ∀ {fs : List (Str × D)} {vs : List (Str × V)}, fs.map (·.1) = vs.map (·.1) → EVs K H ρ (fs.map (·.2)) (vs.map (·.2)) →
    (fs.lookup f = none ∧ vs.lookup f = none) ∨ ∃ d v, fs.lookup f = some d ∧ vs.lookup f = some v ∧ EV K H ρ d v
  | [], [], _, _ => .inl ⟨rfl, rfl⟩
  | [], _ :: _, e, _ => by cases e
  | _ :: _, [], e, _ => by cases e
  | (k, d) :: r, (k', v) :: r', e, h => by
    obtain ⟨e1, e2⟩ := List.cons.inj e
    have e1 : k = k' := e1
    subst e1
    cases h with
    | cons h1 h2 =>
      by_cases c : f = k
      · have b : (f == k) = true := beq_iff_eq.mpr c
        exact .inr ⟨d, v, by simp only [List.lookup, b], by simp only [List.lookup, b], h1⟩
      · have b : (f == k) = false := beq_eq_false_iff_ne.mpr c
        rcases fld_of (f := f) e2 h2 with ⟨a1, a2⟩ | ⟨d', v', a1, a2, a3⟩
        · exact .inl ⟨by simp only [List.lookup, b]; exact a1, by simp only [List.lookup, b]; exact a2⟩
        · exact .inr ⟨d', v', by simp only [List.lookup, b]; exact a1, by simp only [List.lookup, b]; exact a2, a3⟩
theorem putF_of {f : Str} {d : D} {v : V} (hd : EV K H ρ d v) : ∀ {fs : List (Str × D)} {vs : List (Str × V)}, fs.map (·.1) = vs.map (·.1) → EVs K H ρ (fs.map (·.2)) (vs.map (·.2)) →
    (putFD f d fs).map (·.1) = (putF f v vs).map (·.1) ∧ EVs K H ρ ((putFD f d fs).map (·.2)) ((putF f v vs).map (·.2))
  | [], [], _, _ => ⟨rfl, .cons hd .nil⟩
  | [], _ :: _, e, _ => by cases e
  | _ :: _, [], e, _ => by cases e
  | (k, x) :: r, (k', y) :: r', e, h => by
    obtain ⟨e1, e2⟩ := List.cons.inj e
    have e1 : k = k' := e1
    subst e1
    cases h with
    | cons h1 h2 =>
      by_cases c : k = f
      · have a1 : putFD f d ((k, x) :: r) = (k, d) :: r := by show (if k = f then _ else _) = _; rw [if_pos c]
        have a2 : putF f v ((k, y) :: r') = (k, v) :: r' := by show (if k = f then _ else _) = _; rw [if_pos c]
        rw [a1, a2]
        exact ⟨by rw [List.map_cons, List.map_cons]; exact congrArg _ e2, .cons hd h2⟩
      · have a1 : putFD f d ((k, x) :: r) = (k, x) :: putFD f d r := by show (if k = f then _ else _) = _; rw [if_neg c]
        have a2 : putF f v ((k, y) :: r') = (k, y) :: putF f v r' := by show (if k = f then _ else _) = _; rw [if_neg c]
        obtain ⟨i1, i2⟩ := putF_of hd (f := f) e2 h2
        rw [a1, a2]
        exact ⟨by rw [List.map_cons, List.map_cons]; exact congrArg _ i1, .cons h1 i2⟩
/-! ### the store -/
theorem tabs_ins {a C dx : Addr} {vs : List (Str × V)} {u : HO} (hp : H a = some (.ins C dx vs)) (t : LamX.Tabs T H) : LamX.Tabs T (upd H a u) := fun q hq => by
  obtain ⟨ps, h1, h2, h3⟩ := t q hq
  refine ⟨ps, ?_, h2, fun pos cv hc => ?_⟩
  · rw [upd_ne (ne_of h1 hp (fun z => nomatch z))]; exact h1
  · obtain ⟨c, e1, e2⟩ := h3 pos cv hc
    refine ⟨c, e1, ?_⟩
    rw [upd_ne (ne_of e2 hp (fun z => nomatch z))]
    exact e2
theorem Fr.writeO {p C dx : Addr} {vs : List (Str × V)} {u : HO} (hm : p ∈ ρ) (hp : H p = some (.ins C dx vs)) : Fr H ρ (upd H p u) ρ where
  pre := ⟨[], (List.append_nil _).symm⟩
  keep := fun a u h n _ => by rw [upd_ne (show a ≠ p from fun e => n (by rw [e]; exact hm))]; exact h
  tup := fun a u h => by rw [upd_ne (ne_of h hp (fun z => nomatch z))]; exact h
  frz := fun a u z h => by rw [upd_ne (ne_of h hp (fun z => nomatch z))]; exact h
  new := fun _ h n => absurd h n
theorem ES.writeO {p C dx : Addr} {i : Nat} {vs ws : List (Str × V)} {fs : List (Str × D)} (e : ES K T H ρ st) (hi : ρ[i]? = some p) (hp : H p = some (.ins C dx vs)) (hk : fs.map (·.1) = ws.map (·.1)) (h : EVs K H ρ (fs.map (·.2)) (ws.map (·.2))) :
    ES K T (upd H p (.ins C dx ws)) ρ (st.set i (.obj C fs)) where
  tabs := tabs_ins hp e.tabs
  len := by rw [List.length_set]; exact e.len
  nd := e.nd
  cell := fun j a c h1 h2 => by
    have Fw : Fr H ρ (upd H p (.ins C dx ws)) ρ := Fr.writeO (List.mem_of_getElem? hi) hp
    by_cases hj : j = i
    · subst hj
      rw [hi] at h1
      cases h1
      have hl : j < st.length := by rw [← e.len]; exact (List.getElem?_eq_some_iff.mp hi).1
      rw [List.getElem?_set_self hl] at h2
      cases h2
      exact ⟨dx, ws, upd_same, hk, h.mono Fw⟩
    · rw [List.getElem?_set_ne (Ne.symm hj)] at h2
      have hap : a ≠ p := fun z => hj (nd_get e.nd (z ▸ h1) hi)
      exact (e.cell j a c h1 h2).mono Fw fun o h _ => by rw [upd_ne hap]; exact h
theorem ES.layO {p C dx : Addr} (e : ES K T H ρ st) (hp : H p = Option.none) : ES K T (upd H p (.ins C dx [])) (ρ ++ [p]) (st ++ [.obj C []]) where
  tabs := tabs_of (keepN hp) e.tabs
  len := by rw [List.length_append, List.length_append, e.len]; rfl
  nd := by
    rw [List.nodup_append]
    refine ⟨e.nd, by simp, fun a ha b hb z => ?_⟩
    rw [List.mem_singleton.mp hb] at z
    exact e.fresh hp (z ▸ ha)
  cell := fun i a c h1 h2 => by
    have Fl : Fr H ρ (upd H p (.ins C dx [])) (ρ ++ [p]) := Fr.laidS hp
    by_cases hi : i < ρ.length
    · rw [List.getElem?_append_left hi] at h1
      rw [List.getElem?_append_left (by rw [← e.len]; exact hi)] at h2
      exact (e.cell i a c h1 h2).mono Fl fun o h _ => by rw [upd_ne (ne_of_none h hp)]; exact h
    · have hl : i = ρ.length := by
        have := (List.getElem?_eq_some_iff.mp h1).1
        rw [List.length_append, List.length_singleton] at this
        omega
      subst hl
      rw [List.getElem?_append_right (Nat.le_refl _), Nat.sub_self] at h1
      rw [e.len, List.getElem?_append_right (Nat.le_refl _), Nat.sub_self] at h2
      cases h1
      cases h2
      exact ⟨dx, [], upd_same, rfl, .nil⟩
/-! ### the mirrors -/
/-- o.f -/
def dFld (C0 : Addr) (f : Str) (m : ME) : ME := fun env st => (m env st).bind fun x st => match x with
  | .ref n => match st[n]? with
    | some (.obj C fs) => if C = C0 then (match fs.lookup f with
      | some d => .ok d st
      | none => .no) else .no
    | _ => .no
  | _ => .no
/-- o.f = e -/
def sFldD (C0 : Addr) (f : Str) (o v : ME) : MS := fun env st => (v env st).toS fun d st => (o env st).toS fun x st => match x with
  | .ref n => match st[n]? with
    | some (.obj C fs) => if C = C0 ∧ fs.length < 1000 then .nx env (st.set n (.obj C (putFD f d fs))) else .no
    | _ => .no
  | _ => .no
/-- C(..) -/
def dMake (C0 : Addr) (M : FN) (as : MA) : ME := fun env st => (as env st).bind fun xs st => match M (.ref st.length :: xs) (st ++ [.obj C0 []]) with
  | .ok d st' => match d with
    | .non => .ok (.ref st.length) st'
    | _ => .no
  | .er n st' => .er n st'
  | .no => .no
/-- o.m(..) -/
def dMethO (C0 : Addr) (m : Str) (M : FN) (o : ME) (as : MA) : ME := fun env st => (o env st).bind fun x st => match x with
  | .ref n => match st[n]? with
    | some (.obj C fs) => if C = C0 ∧ fs.lookup m = none then (as env st).bind fun xs st => M (.ref n :: xs) st else .no
    | _ => .no
  | _ => .no
/-- a method that makes M of n data (self among them) -/
def OkM (P : Program) (w : World) (K : PySem.W.Frag) (mg : Str → Option Value) (base : Heap) (T : List (Addr × Str)) (C : Nat → Addr) (C0 : Addr) (m : Str) (ps : List Str) (n : Nat) (M : FN) (k : Nat) : Prop :=
  ∃ (f : Addr) (fd : FuncData), Meth K C0 m f ∧ L2.Binds K fd ps [] ∧ FnOk P w K mg base (L2N.CX P w) k f fd ps (spM K T C n M)
/-- .. its __init__ -/
def OkI (P : Program) (w : World) (K : PySem.W.Frag) (mg : Str → Option Value) (base : Heap) (T : List (Addr × Str)) (C : Nat → Addr) (C0 : Addr) (ps : List Str) (n : Nat) (M : FN) (k : Nat) : Prop :=
  ∃ (f : Addr) (fd : FuncData), Mk K C0 f ∧ L2.Binds K fd ps [] ∧ FnOk P w K mg base (L2N.CX P w) k f fd ps (spM K T C n M)
section
variable {X : Cx} {G : Gx} {o e : Expr} {es : List Expr} {to te : TE} {tas : TA} {mo me : ME} {mas : MA} {pos pos' p apos : Pos} {C0 : Addr} {f m x : Str} {k n : Nat} {ps : List Str} {M : FN}
theorem se_fld (c : Cls X.K C0) (na : NoAttr X.K C0 f) (ho : SE X G o to mo) (hb : attributeBase o f X.env (eval o X.env) = eval o X.env := by rfl) : SE X G (.Attribute o f pos) (tFld X.K to f) (dFld C0 f mo) := ⟨pe_fld ho.pe hb, fun σ env ρ st H Q ev es h => by
  refine ho.sd σ env ρ st H _ ev es (h.bind fun x st1 ρ1 H1 vx f1 e1 es1 h1 => ?_)
  split at h1
  · rename_i n
    obtain ⟨a, rfl, hn⟩ := e1.ofRef
    split at h1
    · rename_i C fs q
      obtain ⟨dx, vs, q1, q2, q3⟩ := es1.cell n a _ hn q
      by_cases hc : C = C0
      · rw [if_pos hc] at h1
        subst hc
        rcases fld_of (f := f) q2 q3 with ⟨z1, z2⟩ | ⟨d, v, z1, z2, z3⟩
        · rw [z1] at h1; exact h1.elim
        · rw [z1] at h1
          exact ⟨a, C, dx, vs, v, rfl, q1, c, na, z2, h1.now z3 es1⟩
      · rw [if_neg hc] at h1; exact h1.elim
    · exact h1.elim
  · exact h1.elim⟩
theorem ss_fld (c : Cls X.K C0) (na : NoAttr X.K C0 f) (ho : SE X G o to mo) (hv : SE X G e te me) (hs : swapsWith e (some (.Attribute o f pos')) pos.line X.env = pure false := by rfl) :
    SS X G (.Assign [.Attribute o f pos'] e pos) (sFld X.K to te f) (sFldD C0 f mo me) := ⟨ps_fld ho.pe hv.pe hs, fun σ env ρ st H Z ev es h => by
  refine hv.sd σ env ρ st H _ ev es (h.bindR fun d st1 ρ1 H1 v f1 e1 es1 h1 => ?_)
  refine ho.sd σ env ρ1 st1 H1 _ (ev.mono f1) es1 (h1.bindR fun x st2 ρ2 H2 vx f2 e2 es2 h2 => ?_)
  split at h2
  · rename_i n
    obtain ⟨a, rfl, hn⟩ := e2.ofRef
    split at h2
    · rename_i C fs q
      obtain ⟨dx, vs, q1, q2, q3⟩ := es2.cell n a _ hn q
      by_cases hc : C = C0 ∧ fs.length < 1000
      · rw [if_pos hc] at h2
        obtain ⟨hc, hl⟩ := hc
        subst hc
        have hlen : vs.length = fs.length := by simpa using (congrArg List.length q2).symm
        obtain ⟨s1, s2⟩ := putF_of (f := f) (e1.mono f2) q2 q3
        have fw : Fr H2 ρ2 (upd H2 a (.ins C dx (putF f v vs))) ρ2 := Fr.writeO (List.mem_of_getElem? hn) q1
        exact ⟨a, C, dx, vs, rfl, q1, c, na, by rw [hlen]; exact hl, h2 ρ2 _ σ fw (ev.mono ((f1.trans f2).trans fw)) (es2.writeO hn q1 s1 s2)⟩
      · rw [if_neg hc] at h2; exact h2.elim
    · exact h2.elim
  · exact h2.elim⟩
theorem se_make (h : OkI X.prog X.w X.K X.mg X.base G.T G.C C0 ps (n + 1) M k) (hm : X.mg x = some (.ref C0)) (hr : Room (k + 1) X.A) (hx : Passes (L2N.CX X.prog X.w) X G.E) (ha : SA X G (e :: es) tas mas) (hg : Gl X x := by rfl)
    (hdb : (x == ("__debug__" : Str)) = false := by decide) (he : starEach (e :: es) X.env = (false, eval e X.env) :: starEach es X.env := by rfl) (hpl : (backTo pos (starEach es X.env)).any (·.1) = false := by rfl) :
    SE X G (.Call (.Name x p) (e :: es) [] pos) (tMake C0 (spM X.K G.T G.C (n + 1) M) [] G.E tas) (dMake C0 (dFn (n + 1) M) mas) := by
  obtain ⟨f, fd, mk, hb, F⟩ := h
  refine ⟨pe_make mk F hr hg hm hb .nil hx ha.pe hdb he hpl, fun σ env ρ st H Q ev es h => ?_⟩
  refine ha.sd σ env ρ st H _ ev es (h.bind fun xs st1 ρ1 H1 vs f1 e1 es1 h1 => ?_)
  intro q dx hq hdx ne
  have hq' : (upd H1 dx (.own q)) q = none := by rw [upd_ne (Ne.symm ne)]; exact hq
  have F0 : Fr H1 ρ1 (upd H1 dx (.own q)) ρ1 := Fr.laid hdx
  have F2 : Fr (upd H1 dx (.own q)) ρ1 (upd (upd H1 dx (.own q)) q (.ins C0 dx [])) (ρ1 ++ [q]) := Fr.laidS hq'
  have E2 : ES X.K G.T (upd (upd H1 dx (.own q)) q (.ins C0 dx [])) (ρ1 ++ [q]) (st1 ++ [.obj C0 []]) := (es1.laid hdx).layO hq'
  have eself : (ρ1 ++ [q])[st1.length]? = some q := by
    rw [← es1.len, List.getElem?_append_right (Nat.le_refl _), Nat.sub_self]
    rfl
  unfold dFn at h1
  by_cases hl : (D.ref st1.length :: xs).length = n + 1
  · rw [if_pos hl] at h1
    refine ⟨.ref st1.length :: xs, ρ1 ++ [q], st1 ++ [.obj C0 []], hl, .cons (.ref eself) (by rw [List.append_nil]; exact e1.mono (F0.trans F2)), E2, ?_⟩
    cases hM : M (.ref st1.length :: xs) (st1 ++ [.obj C0 []]) with
    | no => rw [hM] at h1; exact h1.elim
    | er j st' =>
      rw [hM] at h1
      exact fun ρ' H' g es' => h1 ρ' H' ((F0.trans F2).trans g) es'
    | ok d st' =>
      rw [hM] at h1
      intro ρ' H' b g eb es'
      dsimp only at h1
      split at h1
      · cases eb
        exact ⟨rfl, h1 ρ' H' (.ref q) ((F0.trans F2).trans g) (.ref (g.get eself)) es'⟩
      · exact h1.elim
  · rw [if_neg hl] at h1
    exact h1.elim
theorem se_methO (c : Cls X.K C0) (h : OkM X.prog X.w X.K X.mg X.base G.T G.C C0 m ps (n + 1) M k) (hr : Room k X.A) (hx : Passes (L2N.CX X.prog X.w) X G.E) (ho : SE X G o to mo) (ha : SA X G (e :: es) tas mas) {pl : Sem Bool}
    (hst : starEach (e :: es) X.env = (false, eval e X.env) :: starEach es X.env := by rfl) (hpl : (backTo pos (starEach es X.env)).any (·.1) = false := by rfl)
    (ht : eval (.Call (.Attribute o m apos) (e :: es) [] pos) X.env = (do
      let ov ← eval o X.env
      standAt apos.atName
      let (f, first) ← holding [ov] (getMethod ov m pl)
      callWith pos f first (backTo pos (starEach (e :: es) X.env)) (backToKw pos (keywordEach [] X.env))) := by rfl) :
    SE X G (.Call (.Attribute o m apos) (e :: es) [] pos) (tMeth C0 m (spM X.K G.T G.C (n + 1) M) [] G.E to tas) (dMethO C0 m (dFn (n + 1) M) mo mas) := by
  obtain ⟨f, fd, mk, hb, F⟩ := h
  refine ⟨pe_meth ho.pe c mk F hr hb .nil hx ha.pe hst hpl ht, fun σ env ρ st H Q ev es h => ?_⟩
  refine ho.sd σ env ρ st H _ ev es (h.bind fun x st1 ρ1 H1 vx f1 e1 es1 h1 => ?_)
  split at h1
  · rename_i j
    obtain ⟨a, rfl, hn⟩ := e1.ofRef
    split at h1
    · rename_i C fs q
      obtain ⟨dx, vs, q1, q2, q3⟩ := es1.cell j a _ hn q
      by_cases hc : C = C0 ∧ fs.lookup m = none
      · rw [if_pos hc] at h1
        obtain ⟨hc, hl⟩ := hc
        subst hc
        rcases fld_of (f := m) q2 q3 with ⟨z1, z2⟩ | ⟨d, v, z1, _, _⟩
        · refine ⟨a, dx, vs, rfl, q1, z2, ?_⟩
          refine ha.sd σ env ρ1 st1 H1 _ (ev.mono f1) es1 (h1.bind fun xs st2 ρ2 H2 ws f2 e2 es2 h2 => ?_)
          unfold dFn at h2
          by_cases hlen : (D.ref j :: xs).length = n + 1
          · rw [if_pos hlen] at h2
            exact ⟨.ref j :: xs, ρ2, st2, hlen, .cons (.ref (f2.get hn)) (by rw [List.append_nil]; exact e2), es2, h2⟩
          · rw [if_neg hlen] at h2; exact h2.elim
        · rw [z1] at hl; cases hl
      · rw [if_neg hc] at h1; exact h1.elim
    · exact h1.elim
  · exact h1.elim
theorem se_methO0 (c : Cls X.K C0) (h : OkM X.prog X.w X.K X.mg X.base G.T G.C C0 m ps 1 M k) (hr : Room k X.A) (hx : Passes (L2N.CX X.prog X.w) X G.E) (ho : SE X G o to mo) {pl : Sem Bool}
    (ht : eval (.Call (.Attribute o m apos) [] [] pos) X.env = (do
      let ov ← eval o X.env
      standAt apos.atName
      let (f, first) ← holding [ov] (getMethod ov m pl)
      callWith pos f first (backTo pos (starEach [] X.env)) (backToKw pos (keywordEach [] X.env))) := by rfl) :
    SE X G (.Call (.Attribute o m apos) [] [] pos) (tMeth C0 m (spM X.K G.T G.C 1 M) [] G.E to tNil) (dMethO C0 m (dFn 1 M) mo aNil) := by
  obtain ⟨f, fd, mk, hb, F⟩ := h
  refine ⟨pe_meth0 ho.pe c mk F hr hb .nil hx ht, fun σ env ρ st H Q ev es h => ?_⟩
  refine ho.sd σ env ρ st H _ ev es (h.bind fun x st1 ρ1 H1 vx f1 e1 es1 h1 => ?_)
  split at h1
  · rename_i j
    obtain ⟨a, rfl, hn⟩ := e1.ofRef
    split at h1
    · rename_i C fs q
      obtain ⟨dx, vs, q1, q2, q3⟩ := es1.cell j a _ hn q
      by_cases hc : C = C0 ∧ fs.lookup m = none
      · rw [if_pos hc] at h1
        obtain ⟨hc, hl⟩ := hc
        subst hc
        rcases fld_of (f := m) q2 q3 with ⟨z1, z2⟩ | ⟨d, v, z1, _, _⟩
        · exact ⟨a, dx, vs, rfl, q1, z2, [.ref j], ρ1, st1, rfl, .cons (.ref hn) .nil, es1, h1⟩
        · rw [z1] at hl; cases hl
      · rw [if_neg hc] at h1; exact h1.elim
    · exact h1.elim
  · exact h1.elim
end
end Dn

set_option Elab.async false
set_option linter.all false
set_option maxRecDepth 100000
set_option maxHeartbeats 2000000
/-! Own instances: len, ==, isinstance. -/
namespace Dn
open PySem L2
/-- what is known of an own class -/
structure OwnC (K : PySem.W.Frag) (mg : Str → Option Value) (x : Str) (C0 : Addr) : Prop where
  cl : Cls K C0
  g : mg x = some (.ref C0)
  ca : PySem.W.findIn K (.ref C0) "__class__" = some (some (.builtin "object.__class__"))
  cn : PySem.W.specialIn K (.builtin "object.__class__") "__get__" = some (some (.builtin "getset_descriptor.__get__"))
  ct : PySem.W.takesIn K (.builtin "object.__class__") = some true
  mo : PySem.W.mroIn K C0 (.type "object") = some true
  k1 : PySem.W.kitOne K (.ref C0) (.ref C0) = some true
  k2 : PySem.W.kitOne K (.type "int") (.ref C0) = some false
  ns : PySem.W.notFirst K C0 (.ref C0) = true
  ni : PySem.W.notFirst K C0 (.type "int") = true
section
variable {X : Cx} {pins : List (Addr × Obj)} {σ : L2.St} {H : Hp} {s : Shared} {f C0 : Addr} {fd : FuncData} {ps : List Str} {sp : Sp} {E : XK} {n : Nat} {CX : CXT}
theorem run_okA {A : Around} {Q : VK} {us : List Value} {vs : List V} (F : FnOk X.prog X.w X.K X.mg X.base CX n f fd ps sp) (hr : Room n A) (e0 : Env0 X.prog X.w X.K X.mg X.base A X.stack s H) (hb : L2.Binds X.K fd ps []) (hx : Passes CX X E) (I : Inv X pins σ H s) (r : Vals vs us) (h : sp vs H Q E) :
    codeAny (model X.prog X.w) A (.call (.ref f) ⟨us, []⟩) (fun r s' => match r with | .ok (.ret v) => EP X pins σ Q v s' | .ok _ => False | .error e => X.xe e s') s := by
  have hl : us.length = ps.length := by rw [← r.length]; exact F.len _ _ _ _ h
  refine codeAny_mono (F.run A X.stack s H ⟨us, []⟩ us vs Q E hr e0 (by
    have := hb s us I.kIn (by simpa using hl)
    simpa using this) r h) fun r s' hq => ?_
  cases r with
  | error e => exact hx pins σ H s e s' I hq
  | ok fl =>
    cases fl with
    | ret u => exact I.after hq
    | next => exact False.elim hq
    | brk => exact False.elim hq
    | cont => exact False.elim hq
/-- len(x), x an instance with the text's own __len__ -/
def rLenO (C0 : Addr) (sp : Sp) (E : XK) : List V → Hp → VK → Prop := fun xs H Q => ∃ a dx fs, xs = [V.ref a] ∧ H a = some (.ins C0 dx fs) ∧ sp [.ref a] H (fun v H' => ∃ i : Int, v = .int i ∧ 0 ≤ i ∧ i < 2 ^ 63 ∧ Q (.int i) H') E
theorem call_lenO (hs : PySem.W.findIn X.K (.ref C0) "__len__" = some (some (.ref f))) (hf : PySem.W.isFn X.K (.ref f) = true) (F : FnOk X.prog X.w X.K X.mg X.base CX n f fd ps sp) (hb : L2.Binds X.K fd ps []) (hr : Room (n + 1) X.A) (hx : Passes CX X E) : CallR X (.builtin "len") (rLenO C0 sp E) := by
  intro pins s σ H xs us Q I r h
  obtain ⟨a, dx, fs, rfl, ha, q⟩ := h
  obtain ⟨u, rfl, ru⟩ := r.one
  cases (show u = Value.ref a from ru)
  obtain ⟨mA, J, _⟩ := ins_get I.hok ha
  obtain ⟨od, J, _⟩ := J.look
  obtain ⟨m, hF⟩ := I.fr
  refine PySem.W.len_K hF I.ok.mod.kin J hs hf (wpAny_mono (wpAny_call (run_okA (us := [.ref a]) (vs := [.ref a]) F hr.in1 I.env0.in1 hb hx I (.cons rfl .nil) q)) (fun w s' z => ?_) fun _ _ x => x)
  obtain ⟨z', H', I', rz, i, ei, h0, h1, qz⟩ := z
  subst ei
  obtain ⟨t, e⟩ := (show ∃ t, w = Value.int i t from rz)
  cases e
  exact ⟨⟨h0, h1⟩, .int i, H', I'.tok _, ⟨_, rfl⟩, qz⟩
/-- the other side of == -/
def OthV (C0 : Addr) (y : V) (H : Hp) : Prop := (∃ b dy gs, y = .ref b ∧ H b = some (.ins C0 dy gs)) ∨ ∃ i, y = .int i
def rEqO (C0 : Addr) (sp : Sp) (E : XK) : R2 := fun x y H Q => ∃ a dx fs, x = .ref a ∧ H a = some (.ins C0 dx fs) ∧ OthV C0 y H ∧ sp [x, y] H (fun v H' => ∃ b, v = .bl b ∧ Q (.bl b) H') E
theorem op_eqO {x0 : Str} (c : OwnC X.K X.mg x0 C0) (hs : PySem.W.findIn X.K (.ref C0) "__eq__" = some (some (.ref f))) (hf : PySem.W.isFn X.K (.ref f) = true) (F : FnOk X.prog X.w X.K X.mg X.base CX n f fd ps sp) (hb : L2.Binds X.K fd ps []) (hr : Room n X.A) (hx : Passes CX X E) : OpR X (compareOp .Eq) (rEqO C0 sp E) := by
  intro pins s σ H x y v u Q I rx ry h
  obtain ⟨a, dx, fs, rfl, ha, ho, q⟩ := h
  cases (show v = Value.ref a from rx)
  obtain ⟨mA, J, _⟩ := ins_get I.hok ha
  obtain ⟨od, J, _⟩ := J.look
  obtain ⟨m, hF⟩ := I.fr
  have fin : wpAny (model X.prog X.w) X.A (call (.ref f) [.ref a, u]) (PySem.W.CmpBack (EP X pins σ Q)) X.xe s := by
    refine wpAny_mono (wpAny_call (run_okA (us := [.ref a, u]) (vs := [.ref a, y]) F hr I.env0 hb hx I (.cons rfl (.cons ry .nil)) q)) (fun w s' z => ?_) fun _ _ x => x
    obtain ⟨z', H', I', rz, b, ez, qz⟩ := z
    subst ez
    exact SlX.cmpback rz ⟨.bl b, H', I', rz, qz⟩
  show wpAny (model X.prog X.w) X.A (richCompare .Eq (.ref a) u) (EP X pins σ Q) X.xe s
  rcases ho with ⟨b, dy, gs, rfl, hb'⟩ | ⟨i, rfl⟩
  · cases (show u = Value.ref b from ry)
    obtain ⟨mB, J', _⟩ := ins_get I.hok hb'
    obtain ⟨od', J', _⟩ := J'.look
    exact PySem.W.cmp_K (op := .Eq) (tb := .ref C0) hr.units0 hF I.ok.mod.kin J J'.type c.ns hs hf fin
  · obtain ⟨t, rfl⟩ := (show ∃ t, u = Value.int i t from ry)
    have hi : PySem.W.Looks (model X.prog X.w) s.heap (typeOf (.int i t)) (.type "int") := PySem.W.Looks.now
    exact PySem.W.cmp_K (op := .Eq) (tb := .type "int") hr.units0 hF I.ok.mod.kin J hi c.ni hs hf fin
end
/-! ### on data -/
def lenOD (C0 : Addr) (M : FN) : FN := fun xs st => match xs with
  | [.ref n] => match st[n]? with
    | some (.obj C _) => if C = C0 then (match M [.ref n] st with
      | .ok (.int i) st' => if 0 ≤ i ∧ i < 2 ^ 63 then .ok (.int i) st' else .no
      | .er n st' => .er n st'
      | _ => .no) else .no
    | _ => .no
  | _ => .no
def othD (C0 : Addr) (y : D) (st : Sto) : Bool := match y with
  | .int _ => true
  | .ref k => match st[k]? with
    | some (.obj C _) => decide (C = C0)
    | _ => false
  | _ => false
def eqOD (C0 : Addr) (M : FN) : F2 := fun x y st => match x with
  | .ref n => match st[n]? with
    | some (.obj C _) => if C = C0 ∧ othD C0 y st = true then (match M [.ref n, y] st with
      | .ok (.bl b) st' => .ok (.bl b) st'
      | .er n st' => .er n st'
      | _ => .no) else .no
    | _ => .no
  | _ => .no
def isiOD (C0 : Addr) : FN := fun xs st => match xs with
  | [x, .ob c] => if c = C0 then (match x with
    | .int _ => .ok (.bl false) st
    | .ref n => match st[n]? with
      | some (.obj C _) => if C = C0 then .ok (.bl true) st else .no
      | _ => .no
    | _ => .no) else .no
  | _ => .no
section
variable {K : PySem.W.Frag} {G : Gx} {C0 : Addr} {M : FN}
theorem cs_lenO : CallS K G (rLenO C0 (spM K G.T G.C 1 M) G.E) (lenOD C0 M) := by
  intro xs vs ρ st H Q e es h
  unfold lenOD at h
  split at h
  · rename_i n
    cases e with
    | cons e1 e2 =>
      cases e2
      obtain ⟨a, rfl, hn⟩ := e1.ofRef
      split at h
      · rename_i C fs q
        obtain ⟨dx, ws, q1, q2, q3⟩ := es.cell n a _ hn q
        by_cases hc : C = C0
        · rw [if_pos hc] at h
          subst hc
          refine ⟨a, dx, ws, rfl, q1, [.ref n], ρ, st, rfl, .cons (.ref hn) .nil, es, ?_⟩
          cases hM : M [.ref n] st with
          | no => rw [hM] at h; exact h.elim
          | er j st' => rw [hM] at h; exact h
          | ok d st' =>
            rw [hM] at h
            intro ρ' H' b g eb es'
            cases d <;> try exact h.elim
            rename_i i
            dsimp only at h
            by_cases hz : 0 ≤ i ∧ i < 2 ^ 63
            · rw [if_pos hz] at h
              cases eb
              exact ⟨i, rfl, hz.1, hz.2, h ρ' H' (.int i) g (.int i) es'⟩
            · rw [if_neg hz] at h; exact h.elim
        · rw [if_neg hc] at h; exact h.elim
      · exact h.elim
  · exact h.elim
theorem os_eqO : OpS K G (rEqO C0 (spM K G.T G.C 2 M) G.E) (eqOD C0 M) := by
  intro x y vx vy ρ st H Q e1 e2 es h
  unfold eqOD at h
  split at h
  · rename_i n
    obtain ⟨a, rfl, hn⟩ := e1.ofRef
    split at h
    · rename_i C fs q
      obtain ⟨dx, ws, q1, q2, q3⟩ := es.cell n a _ hn q
      by_cases hc : C = C0 ∧ othD C0 y st = true
      · rw [if_pos hc] at h
        obtain ⟨hc, ho⟩ := hc
        subst hc
        have hov : OthV C vy H := by
          unfold othD at ho
          split at ho
          · cases e2; exact .inr ⟨_, rfl⟩
          · rename_i k
            obtain ⟨b, rfl, hk⟩ := e2.ofRef
            split at ho
            · rename_i C' gs q'
              have := of_decide_eq_true ho
              subst this
              obtain ⟨dy, us, p1, _⟩ := es.cell k b _ hk q'
              exact .inl ⟨b, dy, us, rfl, p1⟩
            · cases ho
          · cases ho
        refine ⟨a, dx, ws, rfl, q1, hov, [.ref n, y], ρ, st, rfl, .cons (.ref hn) (.cons e2 .nil), es, ?_⟩
        cases hM : M [.ref n, y] st with
        | no => rw [hM] at h; exact h.elim
        | er j st' => rw [hM] at h; exact h
        | ok d st' =>
          rw [hM] at h
          intro ρ' H' b g eb es'
          cases d <;> try exact h.elim
          cases eb
          exact ⟨_, rfl, h ρ' H' _ g (.bl _) es'⟩
      · rw [if_neg hc] at h; exact h.elim
    · exact h.elim
  · exact h.elim
theorem cs_isiO {mg : Str → Option Value} {x0 : Str} (c : OwnC K mg x0 C0) : CallS K G (rIsi K) (isiOD C0) := by
  intro xs vs ρ st H Q e es h
  unfold isiOD at h
  split at h
  · rename_i x cc
    cases e with
    | cons e1 e2 =>
      cases e2 with
      | cons e2 e3 =>
        cases e3
        cases e2
        by_cases hc : cc = C0
        · rw [if_pos hc] at h
          subst hc
          split at h
          · rename_i i
            cases e1
            exact ⟨_, _, .type "int", .ref cc, false, rfl, .own cc, .base (.int i), c.k2, h.now (.bl false) es⟩
          · rename_i n
            obtain ⟨a, rfl, hn⟩ := e1.ofRef
            split at h
            · rename_i C fs q
              obtain ⟨dx, ws, q1, _⟩ := es.cell n a _ hn q
              by_cases h2 : C = cc
              · rw [if_pos h2] at h
                subst h2
                exact ⟨_, _, .ref C, .ref C, true, rfl, .own C, .base (.ins q1 c.cl c.ca c.cn c.ct c.mo), c.k1, h.now (.bl true) es⟩
              · rw [if_neg h2] at h; exact h.elim
            · exact h.elim
          · exact h.elim
        · rw [if_neg hc] at h; exact h.elim
  · exact h.elim
end
section
variable {X : Cx} {G : Gx} {C0 : Addr} {x : Str} {pos : Pos}
/-- the class, as a value -/
theorem se_gcls (h : X.mg x = some (.ref C0)) (hg : Gl X x := by rfl) (hd : (x == ("__debug__" : Str)) = false := by decide) : SE X G (.Name x pos) (tC (.ref C0)) (dC (.ob C0)) := se_const (pe_glob hg h rfl hd) fun _ _ => .ob C0
end
end Dn

set_option Elab.async false
set_option linter.all false
set_option maxRecDepth 100000
set_option maxHeartbeats 2000000
/-! Own classes: the defs of their bodies, what the top has left of them. -/
namespace Dt
open PySem PySem.Spec PyProof.Rows L2 Dn
/-- a def in a class's body -/
structure DefM (K : PySem.W.Frag) (C0 : Addr) (m qual : Str) (st : Stmt) (ps : List Str) (f : Addr) (fd : FuncData) : Prop where
  F : Fun K m qual st f fd
  b : L2.Binds K fd ps []
  me : Meth K C0 m f
section
variable {P : Program} {w : World} {K : PySem.W.Frag} {mg : Str → Option Value} {base : Heap} {T : List (Addr × Str)} {C : Nat → Addr} {C0 f : Addr} {m qual : Str} {st : Stmt} {ps : List Str} {fd : FuncData} {n k : Nat} {M : FN}
theorem okM_of (D : DefM K C0 m qual st ps f fd) (h : FnOk P w K mg base (L2N.CX P w) k f fd ps (spM K T C n M)) : OkM P w K mg base T C C0 m ps n M k := ⟨f, fd, D.me, D.b, h⟩
theorem okI_of (D : DefM K C0 "__init__" qual st ps f fd) (mk : PySem.W.makesIn K C0 = true) (kp : PySem.W.keepIn K (.ref C0) = true) (h : FnOk P w K mg base (L2N.CX P w) k f fd ps (spM K T C n M)) : OkI P w K mg base T C C0 ps n M k := ⟨f, fd, ⟨mk, D.me.at_, D.me.fn, kp⟩, D.b, h⟩
end
/-- such a def as it stands in the written part -/
structure MethIs (K : PySem.W.Frag) (C0 : Addr) (m qual : Str) (st : Stmt) : Prop where
  ex : ∃ (f : Addr) (oc : Value) (od an : Option Addr) (kV doc pm cdv ct : Value) (osl : Array (Option Value)), PySem.W.findIn K (.ref C0) m = some (some (.ref f)) ∧ PySem.W.isFn K (.ref f) = true ∧
    K.lookup f = some ⟨oc, od, .func (PySem.W.fnOf m qual (defArgs st) (defBody st) (defScope st) .none kV doc pm an cdv ct), osl⟩ ∧ PySem.W.codeIn K cdv qual = true ∧ PySem.W.keepIn K (.ref f) = true
theorem MethIs.mk' {K : PySem.W.Frag} {C0 : Addr} {m qual : Str} {st : Stmt} {f : Addr} {oc : Value} {od an : Option Addr} {kV doc pm cdv ct : Value} {osl : Array (Option Value)} (a : PySem.W.findIn K (.ref C0) m = some (some (.ref f))) (i : PySem.W.isFn K (.ref f) = true)
    (l : K.lookup f = some ⟨oc, od, .func (PySem.W.fnOf m qual (defArgs st) (defBody st) (defScope st) .none kV doc pm an cdv ct), osl⟩) (c : PySem.W.codeIn K cdv qual = true) (k : PySem.W.keepIn K (.ref f) = true) : MethIs K C0 m qual st := ⟨_, _, _, _, _, _, _, _, _, _, a, i, l, c, k⟩
theorem MethIs.def {K : PySem.W.Frag} {C0 : Addr} {m qual : Str} {st : Stmt} {ps : List Str} (d : MethIs K C0 m qual st)
    (hb : ∀ (kV doc pm : Value) (an : Option Addr) (cdv ct : Value) (us : List Value), us.length = ps.length → bindArgs (PySem.W.fnOf m qual (defArgs st) (defBody st) (defScope st) .none kV doc pm an cdv ct) ⟨us, []⟩ = pure (ps.zip us)) : ∃ f fd, DefM K C0 m qual st ps f fd := by
  obtain ⟨f, oc, od, an, kV, doc, pm, cdv, ct, osl, a, i, l, c, k⟩ := d.ex
  exact ⟨f, _, fun_mk (st := st) l c k, (fun_mk (st := st) l c k).binds hb, a, i, k⟩
/-- the class as it stands in the written part -/
structure ClsIs (K : PySem.W.Frag) (x : Str) (C0 : Addr) : Prop where
  a : PySem.W.nsIn K mainGlobals x = some (some (.ref C0))
  pg : PySem.W.plainGet K C0 Str.empty = true
  hd : PySem.W.hasDictIn K C0 = true
  po : PySem.W.plainOver K C0 = true
  sa : PySem.W.findIn K (.ref C0) "__setattr__" = some (some (.builtin "object.__setattr__"))
  mi : PySem.W.makesIn K C0 = true
  kc : PySem.W.keepIn K (.ref C0) = true
  ca : PySem.W.findIn K (.ref C0) "__class__" = some (some (.builtin "object.__class__"))
  cn : PySem.W.specialIn K (.builtin "object.__class__") "__get__" = some (some (.builtin "getset_descriptor.__get__"))
  ct : PySem.W.takesIn K (.builtin "object.__class__") = some true
  mo : PySem.W.mroIn K C0 (.type "object") = some true
  ty : PySem.W.typeIn K (.ref C0) = some (.type "type")
  si : PySem.W.subIn K (.type "int") (.ref C0) = some false
  ns : PySem.W.notFirst K C0 (.ref C0) = true
  ni : PySem.W.notFirst K C0 (.type "int") = true
theorem ClsIs.own {K : PySem.W.Frag} {x : Str} {C0 : Addr} {h : Heap} {mg : Str → Option Value} (c : ClsIs K x C0) (X : K.In h) (G : h.Ns mainGlobals mg) : OwnC K mg x C0 :=
  ⟨⟨c.pg, c.hd, c.po, c.sa⟩, PySem.W.mg_of X G c.a, c.ca, c.cn, c.ct, c.mo, by
    unfold PySem.W.kitOne
    rw [if_pos (beq_self_eq_true _)], by
    unfold PySem.W.kitOne
    rw [if_neg (by exact Bool.false_ne_true)]
    unfold PySem.W.kitCls
    dsimp only
    rw [if_pos (by rw [clsIn_some c.hd, c.ty]; rfl)]
    exact c.si, c.ns, c.ni⟩
section
variable {X : Cx} {G : Gx} {e : Expr} {tas : TA} {mas : MA} {p pos : Pos} {C0 : Addr} {ps : List Str} {M : FN} {k : Nat}
theorem se_lenO (h : OkM X.prog X.w X.K X.mg X.base G.T G.C C0 "__len__" ps 1 M k) (hr : Room (k + 1) X.A) (hx : Passes (L2N.CX X.prog X.w) X G.E) (hm : X.mg "len" = none) (ha : SA X G [e] tas mas) (hg : Gl X "len" := by rfl)
    (he : starEach [e] X.env = (false, eval e X.env) :: starEach [] X.env := by rfl) (hpl : (backTo pos (starEach [] X.env)).any (·.1) = false := by rfl) :
    SE X G (.Call (.Name "len" p) [e] [] pos) (tCB (rLenO C0 (spM X.K G.T G.C 1 M) G.E) tas) (dCall (lenOD C0 M) mas) := by
  obtain ⟨f, fd, mk, hb, F⟩ := h
  exact se_callB (call_lenO mk.at_ mk.fn F hb hr hx) cs_lenO hg hm (by decide +kernel) ha (by decide) (by decide) he hpl
theorem op_eqOM {x0 : Str} (c : OwnC X.K X.mg x0 C0) (h : OkM X.prog X.w X.K X.mg X.base G.T G.C C0 "__eq__" ps 2 M k) (hr : Room k X.A) (hx : Passes (L2N.CX X.prog X.w) X G.E) : OpR X (compareOp .Eq) (rEqO C0 (spM X.K G.T G.C 2 M) G.E) := by
  obtain ⟨f, fd, mk, hb, F⟩ := h
  exact op_eqO c mk.at_ mk.fn F hb hr hx
end
end Dt

set_option Elab.async false
set_option linter.all false
set_option maxRecDepth 100000
set_option maxHeartbeats 4000000
/-! tuple * 0, tuple * 1. -/
namespace Dn
open PySem PySem.Spec PyProof.Rows L2
theorem tuple_mul1 (l : Addr) (items : Array Value) (n : Nat) (dd : Option Addr) (sl : Array (Option Value)) (u : Tok) :
    Meets (Builtin.«tuple.__mul__» ⟨[.ref l, .int 1 u], []⟩) (fun _ R s => s.heap.get? l = some { cls := .type "tuple", dict := dd, data := .seq items n, slots := sl } ∧ R (.ok (.ret (Value.ref l))) s) :=
  .of_wp fun prog w A R s h => by
    obtain ⟨hp, g, d, tk, os⟩ := s
    obtain ⟨hl, h⟩ := h
    have f1 := AutoSeq1.idx_int
    have c0 : (decide ((1 : Int) < -(2 ^ 63)) || decide ((1 : Int) ≥ 2 ^ 63)) = false := by decide
    have c1 : (items.isEmpty || (1 : Int) == 1) = true := by cases items.isEmpty <;> rfl
    wp_walk using wpAny_loadPart' hl
    repeat (first
      | (refine wpAny_ite_false (decide_eq_false (by rw [c0]; exact Bool.false_ne_true)) ?_; wp_walk using wpAny_loadPart' hl)
      | (refine wpAny_ite_true (decide_eq_true c1) ?_; wp_walk using wpAny_loadPart' hl))
    exact ⟨_, rfl, h⟩
theorem tuple_mul0 (l : Addr) (items : Array Value) (n : Nat) (dd : Option Addr) (sl : Array (Option Value)) (u : Tok) (hi : items.isEmpty = false) :
    Meets (Builtin.«tuple.__mul__» ⟨[.ref l, .int 0 u], []⟩) (fun _ R s => s.heap.get? l = some { cls := .type "tuple", dict := dd, data := .seq items n, slots := sl } ∧
      R (.ok (.ret (Value.ref s.heap.objs.size))) { s with heap := s.heap.push { cls := Value.type "tuple", data := Data.seq #[] }, toks := s.toks }) :=
  .of_wp fun prog w A R s h => by
    obtain ⟨hp, g, d, tk, os⟩ := s
    obtain ⟨hl, h⟩ := h
    have f1 := AutoSeq1.idx_int
    have c0 : (decide ((0 : Int) < -(2 ^ 63)) || decide ((0 : Int) ≥ 2 ^ 63)) = false := by decide
    have c1 : (items.isEmpty || (0 : Int) == 1) = false := by rw [hi]; rfl
    have c2 : (decide ((0 : Int) ≤ 0) || items.isEmpty) = true := by rw [hi]; rfl
    wp_walk using wpAny_loadPart' hl
    repeat (first
      | (refine wpAny_ite_false (decide_eq_false (by rw [c0]; exact Bool.false_ne_true)) ?_; wp_walk using wpAny_loadPart' hl)
      | (refine wpAny_ite_false (decide_eq_false (by rw [c1]; exact Bool.false_ne_true)) ?_; wp_walk using wpAny_loadPart' hl)
      | (refine wpAny_ite_true (decide_eq_true c2) ?_; wp_walk using wpAny_loadPart' hl))
    exact ⟨_, rfl, h⟩
def rRep01 (K : PySem.W.Frag) : R2 := fun x y H Q => ∃ l k xs, x = .ref l ∧ y = .int k ∧ SqT K H l xs ∧ xs ≠ [] ∧ ((k = 1 ∧ Q (.ref l) H) ∨ (k = 0 ∧ ∀ p, H p = none → Q (.ref p) (upd H p (.tup []))))
section
variable {X : Cx}
theorem op_rep01 : OpR X (binaryOp .Mult) (rRep01 X.K) := by
  intro pins s σ H x y v u Q I rx ry h
  obtain ⟨l, k, xs, rfl, rfl, hT, hne, q⟩ := h
  cases rx
  obtain ⟨t, rfl⟩ := ry
  obtain ⟨its, r, ⟨⟨cls, dd, data, sl⟩, ho, hc, n, hd⟩, hs⟩ := I.tuple hT
  simp only at hc hd
  subst hc hd
  have hle : its.length = xs.length := r.length.symm
  have hn : its ≠ [] := fun e => hne (by
    rw [e] at hle
    exact List.eq_nil_of_length_eq_zero hle.symm)
  have hi : its.toArray.isEmpty = false := by
    cases its with
    | nil => exact absurd rfl hn
    | cons a b => rfl
  rcases q with ⟨rfl, q⟩ | ⟨rfl, q⟩
  · refine wpAny_binaryOp_repeat_ref (T := "tuple") (U := "int") (by decide) ⟨_, ho, rfl⟩ (fun s' => typeIs_int s' 1 t) noFill_tuple_mul F.fills_int_mul F.slot_int_rmul repeat_tuple F.slot_int_index.lookup
      (call_meets F.slot_int_rmul (typeIs_int s 1 t) F.entry_int_rmul (F.args_int_rmul_2 _ _) (int_rmul_tuple 1 t l its.toArray n dd sl)
        ⟨ho, rfl, ⟨_, ho, rfl⟩, call_meets F.slot_tuple_mul ⟨_, ho, rfl⟩ F.entry_tuple_mul (F.args_tuple_mul_2 _ _) (tuple_mul1 l its.toArray n dd sl t) ⟨ho, ?_⟩⟩)
    exact ⟨.ref l, H, I, rfl, q⟩
  · refine wpAny_binaryOp_repeat_ref (T := "tuple") (U := "int") (by decide) ⟨_, ho, rfl⟩ (fun s' => typeIs_int s' 0 t) noFill_tuple_mul F.fills_int_mul F.slot_int_rmul repeat_tuple F.slot_int_index.lookup
      (call_meets F.slot_int_rmul (typeIs_int s 0 t) F.entry_int_rmul (F.args_int_rmul_2 _ _) (int_rmul_tuple 0 t l its.toArray n dd sl)
        ⟨ho, rfl, ⟨_, ho, rfl⟩, call_meets F.slot_tuple_mul ⟨_, ho, rfl⟩ F.entry_tuple_mul (F.args_tuple_mul_2 _ _) (tuple_mul0 l its.toArray n dd sl t hi) ⟨ho, ?_⟩⟩)
    refine ⟨.ref s.heap.objs.size, _, I.laid (t' := s.toks) (o := .tup ([] : List V)) (fun b ob q => Heap.get?_push_of_some _ q) (Nat.le_refl _) ?_, rfl, q _ (I.hok.fresh (Nat.le_refl _))⟩
    exact ⟨Nat.zero_le _, ([] : List Value), .nil, IsTup.new _ _⟩
end
/-- .. on data, with all that stood before -/
def mulE : F2 := fun x y st => match x, y with
  | .tup ds, .int k => if ds ≠ [] ∧ k = 1 then .ok (.tup ds) st else if ds ≠ [] ∧ k = 0 then .ok (.tup []) st else mulD (.tup ds) (.int k) st
  | x, y => mulD x y st
def rMulE (K : PySem.W.Frag) : R2 := fun x y H Q => rMulA K x y H Q ∨ rRep01 K x y H Q
section
variable {X : Cx} {K : PySem.W.Frag} {G : Gx}
theorem op_mulE : OpR X (binaryOp .Mult) (rMulE X.K) := op_mulA.or op_rep01
theorem os_mulE : OpS K G (rMulE K) mulE := by
  intro x y vx vy ρ st H Q ex ey es h
  unfold mulE at h
  split at h
  · rename_i ds k
    by_cases c1 : ds ≠ [] ∧ k = 1
    · rw [if_pos c1] at h
      obtain ⟨hne, rfl⟩ := c1
      cases ex with
      | @tup a _ vs hT hr =>
        cases ey
        have hv : vs ≠ [] := fun z => hne (by
          have := hr.length
          rw [z] at this
          exact List.eq_nil_of_length_eq_zero this)
        exact .inr ⟨a, 1, vs, rfl, rfl, hT, hv, .inl ⟨rfl, h.now (.tup hT hr) es⟩⟩
    · rw [if_neg c1] at h
      by_cases c2 : ds ≠ [] ∧ k = 0
      · rw [if_pos c2] at h
        obtain ⟨hne, rfl⟩ := c2
        cases ex with
        | @tup a _ vs hT hr =>
          cases ey
          have hv : vs ≠ [] := fun z => hne (by
            have := hr.length
            rw [z] at this
            exact List.eq_nil_of_length_eq_zero this)
          refine .inr ⟨a, 0, vs, rfl, rfl, hT, hv, .inr ⟨rfl, fun p hp => ?_⟩⟩
          exact h ρ _ (.ref p) (Fr.laid hp) (.tup (.inl (.inl upd_same)) .nil) (es.laid hp)
      · rw [if_neg c2] at h
        exact .inl (os_mul _ _ _ _ ρ st H Q ex ey es h)
  · exact .inl (os_mul _ _ _ _ ρ st H Q ex ey es h)
end
end Dn

set_option Elab.async false
set_option linter.all false
set_option maxRecDepth 100000
set_option maxHeartbeats 4000000
/-! The end of a law whose lambdas are made in two defs. -/
namespace Dt
open PySem PySem.Spec PyProof.Rows L2 Dn Hh
/-- a law's promise from its mirror; a def besides makes lambdas too -/
def lamT2 (P : Addr) (P2 : Addr) (nm2 : Str) : List (Addr × Str) := [(P, (("law" : Str) ++ ".<locals>.") ++ "<lambda>"), (P2, (nm2 ++ ".<locals>.") ++ "<lambda>")]
theorem law_at2 {l : PySem.W.OpenLaw} {w : World} {K : PySem.W.Frag} {mg : Str → Option Value} {h : Heap} {fa c P : Addr} {k n : Nat} {x : Str} {st : Stmt} {C : Nat → Addr} {M : FN} {nm nm2 : Str} {st2 : Stmt} {c2 P2 : Addr} (X : K.In h) (G : h.Ns mainGlobals mg) (hfa : mg nm = some (.ref fa)) (L : LawIs K nm st c P) (hP : h.get? P = some { cls := .none, data := .fields #[] }) (L2' : LawIs K nm2 st2 c2 P2) (hP2 : h.get? P2 = some { cls := .none, data := .fields #[] })
    (hb : ∀ (kV doc pm : Value) (an : Option Addr) (cdv ct : Value) (us : List Value), us.length = 1 → bindArgs (PySem.W.fnOf nm nm (defArgs st) (defBody st) (defScope st) .none kV doc pm an cdv ct) ⟨us, []⟩ = pure ([x].zip us))
    (hF : ∀ (f : Addr) (fd : FuncData) (base : Heap), Def K mg nm st [x] f fd → fd.code = .ref c → K.In base → base.Ns mainGlobals mg → LamX.TabB base mg c P → LamX.TabB base mg c2 P2 → FnOk l.prog w K mg base (L2N.CX l.prog w) k f fd [x] (spM K (lamT2 P P2 nm2) C 1 M))
    (hM : ∀ ns : List Int, ns.length ≤ n → (∀ z ∈ ns, Builtin.Int.intBits z ≤ 1048576) → ∃ st', M [.kl (ns.map .int)] [] = .ok (.bl true) st') : LamX.LawAtS l w K (L2N.CX l.prog w) k n x mg fa h := by
  obtain ⟨f, oc, od, an, kV, doc, pm, ct, osl, a, lk, cc, kp⟩ := L.ex
  have e := hfa.symm.trans (PySem.W.mg_of X G a)
  cases e
  have Fm := fun_mk (st := st) lk cc kp
  have Df : Def K mg nm st [x] fa (PySem.W.fnOf nm nm (defArgs st) (defBody st) (defScope st) .none kV doc pm an (.ref c) ct) := ⟨Fm, hfa, Fm.binds hb⟩
  refine ⟨_, [(c, P), (c2, P2)], spM K (lamT2 P P2 nm2) C 1 M, fun p hp => ?_, fun p hp => ?_, fun p hp => ?_, fun s u => .of_eq (hb kV doc pm an (.ref c) ct [u] rfl), fun H a ns h1 h2 h3 h4 => ?_, fun base hK hN hT => hF fa _ base Df rfl hK hN (hT (c, P) List.mem_cons_self) (hT (c2, P2) (List.mem_cons_of_mem _ List.mem_cons_self))⟩
  · rcases List.mem_cons.mp hp with rfl | hp
    · exact hP
    · rw [List.mem_singleton.mp hp]; exact hP2
  · rcases List.mem_cons.mp hp with rfl | hp
    · exact L.no
    · rw [List.mem_singleton.mp hp]; exact L2'.no
  · rcases List.mem_cons.mp hp with rfl | hp
    · exact PySem.W.codeHd_of_K X L.hd
    · rw [List.mem_singleton.mp hp]; exact PySem.W.codeHd_of_K X L2'.hd
  · obtain ⟨st', e⟩ := hM ns h1 h2
    have hq : SqF K H [] a (ns.map V.int) := by
      rcases h4 with (z | ⟨o, z⟩) | z
      · exact .inl (.inr ⟨z, fun m => nomatch m⟩)
      · exact .inl (.inl ⟨o, z⟩)
      · exact .inr z
    refine ⟨[.kl (ns.map .int)], [], [], rfl, .cons (.kl hq (evs_map_int ns)) .nil, ⟨fun p hp => ?_, rfl, List.nodup_nil, fun i a c z => by cases z⟩, ?_⟩
    · rcases List.mem_cons.mp hp with rfl | hp
      · exact LamX.TabS.nil (h3 (c, P) List.mem_cons_self)
      · rw [List.mem_singleton.mp hp]
        exact LamX.TabS.nil (h3 (c2, P2) (List.mem_cons_of_mem _ List.mem_cons_self))
    · rw [e]
      intro ρ' H' v f ev es
      cases ev
      rfl
/-- the def besides, its code known -/
theorem LawIs.def {K : PySem.W.Frag} {x : Str} {st : Stmt} {c P : Addr} {h : Heap} {mg : Str → Option Value} {ps : List Str} (d : LawIs K x st c P) (X : K.In h) (G : h.Ns mainGlobals mg)
    (hb : ∀ (kV doc pm : Value) (an : Option Addr) (cdv ct : Value) (us : List Value), us.length = ps.length → bindArgs (PySem.W.fnOf x x (defArgs st) (defBody st) (defScope st) .none kV doc pm an cdv ct) ⟨us, []⟩ = pure (ps.zip us)) : ∃ f fd, Def K mg x st ps f fd ∧ fd.code = .ref c := by
  obtain ⟨f, oc, od, an, kV, doc, pm, ct, osl, a, l, cc, k⟩ := d.ex
  exact ⟨f, _, ⟨fun_mk (st := st) l cc k, PySem.W.mg_of X G a, (fun_mk (st := st) l cc k).binds hb⟩, rfl⟩
theorem lam2_l {P P2 : Addr} {nm2 : Str} (h : P ≠ P2) : ∀ p ∈ lamT2 P P2 nm2, p.1 = P → p.2 = (("law" : Str) ++ ".<locals>.") ++ "<lambda>" := fun p hp e => by
  rcases List.mem_cons.mp hp with rfl | hp
  · rfl
  · rw [List.mem_singleton.mp hp] at e
    exact absurd e.symm h
theorem lam2_d {P P2 : Addr} {nm2 : Str} (h : P ≠ P2) : ∀ p ∈ lamT2 P P2 nm2, p.1 = P2 → p.2 = (nm2 ++ ".<locals>.") ++ "<lambda>" := fun p hp e => by
  rcases List.mem_cons.mp hp with rfl | hp
  · exact absurd e h
  · rw [List.mem_singleton.mp hp]
end Dt

set_option Elab.async false
set_option linter.all false
set_option maxRecDepth 100000
set_option maxHeartbeats 4000000
/-! A def that calls itself: so many turns deep. -/
namespace Dn
open PySem PySem.Spec PyProof.Rows L2
/-- so many turns of a mirror that takes itself -/
def recN (step : FN → FN) : Nat → FN
  | 0 => fun _ _ => .no
  | n + 1 => step (recN step n)
section
variable {P : Program} {w : World} {K : PySem.W.Frag} {mg : Str → Option Value} {base : Heap} {T : List (Addr × Str)} {C : Nat → Addr}
theorem ok_none {x : Str} {st : Stmt} {ps : List Str} {f : Addr} {fd : FuncData} {n k : Nat} (D : Def K mg x st ps f fd) : Ok P w K mg base T C x ps n (fun _ _ => .no) k :=
  ok_of D ⟨fun vs H Q E h => by
    obtain ⟨xs, ρ, st, _, _, _, z⟩ := h
    exact z.elim, fun A outer s H args us vs Q E _ _ _ _ h => by
    obtain ⟨xs, ρ, st, _, _, _, z⟩ := h
    exact z.elim⟩
theorem ok_rec {x : Str} {st : Stmt} {ps : List Str} {f : Addr} {fd : FuncData} {n : Nat} {step : FN → FN} (D : Def K mg x st ps f fd)
    (h : ∀ (R : FN) (k : Nat), Ok P w K mg base T C x ps n R k → Ok P w K mg base T C x ps n (step R) (k + 1)) : ∀ m, Ok P w K mg base T C x ps n (recN step m) m
  | 0 => ok_none D
  | m + 1 => h _ m (ok_rec D h m)
end
end Dn

set_option Elab.async false
set_option linter.all false
set_option maxRecDepth 100000
set_option maxHeartbeats 4000000
/-! The least of a list of pairs of ints; < of pairs of ints. -/
namespace Dn
open PySem PySem.Spec PyProof.Rows L2 SrtO Sd
open PySem.W (minD dataLt dataLt_ii AlikeAll iter_listW cmpIn_lt moved_old argBest_fold lt_data)
def pdP (k : Int × Int) : PyData := .tuple [.int k.1, .int k.2]
def ltP (k j : Int × Int) : Bool := decide (k.1 < j.1 ∨ (k.1 = j.1 ∧ k.2 < j.2))
def minP (k : Int × Int) (ks : List (Int × Int)) : Int × Int := ks.foldl (fun a y => if ltP y a then y else a) k
theorem minP_data : ∀ (ks : List (Int × Int)) (k : Int × Int), minD (pdP k) (ks.map pdP) = pdP (minP k ks)
  | [], k => rfl
  | j :: ks, k => by
    have e : (if dataLt (pdP j) (pdP k) then pdP j else pdP k) = pdP (if ltP j k then j else k) := by
      have h : dataLt (pdP j) (pdP k) = ltP j k := dataLt_ii j.1 j.2 k.1 k.2
      rw [h]
      cases ltP j k <;> rfl
    show minD (if dataLt (pdP j) (pdP k) then pdP j else pdP k) (ks.map pdP) = pdP (minP (if ltP j k then j else k) ks)
    rw [e]
    exact minP_data ks _
theorem pdP_inj {k j : Int × Int} (h : pdP k = pdP j) : k = j := by
  unfold pdP at h
  have h1 := PyData.tuple.inj h
  have h2 := List.cons.inj h1
  have h3 := List.cons.inj h2.2
  exact Prod.ext (PyData.int.inj h2.1) (PyData.int.inj h3.1)
theorem pairAt {α β : Type} {F : α → β → Prop} : ∀ {xs : List α} {ys : List β}, Paired F xs ys → ∀ (i : Nat) (h : i < xs.length) (h' : i < ys.length), F xs[i] ys[i]
  | _ :: _, _ :: _, .cons a _, 0, _, _ => a
  | _ :: _, _ :: _, .cons _ b, i + 1, h, h' => pairAt b i (Nat.lt_of_succ_lt_succ h) (Nat.lt_of_succ_lt_succ h')
section
variable {X : Cx} {pins : List (Addr × Obj)} {σ : L2.St} {H : Hp} {s : Shared}
theorem reads_pair (I : Inv X pins σ H s) {k : Int × Int} {t : Addr} (ht : SqT X.K H t [.int k.1, .int k.2]) : Reads s.heap (.ref t) (pdP k) [] := by
  obtain ⟨its2, r2, p2, _⟩ := I.tuple ht
  obtain ⟨o, ho, hc, n, hd⟩ := (show s.heap.IsTuple t its2.toArray from p2)
  cases r2 with
  | cons r1 r2 =>
    cases r2 with
    | cons r3 r4 =>
      cases r4
      obtain ⟨t1, rfl⟩ := r1
      obtain ⟨t2, rfl⟩ := r3
      exact Reads.tuple ho hc hd (ReadsAll.cons (as := []) (bs := []) (Reads.int k.1 t1) (ReadsAll.cons (as := []) (bs := []) (Reads.int k.2 t2) .nil))
theorem reads_pairs (I : Inv X pins σ H s) : ∀ {ks : List (Int × Int)} {xs : List V} {its : List Value}, Vals xs its → ks.length = xs.length → (∀ z ∈ ks.zip xs, ∃ t, z.2 = V.ref t ∧ SqT X.K H t [.int z.1.1, .int z.1.2]) → ReadsAll s.heap its (ks.map pdP) [] := by
  intro ks
  induction ks with
  | nil =>
    intro xs its rv hl hx
    cases rv with
    | nil => exact .nil
    | cons _ _ => cases hl
  | cons k ks ih =>
    intro xs its rv hl hx
    cases rv with
    | nil => cases hl
    | @cons x u xs us r rs =>
      obtain ⟨t, e, ht⟩ := hx (k, x) (by rw [List.zip_cons_cons]; exact List.mem_cons_self)
      dsimp only at e ht
      subst e
      obtain rfl : u = Value.ref t := r
      exact ReadsAll.cons (as := []) (bs := []) (reads_pair I ht) (ih rs (by simpa using hl) fun z hz => hx z (by rw [List.zip_cons_cons]; exact List.mem_cons_of_mem _ hz))
theorem alike_pairs (ks : List (Int × Int)) : AlikeAll (ks.map pdP) := by
  refine ⟨fun x hx y hy => ?_, fun x hx => ?_⟩
  · obtain ⟨k, _, rfl⟩ := List.mem_map.mp hx
    obtain ⟨j, _, rfl⟩ := List.mem_map.mp hy
    rfl
  · obtain ⟨k, _, rfl⟩ := List.mem_map.mp hx
    intro z
    cases z
theorem depth_pairs : ∀ ks : List (Int × Int), PyData.depthAll (ks.map pdP) ≤ 3
  | [] => Nat.zero_le _
  | k :: ks => by
    have h := depth_pairs ks
    have e : (pdP k).depth ≤ 3 := by
      show (PyData.tuple [.int k.1, .int k.2]).depth ≤ 3
      simp only [PyData.depth, PyData.depthAll]
      decide
    show max (pdP k).depth (PyData.depthAll (ks.map pdP)) ≤ 3
    omega
/-- min(xs), xs a list of pairs of ints: one that is least -/
def rMinP (K : PySem.W.Frag) : List V → Hp → VK → Prop := fun vs H Q => ∃ (a : Addr) (xs : List V) (k : Int × Int) (ks : List (Int × Int)), vs = [V.ref a] ∧ SqL K H a xs ∧ (k :: ks).length = xs.length ∧
  (∀ z ∈ (k :: ks).zip xs, ∃ t, z.2 = V.ref t ∧ SqT K H t [.int z.1.1, .int z.1.2]) ∧ ∀ t, SqT K H t [.int (minP k ks).1, .int (minP k ks).2] → Q (.ref t) H
theorem call_minP (hc : X.calm = true) (hu : X.A.units + 64 < cLine) : CallR X (.builtin "min") (rMinP X.K) := by
  intro pins s σ H vs us Q I r h
  obtain ⟨a, xs, k, ks, rfl, hs, hl, hx, q⟩ := h
  obtain ⟨its, rv, hli, hz⟩ := I.list hs
  obtain ⟨u, rfl, ru⟩ := vals1 r
  obtain rfl : u = Value.ref a := ru
  have hr : ReadsAll s.heap its.toArray.toList ((k :: ks).map pdP) [] := reads_pairs I rv hl hx
  have hd := depth_pairs (k :: ks)
  have hn : its.length = ks.length + 1 := by rw [← rv.length, ← hl]; rfl
  refine call_min_walkH (iter_listW (A := X.A.in1) (I.ok.hd hc) hli.isList fun s₂ e W st hfp hw hk => ?_)
  refine ⟨_, _, _, _, _, _, _, s.heap, _, rfl, W, st, hfp, by show 0 < its.length; omega, hw, hk, cmpIn_lt (A := X.A.in1) hr (alike_pairs _) (by show X.A.units + 1 + _ < _; omega), fun v s' hP m => ?_⟩
  obtain ⟨h', tk, rfl, hk'⟩ := moved_old e rfl m
  have e1 : its.toArray.size - 1 = (ks.map pdP).length := by rw [List.length_map]; show its.length - 1 = _; omega
  obtain ⟨b1, b2⟩ := argBest_fold dataLt PyData.none (pdP k) (ks.map pdP) (ks.map pdP).length (Nat.le_refl _)
  rw [List.take_length] at b2
  have e2 : ((k :: ks).map pdP) = pdP k :: ks.map pdP := rfl
  rw [e1, e2] at hP
  generalize argBest (fun i j => dataLt ((pdP k :: ks.map pdP).getD i .none) ((pdP k :: ks.map pdP).getD j .none)) (ks.map pdP).length = i at *
  have b3 : (pdP k :: ks.map pdP).getD i .none = pdP (minP k ks) := b2.trans (minP_data ks k)
  rw [List.length_map] at b1
  have hi : i < (k :: ks).length := by rw [List.length_cons]; omega
  have hix : i < xs.length := by rw [← hl]; exact hi
  have hii : i < its.length := by omega
  have b4 : (k :: ks)[i] = minP k ks := by
    rw [← e2, List.getD_eq_getElem?_getD, List.getElem?_map, List.getElem?_eq_getElem hi] at b3
    exact pdP_inj b3
  obtain ⟨t, et, ht⟩ := hx ((k :: ks)[i], xs[i]) (by
    have hz2 : i < ((k :: ks).zip xs).length := by rw [List.length_zip]; omega
    have := List.getElem_mem hz2
    rwa [List.getElem_zip] at this)
  dsimp only at et ht
  rw [b4] at ht
  have hv : v = its[i] := by
    have : its.toArray[i]? = some its[i] := by simp [hii]
    rw [this] at hP
    exact (Option.some.inj hP).symm
  have hrel : RelV xs[i] its[i] := pairAt rv i hix hii
  exact ⟨.ref t, H, I.kept hk', by rw [hv, ← et]; exact hrel, q t ht⟩
/-- < of pairs of ints -/
def rLtP (K : PySem.W.Frag) : R2 := fun x y H Q => ∃ (a b : Addr) (k j : Int × Int), x = .ref a ∧ y = .ref b ∧ SqT K H a [.int k.1, .int k.2] ∧ SqT K H b [.int j.1, .int j.2] ∧ Q (.bl (ltP k j)) H
theorem op_ltP (hu : X.A.units + 64 < cLine) : OpR X (compareOp .Lt) (rLtP X.K) := by
  intro pins s σ H x y v u Q I rx ry h
  obtain ⟨a, b, k, j, rfl, rfl, ha, hb, q⟩ := h
  obtain rfl : v = Value.ref a := rx
  obtain rfl : u = Value.ref b := ry
  have d := depth_pairs [k]
  have e : PyData.depthAll ([k].map pdP) = max (pdP k).depth 0 := rfl
  refine lt_data (reads_pair I ha) (reads_pair I hb) rfl (fun z => by cases z) (by omega) ?_
  have h2 : dataLt (pdP k) (pdP j) = ltP k j := dataLt_ii k.1 k.2 j.1 j.2
  rw [h2]
  exact ⟨.bl (ltP k j), H, I, rfl, q⟩
end
/-! ### on data -/
def prD : D → Option (Int × Int)
  | .tup [.int i, .int j] => some (i, j)
  | _ => none
def prDs : List D → Option (List (Int × Int))
  | [] => some []
  | d :: ds => match prD d, prDs ds with
    | some k, some ks => some (k :: ks)
    | _, _ => none
theorem prD_of {d : D} {k : Int × Int} (h : prD d = some k) : d = .tup [.int k.1, .int k.2] := by
  unfold prD at h
  split at h
  · cases h
    rfl
  · cases h
theorem prDs_of : ∀ {ds : List D} {ks : List (Int × Int)}, prDs ds = some ks → ds = ks.map fun k => D.tup [.int k.1, .int k.2]
  | [], ks, h => by
    cases h
    rfl
  | d :: ds, ks, h => by
    unfold prDs at h
    cases e1 : prD d with
    | none => rw [e1] at h; cases h
    | some k =>
      cases e2 : prDs ds with
      | none => rw [e1, e2] at h; cases h
      | some js =>
        rw [e1, e2] at h
        cases h
        rw [List.map_cons, ← prDs_of e2, prD_of e1]
/-- min of a list of pairs -/
def minPD : FN := fun xs st => match lstOf st xs with
  | some ds => match prDs ds with
    | some (k :: ks) => .ok (.tup [.int (minP k ks).1, .int (minP k ks).2]) st
    | _ => .no
  | none => .no
def ltPD : F2 := fun x y st => match prD x, prD y with
  | some k, some j => .ok (.bl (ltP k j)) st
  | _, _ => .no
section
variable {K : PySem.W.Frag} {G : Gx} {H : Hp} {ρ : List Addr}
theorem EV.pair {k : Int × Int} {v : V} (h : EV K H ρ (.tup [.int k.1, .int k.2]) v) : ∃ t, v = .ref t ∧ SqT K H t [.int k.1, .int k.2] := by
  obtain ⟨t, us, g3, g4, g5⟩ := h.ofTup
  cases g5 with
  | cons i1 g5 =>
    cases g5 with
    | cons i2 g5 =>
      cases g5
      cases i1
      cases i2
      exact ⟨t, g3, g4⟩
theorem evs_pairs : ∀ {ks : List (Int × Int)} {ws : List V}, EVs K H ρ (ks.map fun k => D.tup [.int k.1, .int k.2]) ws → ∀ z ∈ ks.zip ws, ∃ t, z.2 = V.ref t ∧ SqT K H t [.int z.1.1, .int z.1.2]
  | [], _, _, z, hz => nomatch hz
  | k :: ks, ws, h, z, hz => by
    rw [List.map_cons] at h
    cases h with
    | cons a b =>
      rcases List.mem_cons.mp hz with e | hz
      · subst e
        exact a.pair
      · exact evs_pairs b z hz
theorem cs_minP : CallS K G (rMinP K) minPD := by
  intro xs vs ρ st H Q e es h
  unfold minPD at h
  split at h
  · rename_i ds q
    split at h
    · rename_i k ks q2
      obtain ⟨a, ws, rfl, h1, h2⟩ := e.lst es q
      have ed := prDs_of q2
      rw [ed] at h2
      refine ⟨a, ws, k, ks, rfl, h1, by rw [← h2.length, List.length_map], evs_pairs h2, fun t ht => ?_⟩
      exact h.now (EV.tup ht (.cons (.int _) (.cons (.int _) .nil))) es
    · exact h.elim
  · exact h.elim
theorem os_ltP : OpS K G (rLtP K) ltPD := by
  intro x y vx vy ρ st H Q ex ey es h
  unfold ltPD at h
  split at h
  · rename_i k j q1 q2
    rw [prD_of q1] at ex
    rw [prD_of q2] at ey
    obtain ⟨a, rfl, ha⟩ := ex.pair
    obtain ⟨b, rfl, hb⟩ := ey.pair
    exact ⟨a, b, k, j, rfl, rfl, ha, hb, h.now (.bl _) es⟩
  · exact h.elim
end
end Dn

set_option Elab.async false
set_option linter.all false
set_option maxRecDepth 100000
set_option maxHeartbeats 4000000
/-! A caught exception that is given back as a value: it becomes an object that is tracked. -/
namespace Dt
open PySem PySem.Spec PyProof.Rows L2 Dn Hh
section
variable {X : Cx} {pins : List (Addr × Obj)} {σ : L2.St} {H : Hp} {s : Shared}
/-- an object that has come since the entry, and that nothing tracks, is taken on -/
theorem Inv_adopt {a : Addr} {oe : Obj} {vs : Array Value} {cls : Value} (I : Inv X pins σ H s) (at_ : s.heap.get? a = some oe) (zc : Zc cls none oe) (dat : oe.data = .fields vs) (out : H a = none) (neL : a ≠ X.env.locals)
    (young : X.s_0.heap.get? a = none) (apart : ∀ p ∈ X.pn ++ pins, p.1 ≠ a) : Inv X pins σ (upd H a (ExK cls a)) s := by
  have off : ∀ {b : Addr}, b ≠ a → upd H a (ExK cls a) b = H b := fun hb => upd_ne hb
  have not_cell : ∀ y c, X.env.cells.lookup y = some c → c ≠ a := fun y c hc z => by
    obtain ⟨w, oc, g1, g2⟩ := I.cell y c hc
    rw [z, at_] at g1
    have := Option.some.inj g1
    rw [← this, dat] at g2
    cases g2
  have own : ObjOk X.prog X.w (upd H a (ExK cls a)) s.heap a (ExK cls a) := ⟨⟨oe, vs, at_, zc, dat⟩, ⟨oe, at_⟩, fun _ _ ⟨o', w', g1, g2⟩ st => ⟨o', w', st o' g1, g2⟩⟩
  have un : Un X.fs X.ex X.H_0 (upd H a (ExK cls a)) X.s_0.heap s.heap :=
    { keep := I.base.keep, slot := I.base.slot, there := I.base.there,
      free := fun b o g1 g2 g3 => by
        rw [off fun z => by rw [z, young] at g1; cases g1]
        exact I.base.free b o g1 g2 g3,
      tups := fun b xs g => by
        have k := I.base.tups b xs g
        rw [off fun z => by rw [z, out] at k; cases k]
        exact k,
      frzs := fun b o u g => by
        have k := I.base.frzs b o u g
        rw [off fun z => by rw [z, out] at k; cases k]
        exact k,
      tbls := fun b ps g => by
        obtain ⟨m, k⟩ := I.base.tbls b ps g
        exact ⟨m, by rw [off fun z => by rw [z, out] at k; cases k]; exact k⟩ }
  have hok : HOk X.prog X.w (upd H a (ExK cls a)) s.heap := fun b u g => by
    by_cases hb : b = a
    · subst hb
      rw [upd_same] at g
      cases g
      exact own
    · rw [off hb] at g
      exact (I.hok b u g).stay (fun _ _ _ k => k) (fun y k => by rw [off fun z => by rw [z, out] at k; cases k]; exact k) fun y xs k => by rw [off fun z => by rw [z, out] at k; cases k]; exact k
  exact ⟨I.ok, I.os, I.bare, un, I.loc, I.cell, by rw [off fun z => neL z.symm]; exact I.free, fun y c hc => by rw [off (not_cell y c hc)]; exact I.freeC y c hc,
    fun p hp => by rw [off (apart p hp)]; exact I.pin p hp, hok, I.len⟩
end
/-- what is wished of the exception that is given back -/
def wMet (K : PySem.W.Frag) (c : Value) (D : Ends) : WX := fun cls d _ H => PySem.W.exmOne K cls c = some true ∧ d = none ∧ ∀ a, H a = none → D.rt (.ref a) (upd H a (ExK cls a))
section
variable {X : Cx} {x n : Str} {c : Value} {i : Nat} {body : List Stmt} {q1 q2 q3 q4 q5 : Pos} {tb : WX → TS}
theorem ps_met (hst : X.stack = X.env :: X.outer) (hfr : X.env.frame = some X.env.locals) (hnd : X.N.Nodup) (hi : X.N[i]? = some n) (hloc : X.env.kindOf n = some .local) (hvis : Vis X.env.scope n) (hc : Names X x c) (hex : X.ex = [])
    (hdb : (n == ("__debug__" : Str)) = false) (hcd : (n == ("__classdict__" : Str)) = false)
    (hb : ∀ (W : WX) (pn : List (Addr × Obj)) (xe : Value → Shared → Prop), L2N.Takes (X.tr pn xe) W → PassesOwn (model X.prog X.w) X.A X.env xe → PSs (X.tr pn xe) body (tb W)) :
    PS X (.Try body [.ExceptHandler (some (.Name x q1)) (some n) [.Return (some (.Name n q2)) q3] q4] [] [] q5) (fun D σ H => tb (wMet X.K c D) D σ H) := by
  refine ⟨fun pins s σ H D I0 want => ?_⟩
  have ok := I0.ok
  have frames : X.A.frames = some (X.env :: X.outer) := by rw [ok.frames, hst]
  refine wpAny_Try_except (wpAny_mono ((hb (wMet X.K c D) (X.pn ++ pins) _ ?caught PassesOwn.looking).run [] s σ H D (I0.toTry _) want) ?thru fun _ _ z => z)
  case thru =>
    intro fl s1 h1
    match fl, h1 with
    | .next, ⟨σ1, H1, J, w⟩ => exact wpAny_execs_nil ⟨σ1, H1, J.ofTry ok, w⟩
    | .brk, ⟨σ1, H1, J, w⟩ => exact ⟨σ1, H1, J.ofTry ok, w⟩
    | .cont, ⟨σ1, H1, J, w⟩ => exact ⟨σ1, H1, J.ofTry ok, w⟩
    | .ret _, ⟨v1, σ1, H1, J, rv, w⟩ => exact ⟨v1, σ1, H1, J.ofTry ok, rv, w⟩
  case caught =>
    rintro _ sX ⟨a, G, sG, pG, σG, HG, cls, d, rfl, JG, inG, upG, air, out, osG, bareG, yes, rfl, give⟩
    have JO : Inv X pins σG HG sG := JG.ofTry ok
    have noG : G.get? a = none := by
      rcases air with ⟨_, z, _⟩ | z | z
      · exact z
      · exact z.2.1
      · exact z.2.1
    have sky : Sky G (X.env :: X.outer) a (L2N.Zn cls none) X.env.locals sX.heap := by rw [← hst]; exact air
    show wpAny (model X.prog X.w) X.A (noteFrame (.ref a) X.env) _ _ _
    refine L2N.Sky.land L2N.Zn.steady frames hfr sky fun hA flA upA => ?_
    have JA : Inv X pins σG HG { sX with heap := hA } := JO.landed inG flA.1 (upG.trans upA) osG bareG
    obtain ⟨oA, vA, getA, zA, datA⟩ := flA.there
    have notFrame : a ∉ frs (X.env :: X.outer) := fun hm => by
      obtain ⟨_, o', g1, g2⟩ := flA.2.2.1.mem hm
      rw [getA] at g1
      cases g1
      exact g2 _ datA
    have notLoc : a ≠ X.env.locals := fun z => notFrame (List.mem_filterMap.mpr ⟨X.env, List.mem_cons_self, by rw [hfr, z]⟩)
    have notFs : a ∉ X.fs := fun hm => by
      obtain ⟨e, g1, g2⟩ := List.mem_filterMap.mp hm
      exact notFrame (List.mem_filterMap.mpr ⟨e, List.mem_cons_of_mem _ g1, g2⟩)
    have absent : sG.heap.get? a = none := by
      cases g : sG.heap.get? a with
      | none => rfl
      | some o' =>
        have := inG a o' g (by rw [hst]; exact notFrame)
        rw [noG] at this
        cases this
    have young : X.s_0.heap.get? a = none := by
      cases g : X.s_0.heap.get? a with
      | none => rfl
      | some o' =>
        obtain ⟨o2, g2⟩ := JO.base.there a o' g (by rw [hex]; exact fun z => nomatch z)
        rw [absent] at g2
        cases g2
    have apart : ∀ p ∈ X.pn ++ pins, p.1 ≠ a := fun p hp z => by
      have := (JO.pin p hp).1
      rw [z, absent] at this
      cases this
    have SA := JA.suite getA datA out notLoc notFs
    have lookT : PySem.W.Looks (model X.prog X.w) hA (typeOf (.ref a)) cls := fun _ _ _ _ k w => wpAny_typeOf_ref (k _ _ getA) (by rw [zA.1]; exact w)
    have lookM := PySem.W.exm_one (M := model X.prog X.w) JA.kIn lookT yes
    have named : ∀ {Q E : Value → Shared → Prop}, Q c { sX with heap := hA } → wpAny (model X.prog X.w) (X.A.mark (some (.ref a))) (eval (.Name x q1) X.env) Q E { sX with heap := hA } := fun {Q E} k => by
      rcases hc with ⟨g1, g2, g3 | ⟨g3, g4, g5⟩⟩
      · exact ld_glob (X := X.suite a ((a, oA) :: (X.pn ++ pins))) SA g1 g3 k g2
      · exact ld_blt (X := X.suite a ((a, oA) :: (X.pn ++ pins))) SA g1 g3 g4 k g5 g2
    refine wpAny_handleBy_cons (codeAny_handlers_test (named (lookM.here ?_))) fun z => nomatch z
    refine codeAny_handlers_suite_as (HandSPX.lands_againZ flA fun hB flB upB => ?_)
    have JB : Inv X pins σG HG { sX with heap := hB } := JO.landed inG flB.1 ((upG.trans upA).trans upB) osG bareG
    obtain ⟨oB, vB, getB, zB, datB⟩ := flB.there
    have SB := JB.suite getB datB out notLoc notFs
    refine store_ok (X := X.suite a ((a, oB) :: (X.pn ++ pins))) (v := .ref a) SB hnd hi (.inl hloc) rfl (fun sC SC => ?_) (.inr hloc)
    have give_back : PSs (X.suite a ((a, oB) :: (X.pn ++ pins))) [.Return (some (.Name n q2)) q3] _ := pss_one (ps_ret (pos := q3) (pe_var (pos := q2) (i := i) hi hvis hdb hcd))
    have slot : (σG.set i (some (V.ref a)))[i]? = some (some (.ref a)) := List.getElem?_set_self (by rw [JG.len]; exact (List.getElem?_eq_some_iff.mp hi).1)
    refine wpAny_mono (give_back.run [] sC _ HG { nx := fun _ _ => False, rt := fun v H' => v = .ref a ∧ H' = HG, bk := fun _ _ => False, ct := fun _ _ => False } SC ⟨.ref a, slot, rfl, rfl⟩) ?_ fun _ _ z => z.elim
    intro fl sD hD
    match fl, hD with
    | .next, ⟨_, _, _, z⟩ => exact z.elim
    | .brk, ⟨_, _, _, z⟩ => exact z.elim
    | .cont, ⟨_, _, _, z⟩ => exact z.elim
    | .ret _, ⟨_, σD, _, SD, rv, rfl, rfl⟩ =>
      have P := SD.pin (a, oB) (List.mem_append_left _ List.mem_cons_self)
      have JD := Inv_adopt (SD.unsuite ok) P.1 zB.zc datB P.2.1 notLoc young apart
      exact gone_ok JD hnd hi hloc fun sE JE => ⟨.ref a, _, _, JE, rv, give a out⟩
end

/-! ### isinstance of a kept exception -/
section
variable {X : Cx} {G : Gx}
def rIsX (K : PySem.W.Frag) (C : Nat → Addr) : List V → Hp → VK → Prop := fun vs H Q => ∃ (a : Addr) (n : Nat) (c : V) (cv : Value) (b : Bool), vs = [V.ref a, c] ∧ n < 6 ∧ H a = some (ExK (.ref (C n)) a) ∧ (∀ u, RelV c u → u = cv) ∧ PySem.W.kitOne K (.ref (C n)) cv = some b ∧ Q (.bl b) H
theorem call_isX {C : Nat → Addr} (EX : ∀ n < 6, ExcC X.K (C n)) : CallR X (.builtin "isinstance") (rIsX X.K C) := by
  intro pins s σ H xs us Q I rel want
  obtain ⟨a, n, c, cv, b, rfl, hn, ha, hcv, one, q⟩ := want
  obtain ⟨u1, u2, rfl, rx, rt⟩ := vals2 rel
  cases rx
  have ec := hcv _ rt
  subst ec
  obtain ⟨⟨oe, vs, hget, hz, hd⟩, _, _⟩ := I.hok a _ ha
  have E := EX n hn
  have J : PySem.W.InstAt s.heap a oe (C n) none := by
    obtain ⟨oc, od, oda, osl⟩ := oe
    obtain ⟨h1, h2⟩ := hz
    dsimp only at h1 h2 hd
    subst h1 h2 hd
    exact ⟨hget, rfl, rfl, trivial⟩
  exact PySem.W.kia_one (PySem.W.handS_kitx_exc E.hg E.hk E.hs E.hd E.ha E.hn E.ht E.hm) I.kIn J one (fun z => nomatch z) fun tk => ⟨.bl b, H, I.kept (t' := tk) fun _ _ z => z, rfl, q⟩
/-- which of the classes -/
def clsNo (C : Nat → Addr) (c : Addr) : Option Nat := (List.range 6).find? fun n => decide (C n = c)
def isXD (K : PySem.W.Frag) (C : Nat → Addr) : FN := fun xs st => match xs with
  | [.ref i, c] => match st[i]? with
    | some (.exc e) => match clsNo C e with
      | some n => match (match c with
          | .ob c => PySem.W.kitOne K (.ref (C n)) (.ref c)
          | .ty t => PySem.W.kitOne K (.ref (C n)) (.type t)
          | _ => none) with
        | some b => .ok (.bl b) st
        | none => .no
      | none => .no
    | _ => .no
  | _ => .no
theorem cs_isX {K : PySem.W.Frag} {C : Nat → Addr} : CallS K G (rIsX K C) (isXD K C) := by
  intro xs vs ρ st H Q e es h
  unfold isXD at h
  split at h
  · rename_i i c
    split at h
    · rename_i ex hi
      split at h
      · rename_i n hn
        have h1 := List.find?_some hn
        have h2 := List.mem_range.mp (List.mem_of_find?_eq_some hn)
        have h1 := of_decide_eq_true h1
        cases e with
        | cons e1 r1 =>
          cases r1 with
          | cons e2 r2 =>
            cases r2
            obtain ⟨a, rfl, ha⟩ := e1.ofRef
            have hc : H a = some (ExK (.ref ex) a) := es.cell i a _ ha hi
            rw [← h1] at hc
            split at h
            · rename_i b hb
              cases e2 with
              | ob c => exact ⟨a, n, _, .ref c, b, rfl, h2, hc, fun u r => r, hb, h.now (.bl b) es⟩
              | ty t => exact ⟨a, n, _, .type t, b, rfl, h2, hc, fun u r => r, hb, h.now (.bl b) es⟩
              | _ => cases hb
            · exact h.elim
      · exact h.elim
    · exact h.elim
  · exact h.elim
end
/-! ### met(lambda: deed) -/
/-- what the deed raises, as a value; None else -/
def dMet (C : Nat → Addr) (m : ME) : ME := fun env st => match m env st with
  | .ok _ st => .ok .non st
  | .er n st => if n < 6 then .ok (.ref st.length) (st ++ [.exc (C n)]) else .no
  | .no => .no
/-- what is wished of the exception -/
def MetE (K : PySem.W.Frag) (T : List (Addr × Str)) (C : Nat → Addr) (Q : VK) : XK := fun cls d H => ∃ (n : Nat) (ρ : List Addr) (st : Sto), n < 6 ∧ cls = .ref (C n) ∧ d = none ∧ ES K T H ρ st ∧ Post (EV K) K T C H ρ Q L2.E0 (.ok (.ref st.length) (st ++ [.exc (C n)]))
def tMet (K : PySem.W.Frag) (G : Gx) (m : ME) : TE := fun σ H Q => LamX.Tabs G.T H ∧ ∀ H1, LamX.ExtN H H1 → LamX.Tabs G.T H1 → canE K { G with E := MetE K G.T G.C Q } m σ H1 (fun _ H' => Q .non H')
/-- the def that keeps what is caught: its body, its names -/
structure MetS (stT : Stmt) (a e b : Str) : Prop where
  body : ∃ p1 p2 p3 p4 p5 p6 p7 p8 j p9 p10, defBody stT = [.Try [.Expr (.Call (.Name a p1) [] [] p2) p3] [.ExceptHandler (some (.Name b p4)) (some e) [.Return (some (.Name e p5)) p6] p7] [] [] p8, .Return (some (.Constant .none j p9)) p10]
  sc : FnScope [a, e] [a] (defScope stT)
  va : Vis (defScope stT) a
  ve : Vis (defScope stT) e
  le : (defScope stT).names.lookup e = some .local
  gb : (defScope stT).names.lookup b = some .globalImplicit
  k : (defScope stT).kind = .function
theorem ES.layX {K : PySem.W.Frag} {T : List (Addr × Str)} {H : Hp} {ρ : List Addr} {st : Sto} {p c : Addr} (e : ES K T H ρ st) (hp : H p = none) : ES K T (upd H p (ExK (.ref c) p)) (ρ ++ [p]) (st ++ [.exc c]) where
  tabs := (e.laid hp).tabs
  len := by rw [List.length_append, List.length_append, e.len]; rfl
  nd := List.nodup_append.mpr ⟨e.nd, List.pairwise_singleton .., fun a ha b hb z => e.fresh hp (by rw [List.mem_singleton.mp hb] at z; rw [← z]; exact ha)⟩
  cell := fun i a d h1 h2 => by
    by_cases hi : i < st.length
    · rw [List.getElem?_append_left (by rw [e.len]; exact hi)] at h1
      rw [List.getElem?_append_left hi] at h2
      exact (e.cell i a d h1 h2).mono (Fr.laidS hp) fun u h _ => by rw [upd_ne (ne_of_none h hp)]; exact h
    · have l1 := (List.getElem?_eq_some_iff.mp h2).1
      rw [List.length_append] at l1
      have ei : i = st.length := by
        have : ([Cell.exc c] : Sto).length = 1 := rfl
        omega
      subst ei
      rw [List.getElem?_append_right (Nat.le_refl _), Nat.sub_self] at h2
      rw [List.getElem?_append_right (by rw [e.len]; exact Nat.le_refl _), e.len, Nat.sub_self] at h1
      cases h2
      cases h1
      exact upd_same
section
variable {X : Cx} {G : Gx}
theorem se_met {x a e b : Str} {cb : Addr} {stT : Stmt} {g c P : Addr} {fd : FuncData} {k : Nat} {params : Arguments} {body : Expr} {scope : Scope} {m : ME} {p lpos pos : Pos}
    (Df : Def X.K X.mg x stT [a] g fd) (MS : MetS stT a e b) (hcb : X.mg b = some (.ref cb)) (hex : ∀ n < 6, PySem.W.exmOne X.K (.ref (G.C n)) (.ref cb) = some true)
    (hg : Gl X x) (hr : Room (k + 2) X.A) (TB : LamX.TabB X.base X.mg c P) (hcode : X.env.code = .ref c) (hmT : (P, X.env.qual ++ "<lambda>") ∈ G.T) (hu : ∀ p ∈ G.T, p.1 = P → p.2 = X.env.qual ++ "<lambda>") (L : LamX.LamS X.env.scope scope) (hdef : defaultsOf params X.env = ([], []))
    (hbind : ∀ (q : Str) (cl : List (Str × Addr)) (pm cv ctv : Value), bindArgs (PySem.W.kla_fn "<lambda>" q params body scope cl pm cv ctv) ⟨[], []⟩ = pure [])
    (hbody : ∀ (A : Around) (outer : List Env) (s : Shared) (H : Hp) (E : XK) (f c' : Addr), Room k (A.deeper (LamX.lamEnv X scope s.heap.objs.size f c')) → ∃ te, SE (lamN X A outer s H E scope f c') { G with E := E } body te m)
    (hdb : (x == ("__debug__" : Str)) = false := by decide) (hda : (a == ("__debug__" : Str)) = false := by decide) (hca : (a == ("__classdict__" : Str)) = false := by decide) (hde : (e == ("__debug__" : Str)) = false := by decide) (hce : (e == ("__classdict__" : Str)) = false := by decide)
    (hdbb : (b == ("__debug__" : Str)) = false := by decide) :
    SE X G (.Call (.Name x p) [.Lambda params body scope lpos] [] pos) (tMet X.K G m) (dMet G.C m) := by
  refine ⟨⟨fun pins s σ H Q I hyp => ?_⟩, fun σ env ρ st H Q ev es h => ?_⟩
  · obtain ⟨hT, want⟩ := hyp
    obtain ⟨oc, od, kV, doc, pm, an, cdv, ct, osl, efd, lk, hcg⟩ := Df.F.ex
    have hb := Df.b
    subst efd
    obtain ⟨p1, p2, p3, p4, p5, p6, p7, p8, j, p9, p10, ebody⟩ := MS.body
    refine wpAny_Call_Name_kw (ld_glob I hg Df.g ?_ hdb)
    refine PySem.W.callWith_K (h₀ := X.base) I.ok.mod.kin Df.F.kp ?_ (by rfl) (by rfl)
    show wpAny _ _ (spliced ((false, eval (.Lambda params body scope lpos) X.env) :: backTo pos (starEach [] X.env))) _ _ s
    refine Calls.spliced_cons (LamX.lam_make2 I TB hcode hmT hu hT hdef (L.has I.ok) fun f c' pm' ctv H1 s' I1 eN T1 hf hfn hfr hco => ?_)
    refine Calls.spliced_nil ⟨I1.kIn, ?_⟩
    have rc : codeAny (model X.prog X.w) X.A (.call (.ref g) ⟨[.ref f], []⟩) (CR (L2N.CX X.prog X.w) X.stack X.prog X.w H1 s' Q L2.E0) s' := by
      refine LamX.run_ofS (CX := L2N.CX X.prog X.w) (N := [a, e]) (ps := [a]) (us := [.ref f]) (vs := [.ref f]) lk hcg MS.sc hr I1.env0 (hb s' [.ref f] I1.kIn rfl) (.cons rfl .nil) rfl fun hr' => ?_
      have hnd := MS.sc.nd
      have hZ : ∀ (Z : Cx), Z = cxOf (L2N.CX X.prog X.w) X.prog X.w X.K X.mg X.base [a, e] x (defScope stT) g cdv X.A X.stack s' H1 L2.E0 → ∃ t, PSs Z (defBody stT) t ∧ t { nx := fun _ H' => Q .non H', rt := Q } (L2.start [a, e] [.ref f]) H1 := by
        intro Z eZ
        subst eZ
        rw [ebody]
        refine ⟨_, pss_cons (ps_met (X := cxOf (L2N.CX X.prog X.w) X.prog X.w X.K X.mg X.base [a, e] x (defScope stT) g cdv X.A X.stack s' H1 L2.E0) (i := 1) (c := .ref cb)
            (tb := fun W D σZ HZ => ∃ Ech : XK, (∀ cls d σ' H', Ech cls d H' → σ'.length = 2 → W cls d σ' H') ∧ σZ[0]? = some (some (.ref f)) ∧ HZ c' = some (LamX.CodeO c' (X.env.qual ++ "<lambda>")) ∧ canE X.K { G with E := Ech } m σ HZ (fun _ H' => D.nx σZ H'))
            rfl rfl hnd rfl ?_ MS.ve ⟨MS.gb, hdbb, .inl hcb⟩ rfl hde hce (fun W pn xe tk _ => ?_)) (pss_one (ps_ret (pos := p10) (pe_non (pos := p9) (j := j)))), ?_⟩
        · show (envOfC x (defScope stT) s'.heap.objs.size g cdv).kindOf e = some .local
          exact MS.le
        · refine ⟨fun pinsZ sZ σZ HZ D IZ hyp => ?_⟩
          obtain ⟨Ech, hW, h1, h2, h3⟩ := hyp
          have tk' : L2N.Takes ((cxOf (L2N.CX X.prog X.w) X.prog X.w X.K X.mg X.base [a, e] x (defScope stT) g cdv X.A X.stack s' H1 L2.E0).tr pn xe) (fun cls d σ H => σ.length = 2 → W cls d σ H) := fun u s2 xx => by
            obtain ⟨ax, B, sI, pI, σI, HI, cls, d, e1, I2, e2, e3, e4, e5, e6, e7, w⟩ := xx
            exact tk u s2 ⟨ax, B, sI, pI, σI, HI, cls, d, e1, I2, e2, e3, e4, e5, e6, e7, w I2.len⟩
          have act := pe_actN (E := Ech) (tb := canE X.K { G with E := Ech } m) (i := 0) (a := a) (p1 := p1) (p2 := p2) I1 L hf hfn hfr (hbind _ _ _ _ _) tk' hW hr' (fun A outer s H hr3 => by
            obtain ⟨te, hte⟩ := hbody A outer s H Ech f c' hr3
            exact hte.can) rfl MS.va hda hca
          exact (pss_one (ps_expr (pos := p3) act)).run pinsZ sZ σZ HZ D IZ ⟨h1, h2, h3⟩
        · refine ⟨MetE X.K G.T G.C Q, fun cls d σ' H' te hl => ?_, rfl, hco, want H1 eN T1⟩
          obtain ⟨n, ρ, st, hn, e1, e2, es, hp⟩ := te
          subst e1
          refine ⟨hex n hn, e2, fun ax na => ?_⟩
          exact hp (ρ ++ [ax]) _ (.ref ax) (Fr.laidS na) (.ref (es.ref ax)) (ES.layX es na)
      exact hZ _ rfl
    refine wpAny_call (codeAny_mono rc fun r s2 hq => ?_)
    cases r with
    | error e =>
      obtain ⟨_, _, _, _, _, _, _, _, _, _, _, _, z⟩ := hq
      exact z.elim
    | ok fl =>
      cases fl with
      | ret u => exact I1.after hq
      | next => exact False.elim hq
      | brk => exact False.elim hq
      | cont => exact False.elim hq
  · refine ⟨es.tabs, fun H1 eN T1 => ⟨env, ρ, st, ev.mono (frN eN), esN es eN T1, ?_⟩⟩
    unfold dMet at h
    cases q : m env st with
    | ok d st1 =>
      rw [q] at h
      exact fun ρ' H' b f _ es' => h ρ' H' .non ((frN eN).trans f) .non es'
    | er n st1 =>
      rw [q] at h
      dsimp only at h
      by_cases hn : n < 6
      · rw [if_pos hn] at h
        exact fun ρ' H' f es' => ⟨n, ρ', st1, hn, rfl, rfl, es', Post.shift ((frN eN).trans f) h⟩
      · rw [if_neg hn] at h
        exact h.elim
    | no => rw [q] at h; exact h.elim
end
structure MetOk (K : PySem.W.Frag) (mg : Str → Option Value) (C : Nat → Addr) (ap : Str) (stT : Stmt) (gT : Addr) (fdT : FuncData) (cb : Addr) : Prop where
  D : Def K mg "_law_met" stT [ap] gT fdT
  S : MetS stT ap "_law_e" "RoundError"
  gb : mg "RoundError" = some (.ref cb)
  ex : ∀ n < 6, PySem.W.exmOne K (.ref (C n)) (.ref cb) = some true
end Dt

set_option Elab.async false
set_option linter.all false
set_option maxRecDepth 100000
set_option maxHeartbeats 4000000
namespace Pk
open PySem PySem.Spec PyProof.Rows L2 Dn Dt Hh
def c_BY_MULTIPLES : D := (.tup [(.str "down"), (.str "up"), (.str "rest")])
def c_TIES : D := (.tup [(.str "up"), (.str "down"), (.str "even"), (.str "odd")])
def m__law_cell : MS := (sSeq (sIf (tVal (dBin eqD (dVar 0) (dLst aNil))) (sRet (dBin mulD (dVar 1) (dC (.int 7919)))) sNext) (sRet (dBin addD (dBin ixD (dVar 0) (dBin modD (dVar 1) (dCall lenD (aCons (dVar 0) aNil)))) (dBin mulD (dBin fdivD (dVar 1) (dCall lenD (aCons (dVar 0) aNil))) (dC (.int 104729))))))
def M__law_cell : FN := fun xs st => (m__law_cell (startE 2 xs) st).res
def m__law_rounds : MS := (sRet (dLc (itRng1 (aCons (dCall max2D (aCons (dC (.int 1)) (aCons (dCall min2D (aCons (dVar 1) (aCons (dCall lenD (aCons (dVar 0) aNil)) aNil))) aNil))) aNil)) [2] (mName 2) tYesD (dLst (aCons (dCall (dFn 2 M__law_cell) (aCons (dVar 0) (aCons (dVar 2) aNil))) (aCons (dC (.int 0)) aNil)))))
def M__law_rounds : FN := fun xs st => (m__law_rounds (startE 3 xs) st).res
def m__law_drawn : MS := (sSeq (sAsg (dBin modD (dBin addD (dBin mulD (dVar 0) (dC (.int 6364136223846793005))) (dBin mulD (dBin addD (dVar 1) (dC (.int 1))) (dC (.int 1442695040888963407)))) (dC (.int 340282366920938463463374607431768211507))) (mName 2)) (sSeq (sAsg (dBin modD (dBin mulD (dVar 2) (dVar 2)) (dC (.int 340282366920938463463374607431768211297))) (mName 2)) (sSeq (sAsg (dBin mulD (dBin mulD (dBin addD (dBin modD (dVar 2) (dC (.int 18446744073709551557))) (dC (.int 1))) (dBin addD (dBin fdivD (dVar 2) (dC (.int 18446744073709551557))) (dC (.int 1)))) (dVar 2)) (mName 2)) (sRet (dBin modD (dVar 2) (dC (.int 340282366920938463463374607431768211507)))))))
def M__law_drawn : FN := fun xs st => (m__law_drawn (startE 3 xs) st).res
def m__law_roll : MS := (sSeq (sIf (tVal (dBin geD (dBin ixD (dVar 0) (dC (.int 0))) (dBin powD (dC (.int 10)) (dC (.int 18))))) (sSeq (sAsg (dBin modD (dBin ixD (dVar 0) (dC (.int 0))) (dVar 1)) (mName 2)) (sSeq (sAsg (dBin fdivD (dBin ixD (dVar 0) (dC (.int 0))) (dVar 1)) (mSub (dVar 0) (dC (.int 0)) setD)) (sRet (dVar 2)))) sNext) (sSeq (sAsg (dBin addD (dBin ixD (dVar 0) (dC (.int 1))) (dC (.int 1))) (mSub (dVar 0) (dC (.int 1)) setD)) (sRet (dBin modD (dBin fdivD (dCall (dFn 2 M__law_drawn) (aCons (dBin ixD (dVar 0) (dC (.int 0))) (aCons (dBin ixD (dVar 0) (dC (.int 1))) aNil))) (dC (.int 8))) (dVar 1)))))
def M__law_roll : FN := fun xs st => (m__law_roll (startE 3 xs) st).res
def m_is_integer : MS := (sRet (dAndV (dCall isiD (aCons (dVar 0) (aCons (dC (.ty "int")) aNil))) (dNotV (dCall isiD (aCons (dVar 0) (aCons (dC (.ty "bool")) aNil))))))
def M_is_integer : FN := fun xs st => (m_is_integer (startE 1 xs) st).res
def m_is_fraction : MS := (sSeq (sIf (tOrD (tNotD (tTru (dCall isiD (aCons (dVar 0) (aCons (dC (.ty "tuple")) aNil))))) (tVal (dBin neD (dCall lenD (aCons (dVar 0) aNil)) (dC (.int 2))))) (sRet (dC (.bl false))) sNext) (sSeq (sAsg (dVar 0) (mTup 2 (mCons (mName 2) (mCons (mName 3) mNil)))) (sSeq (sIf (tOrD (tNotD (tTru (dCall (dFn 1 M_is_integer) (aCons (dVar 2) aNil)))) (tNotD (tTru (dCall (dFn 1 M_is_integer) (aCons (dVar 3) aNil))))) (sRet (dC (.bl false))) sNext) (sSeq (sIf (tOrD (tVal (dBin gtD (dCall absD (aCons (dVar 2) aNil)) (dVar 1))) (tNotD (tVal (dChain leD leD (dC (.int 1)) (dVar 3) (dVar 1))))) (sRet (dC (.bl false))) sNext) (sRet (dBin eqD (dCall gcdD (aCons (dVar 2) (aCons (dVar 3) aNil))) (dC (.int 1))))))))
def M_is_fraction : FN := fun xs st => (m_is_fraction (startE 4 xs) st).res
def m_is_tie : MS := (sRet (dAndV (dCall isiD (aCons (dVar 0) (aCons (dC (.ty "str")) aNil))) (dBin (memD false) (dVar 0) (dC c_TIES))))
def M_is_tie : FN := fun xs st => (m_is_tie (startE 1 xs) st).res
def m_is_amount_of : MS := (sSeq (sIf (tVal (dBin (memD false) (dVar 0) (dC c_BY_MULTIPLES))) (sRet (dBin gtD (dBin ixD (dVar 1) (dC (.int 0))) (dC (.int 0)))) sNext) (sSeq (sIf (tVal (dBin eqD (dVar 0) (dC (.str "times")))) (sRet (dBin neD (dBin ixD (dVar 1) (dC (.int 0))) (dC (.int 0)))) sNext) (sRet (dBin eqD (dVar 0) (dC (.str "add"))))))
def M_is_amount_of : FN := fun xs st => (m_is_amount_of (startE 2 xs) st).res
def m_is_step : MS := (sSeq (sIf (tOrD (tNotD (tTru (dCall isiD (aCons (dVar 0) (aCons (dC (.ty "tuple")) aNil))))) (tVal (dBin ltD (dCall lenD (aCons (dVar 0) aNil)) (dC (.int 2))))) (sRet (dC (.bl false))) sNext) (sSeq (sAsg (dBin ixD (dVar 0) (dC (.int 0))) (mName 1)) (sSeq (sAsg (dBin ixD (dVar 0) (dC (.int 1))) (mName 2)) (sSeq (sIf (tOrD (tNotD (tTru (dCall isiD (aCons (dVar 1) (aCons (dC (.ty "str")) aNil))))) (tNotD (tTru (dCall (dFn 2 M_is_fraction) (aCons (dVar 2) (aCons (dC (.int 10)) aNil)))))) (sRet (dC (.bl false))) sNext) (sSeq (sIf (tVal (dBin eqD (dVar 1) (dC (.str "near")))) (sRet (dAndV (dBin eqD (dCall lenD (aCons (dVar 0) aNil)) (dC (.int 3))) (dAndV (dCall (dFn 1 M_is_tie) (aCons (dBin ixD (dVar 0) (dC (.int 2))) aNil)) (dBin gtD (dBin ixD (dVar 2) (dC (.int 0))) (dC (.int 0)))))) sNext) (sRet (dAndV (dBin eqD (dCall lenD (aCons (dVar 0) aNil)) (dC (.int 2))) (dCall (dFn 2 M_is_amount_of) (aCons (dVar 1) (aCons (dVar 2) aNil))))))))))
def M_is_step : FN := fun xs st => (m_is_step (startE 3 xs) st).res
def m_is_chain : MS := (sSeq (sIf (tOrD (tNotD (tTru (dCall isiD (aCons (dVar 0) (aCons (dC (.ty "tuple")) aNil))))) (tVal (dBin gtD (dCall lenD (aCons (dVar 0) aNil)) (dC (.int 4))))) (sRet (dC (.bl false))) sNext) (sRet (dCall allD (aCons (dLc (itSeq (dVar 0)) [1] (mName 1) tYesD (dCall (dFn 1 M_is_step) (aCons (dVar 1) aNil))) aNil))))
def M_is_chain : FN := fun xs st => (m_is_chain (startE 2 xs) st).res
def m_check_chain : MS := (sIf (tNotD (tTru (dCall (dFn 1 M_is_chain) (aCons (dVar 0) aNil)))) (sRaise 0) sNext)
def M_check_chain : FN := fun xs st => (m_check_chain (startE 1 xs) st).res
def P_check_chain : FN := pureM M_check_chain
def m_form : MS := (sSeq (sDrop (dCall (dFn 1 P_check_chain) (aCons (dVar 0) aNil))) sNo)
def M_form : FN := fun xs st => (m_form (startE 1 xs) st).res
def P_form : FN := pureM M_form
def m_check_number : MS := (sIf (tNotD (tTru (dCall (dFn 2 M_is_fraction) (aCons (dVar 0) (aCons (dC (.int 1000000000000000000000000000000)) aNil))))) (sRaise 1) sNext)
def M_check_number : FN := fun xs st => (m_check_number (startE 1 xs) st).res
def m_value : MS := (sSeq (sDrop (dCall (dFn 1 P_check_chain) (aCons (dVar 0) aNil))) (sSeq (sDrop (dCall (dFn 1 M_check_number) (aCons (dVar 1) aNil))) (sSeq sNo (sSeq sNo sNo))))
def M_value : FN := fun xs st => (m_value (startE 4 xs) st).res
def P_value : FN := pureM M_value
def m_left_out : MS := (sSeq (sDrop (dCall (dFn 1 P_check_chain) (aCons (dVar 0) aNil))) (sSeq (sIf (tOrD (tNotD (tTru (dCall (dFn 1 M_is_integer) (aCons (dVar 1) aNil)))) (tNotD (tVal (dChain leD ltD (dC (.int 0)) (dVar 1) (dCall lenD (aCons (dVar 0) aNil)))))) (sRaise 2) sNext) sNo))
def M_left_out : FN := fun xs st => (m_left_out (startE 2 xs) st).res
def P_left_out : FN := pureM M_left_out
def m_told_integer : MS := (sSeq (sAsg (dDc (itRng2 (aCons (dUn negD (dC (.int 10))) (aCons (dBin addD (dC (.int 10)) (dC (.int 1))) aNil))) [2] (mName 2) tYesD (dCall strD (aCons (dVar 2) aNil)) (dVar 2)) (mName 1)) (sRet (dGet1 (dVar 1) (dVar 0))))
def M_told_integer : FN := fun xs st => (m_told_integer (startE 3 xs) st).res
def m_told_fraction : MS := (sSeq (sAsg (dMeth "str" partD (dVar 0) (aCons (dC (.str "/")) aNil)) (mTup 3 (mCons (mName 1) (mCons (mName 2) (mCons (mName 3) mNil))))) (sSeq (sIf (tVal (dBin eqD (dVar 2) (dC (.str "")))) (sRet (dTup (aCons (dCall (dFn 1 M_told_integer) (aCons (dVar 1) aNil)) (aCons (dC (.int 1)) aNil)))) sNext) (sSeq (sIf (tVal (dBin eqD (dVar 3) (dC (.str "1")))) (sRet (dC .non)) sNext) (sRet (dTup (aCons (dCall (dFn 1 M_told_integer) (aCons (dVar 1) aNil)) (aCons (dCall (dFn 1 M_told_integer) (aCons (dVar 3) aNil)) aNil)))))))
def M_told_fraction : FN := fun xs st => (m_told_fraction (startE 4 xs) st).res
def m_told_step : MS := (sSeq (sAsg (dMeth "str" splitD (dVar 0) (aCons (dC (.str " ")) aNil)) (mName 1)) (sSeq (sIf (tVal (dBin ltD (dCall lenD (aCons (dVar 1) aNil)) (dC (.int 2)))) (sRet (dC .non)) sNext) (sRet (dBin addD (dTup (aCons (dBin ixD (dVar 1) (dC (.int 0))) (aCons (dCall (dFn 1 M_told_fraction) (aCons (dBin ixD (dVar 1) (dC (.int 1))) aNil)) aNil))) (dCall tupleD (aCons (dSlice (dVar 1) (oSome (dC (.int 2))) oNone) aNil))))))
def M_told_step : FN := fun xs st => (m_told_step (startE 2 xs) st).res
def m_parse_chain : MS := (sSeq (sIf (tNotD (tTru (dCall isiD (aCons (dVar 0) (aCons (dC (.ty "str")) aNil))))) (sRaise 3) sNext) (sSeq (sIf (tVal (dBin eqD (dVar 0) (dC (.str "")))) (sRet (dTup aNil)) sNext) (sSeq (sAsg (dMeth "str" splitD (dVar 0) (aCons (dC (.str "; ")) aNil)) (mName 1)) (sSeq (sIf (tVal (dBin gtD (dCall lenD (aCons (dVar 1) aNil)) (dC (.int 4)))) (sRaise 3) sNext) (sSeq (sAsg (dCall tupleD (aCons (dLc (itSeq (dVar 1)) [3] (mName 3) tYesD (dCall (dFn 1 M_told_step) (aCons (dVar 3) aNil))) aNil)) (mName 2)) (sSeq (sIf (tNotD (tTru (dCall (dFn 1 M_is_chain) (aCons (dVar 2) aNil)))) (sRaise 3) sNext) (sRet (dVar 2))))))))
def M_parse_chain : FN := fun xs st => (m_parse_chain (startE 4 xs) st).res
def P_parse_chain : FN := pureM M_parse_chain
def m_joined : MS := (sSeq (sDrop (dCall (dFn 1 P_check_chain) (aCons (dVar 0) aNil))) (sSeq (sDrop (dCall (dFn 1 P_check_chain) (aCons (dVar 1) aNil))) (sSeq (sIf (tVal (dBin gtD (dBin addD (dCall lenD (aCons (dVar 0) aNil)) (dCall lenD (aCons (dVar 1) aNil))) (dC (.int 4)))) (sRaise 4) sNext) (sRet (dBin addD (dVar 0) (dVar 1))))))
def M_joined : FN := fun xs st => (m_joined (startE 2 xs) st).res
def P_joined : FN := pureM M_joined
def m_Desk_redo (C0 : Addr) : MS := (sSeq (sIf (tNotD (tTru (dFld C0 "_undone" (dVar 0)))) (sRaise 5) sNext) (sSeq sNo (sSeq sNo (sSeq sNo sNo))))
def M_Desk_redo (C0 : Addr) : FN := fun xs st => (m_Desk_redo C0 (startE 2 xs) st).res
def m_Desk___init__ (C0 : Addr) : MS := (sSeq (sDrop (dCall (dFn 1 P_check_chain) (aCons (dVar 1) aNil))) (sSeq (sFldD C0 "_now" (dVar 0) (dVar 1)) (sSeq (sFldD C0 "_earlier" (dVar 0) (dLst aNil)) (sFldD C0 "_undone" (dVar 0) (dLst aNil)))))
def M_Desk___init__ (C0 : Addr) : FN := fun xs st => (m_Desk___init__ C0 (startE 2 xs) st).res
def m__law_alone (K : PySem.W.Frag) (C : Nat → Addr) : MS := (sSeq (sAsg (dLst (aCons (dCall (isXD K C) (aCons (dVar 0) (aCons (dC (.ob (C 0))) aNil))) (aCons (dCall (isXD K C) (aCons (dVar 0) (aCons (dC (.ob (C 1))) aNil))) (aCons (dCall (isXD K C) (aCons (dVar 0) (aCons (dC (.ob (C 2))) aNil))) aNil)))) (mName 2)) (sSeq (sAsg (dBin addD (dVar 2) (dLst (aCons (dCall (isXD K C) (aCons (dVar 0) (aCons (dC (.ob (C 3))) aNil))) (aCons (dCall (isXD K C) (aCons (dVar 0) (aCons (dC (.ob (C 4))) aNil))) (aCons (dCall (isXD K C) (aCons (dVar 0) (aCons (dC (.ob (C 5))) aNil))) aNil))))) (mName 2)) (sRet (dAndV (dCall (isXD K C) (aCons (dVar 0) (aCons (dC (.ty "ValueError")) aNil))) (dBin eqD (dVar 2) (dLc (itRng1 (aCons (dC (.int 6)) aNil)) [3] (mName 3) tYesD (dBin eqD (dVar 3) (dVar 1))))))))
def M__law_alone (K : PySem.W.Frag) (C : Nat → Addr) : FN := fun xs st => (m__law_alone K C (startE 4 xs) st).res
def m_law (K : PySem.W.Frag) (C : Nat → Addr) (C0 : Addr) : MS := (sSeq (sFor (itSeq (dCall (dFn 2 M__law_rounds) (aCons (dVar 0) (aCons (dC (.int 4)) aNil)))) (mName 1) (sSeq (sAsg (dTup (aCons (dBin addD (dC (.int 11)) (dCall (dFn 2 M__law_roll) (aCons (dVar 1) (aCons (dC (.int 90)) aNil)))) (aCons (dBin mulE (dTup (aCons (dTup (aCons (dC (.str "add")) (aCons (dTup (aCons (dC (.int 1)) (aCons (dC (.int 1)) aNil))) aNil))) aNil)) (dC (.int 4))) aNil))) (mTup 2 (mCons (mName 3) (mCons (mName 4) mNil)))) (sSeq (sAsg (dLst (aCons (dMet C (dCall (dFn 1 P_form) (aCons (dTup (aCons (dTup (aCons (dC (.str "add")) (aCons (dTup (aCons (dVar 3) (aCons (dC (.int 1)) aNil))) aNil))) aNil)) aNil))) aNil)) (mName 2)) (sSeq (sDrop (dMeth "list" appendD (dVar 2) (aCons (dMet C (dCall (dFn 2 P_value) (aCons (dTup aNil) (aCons (dVar 3) aNil)))) aNil))) (sSeq (sDrop (dMeth "list" appendD (dVar 2) (aCons (dMet C (dCall (dFn 2 P_left_out) (aCons (dTup aNil) (aCons (dVar 3) aNil)))) aNil))) (sSeq (sDrop (dMeth "list" appendD (dVar 2) (aCons (dMet C (dCall (dFn 1 P_parse_chain) (aCons (dBin addD (dC (.str "add ")) (dCall strD (aCons (dVar 3) aNil))) aNil))) aNil))) (sSeq (sDrop (dMeth "list" appendD (dVar 2) (aCons (dMet C (dCall (dFn 2 P_joined) (aCons (dVar 4) (aCons (dVar 4) aNil)))) aNil))) (sSeq (sDrop (dMeth "list" appendD (dVar 2) (aCons (dMet C (dMethO C0 "redo" (dFn 1 (M_Desk_redo C0)) (dMake C0 (dFn 2 (M_Desk___init__ C0)) (aCons (dTup aNil) aNil)) aNil)) aNil))) (sIf (tNotD (tTru (dCall allD (aCons (dLc (itEnum (aCons (dVar 2) aNil)) [5, 6] (mTup 2 (mCons (mName 5) (mCons (mName 6) mNil))) tYesD (dCall (dFn 2 (M__law_alone K C)) (aCons (dVar 6) (aCons (dVar 5) aNil)))) aNil)))) (sRet (dC (.bl false))) sNext))))))))) (sRet (dC (.bl true))))
def M_law (K : PySem.W.Frag) (C : Nat → Addr) (C0 : Addr) : FN := fun xs st => (m_law K C C0 (startE 7 xs) st).res

end Pk

set_option Elab.async false
set_option linter.all false
set_option maxRecDepth 100000
set_option maxHeartbeats 4000000
namespace Lw
open PySem PySem.Spec PyProof.Rows L2 Dn Dt Hh Pk
def topS (i : Nat) : Stmt := PySem.Challenge.pw_roundwaves_k14_errors_apart.main.body.getD i (.Pass ⟨0, 0, 0, 0⟩)
structure Gs (K : PySem.W.Frag) (mg : Str → Option Value) (C : Nat → Addr) : Prop where
  b_ValueError : mg "ValueError" = none
  b_abs : mg "abs" = none
  b_all : mg "all" = none
  b_bool : mg "bool" = none
  b_enumerate : mg "enumerate" = none
  b_int : mg "int" = none
  b_isinstance : mg "isinstance" = none
  b_len : mg "len" = none
  b_max : mg "max" = none
  b_min : mg "min" = none
  b_range : mg "range" = none
  b_str : mg "str" = none
  b_tuple : mg "tuple" = none
  c_BY_MULTIPLES : KTup K mg "BY_MULTIPLES" c_BY_MULTIPLES
  c_LARGEST_IN_NUMBER : KInt mg "LARGEST_IN_NUMBER" 1000000000000000000000000000000
  c_LARGEST_IN_STEP : KInt mg "LARGEST_IN_STEP" 10
  c_MOST_STEPS : KInt mg "MOST_STEPS" 4
  c_TIES : KTup K mg "TIES" c_TIES
  e_InvalidChain : Exc K mg "InvalidChain" (C 0)
  e_InvalidNumber : Exc K mg "InvalidNumber" (C 1)
  e_InvalidStep : Exc K mg "InvalidStep" (C 2)
  e_InvalidText : Exc K mg "InvalidText" (C 3)
  e_NothingToUndo : Exc K mg "NothingToUndo" (C 5)
  e_TooMany : Exc K mg "TooMany" (C 4)
  m_gcd : mg "gcd" = some (.builtin "math.gcd")
structure Dk (K : PySem.W.Frag) (mg : Str → Option Value) (C0 : Addr) : Prop where
  own : OwnC K mg "Desk" C0
  mi : PySem.W.makesIn K C0 = true
  kc : PySem.W.keepIn K (.ref C0) = true
  na__now : NoAttr K C0 "_now"
  na__earlier : NoAttr K C0 "_earlier"
  na__undone : NoAttr K C0 "_undone"

section
variable {P : Program} {w : World} {K : PySem.W.Frag} {mg : Str → Option Value} {base : Heap} {T : List (Addr × Str)} {C : Nat → Addr} {C0 : Addr}
abbrev s__law_cell : Stmt := topS 77
abbrev N__law_cell : List Str := ["_law_script", "_law_k"]
theorem sc__law_cell : FnScope ["_law_script", "_law_k"] ["_law_script", "_law_k"] (defScope s__law_cell) := ⟨rfl, rfl, rfl, by decide +kernel, rfl, by decide +kernel, by decide +kernel⟩
theorem ok__law_cell (Γ : Gs K mg C)  {f : Addr} {fd : FuncData} (D : Def K mg "_law_cell" s__law_cell ["_law_script", "_law_k"] f fd) : Ok P w K mg base T C "_law_cell" ["_law_script", "_law_k"] 2 M__law_cell 1 := by
  exact ok_of D (fun_ok (m := m__law_cell) D.F sc__law_cell rfl (fun cdv A outer s H E hr => ⟨_, (sss_cons (ss_if (st_cmp (op_eqA hr.units) os_eq (se_var 0) (se_lst sa_nil) (nomark _)) (sss_one (ss_ret (se_bin op_mulA os_mul (se_var 1) se_int))) sss_nil) (sss_one (ss_ret (se_bin op_addA os_add (se_ix (se_var 0) (se_bin op_modN os_mod (se_var 1) (se_callB call_len cs_len rfl Γ.b_len (by decide +kernel) (sa_cons (se_var 0) sa_nil)))) (se_bin op_mulA os_mul (se_bin op_fdivA os_fdiv (se_var 1) (se_callB call_len cs_len rfl Γ.b_len (by decide +kernel) (sa_cons (se_var 0) sa_nil))) se_int)))))⟩) (fun _ _ _ _ => Tells.same _))
abbrev s__law_rounds : Stmt := topS 80
abbrev N__law_rounds : List Str := ["_law_script", "_law_most", "_law_k"]
theorem sc__law_rounds : FnScope ["_law_script", "_law_most", "_law_k"] ["_law_script", "_law_most"] (defScope s__law_rounds) := ⟨rfl, rfl, rfl, by decide +kernel, rfl, by decide +kernel, by decide +kernel⟩
theorem ok__law_rounds (Γ : Gs K mg C) (o__law_cell : Ok P w K mg base T C "_law_cell" ["_law_script", "_law_k"] 2 M__law_cell 1) {f : Addr} {fd : FuncData} (D : Def K mg "_law_rounds" s__law_rounds ["_law_script", "_law_most"] f fd) : Ok P w K mg base T C "_law_rounds" ["_law_script", "_law_most"] 2 M__law_rounds 2 := by
  exact ok_of D (fun_ok (m := m__law_rounds) D.F sc__law_rounds rfl (fun cdv A outer s H E hr => ⟨_, (sss_one (ss_ret (se_lc (own := [("_law_k", 2)]) rfl sc__law_rounds.nd (si_rng1 rfl Γ.b_range (sa_cons (se_callB (call_max2 rfl) cs_int2 rfl Γ.b_max (by decide +kernel) (sa_cons se_int (sa_cons (se_callB (call_min2 rfl) cs_int2 rfl Γ.b_min (by decide +kernel) (sa_cons (se_var 1) (sa_cons (se_callB call_len cs_len rfl Γ.b_len (by decide +kernel) (sa_cons (se_var 0) sa_nil)) sa_nil))) sa_nil))) sa_nil)) (blkOk_by (N := N__law_rounds) (sc := defScope s__law_rounds) (own := [("_law_k", 2)]) (by decide +kernel)) (fun _ _ _ _ _ => (sgo_name 2 (by decide) sc__law_rounds.nd)) (fun _ _ _ _ _ => ⟨_, sts_nil⟩) (fun _ _ _ _ _ => ⟨_, (se_lst (sa_cons (se_call o__law_cell (hr.mono (by decide)) pass_blk (sa_cons (se_var 0) (sa_cons (se_var 2) sa_nil))) (sa_cons se_int sa_nil)))⟩))))⟩) (fun _ _ _ _ => Tells.same _))
abbrev s__law_drawn : Stmt := topS 78
abbrev N__law_drawn : List Str := ["_law_cell_here", "_law_k", "_law_more"]
theorem sc__law_drawn : FnScope ["_law_cell_here", "_law_k", "_law_more"] ["_law_cell_here", "_law_k"] (defScope s__law_drawn) := ⟨rfl, rfl, rfl, by decide +kernel, rfl, by decide +kernel, by decide +kernel⟩
theorem ok__law_drawn (Γ : Gs K mg C)  {f : Addr} {fd : FuncData} (D : Def K mg "_law_drawn" s__law_drawn ["_law_cell_here", "_law_k"] f fd) : Ok P w K mg base T C "_law_drawn" ["_law_cell_here", "_law_k"] 2 M__law_drawn 1 := by
  exact ok_of D (fun_ok (m := m__law_drawn) D.F sc__law_drawn rfl (fun cdv A outer s H E hr => ⟨_, (sss_cons (ss_set 2 sc__law_drawn.nd (se_bin op_modN os_mod (se_bin op_addA os_add (se_bin op_mulA os_mul (se_var 0) se_int) (se_bin op_mulA os_mul (se_bin op_addA os_add (se_var 1) se_int) se_int)) se_int)) (sss_cons (ss_set 2 sc__law_drawn.nd (se_bin op_modN os_mod (se_bin op_mulA os_mul (se_var 2) (se_var 2)) se_int)) (sss_cons (ss_set 2 sc__law_drawn.nd (se_bin op_mulA os_mul (se_bin op_mulA os_mul (se_bin op_addA os_add (se_bin op_modN os_mod (se_var 2) se_int) se_int) (se_bin op_addA os_add (se_bin op_fdivA os_fdiv (se_var 2) se_int) se_int)) (se_var 2))) (sss_one (ss_ret (se_bin op_modN os_mod (se_var 2) se_int))))))⟩) (fun _ _ _ _ => Tells.same _))
abbrev s__law_roll : Stmt := topS 79
abbrev N__law_roll : List Str := ["_law_dice", "_law_many", "_law_told"]
theorem sc__law_roll : FnScope ["_law_dice", "_law_many", "_law_told"] ["_law_dice", "_law_many"] (defScope s__law_roll) := ⟨rfl, rfl, rfl, by decide +kernel, rfl, by decide +kernel, by decide +kernel⟩
theorem ok__law_roll (Γ : Gs K mg C) (o__law_drawn : Ok P w K mg base T C "_law_drawn" ["_law_cell_here", "_law_k"] 2 M__law_drawn 1) {f : Addr} {fd : FuncData} (D : Def K mg "_law_roll" s__law_roll ["_law_dice", "_law_many"] f fd) : Ok P w K mg base T C "_law_roll" ["_law_dice", "_law_many"] 2 M__law_roll 2 := by
  exact ok_of D (fun_ok (m := m__law_roll) D.F sc__law_roll rfl (fun cdv A outer s H E hr => ⟨_, (sss_cons (ss_if (st_cmp op_ge os_cmp (se_ix (se_var 0) se_int) (se_bin op_pow os_pow se_int se_int) (nomark _)) (sss_cons (ss_set 2 sc__law_roll.nd (se_bin op_modN os_mod (se_ix (se_var 0) se_int) (se_var 1))) (sss_cons (ss_asg (se_bin op_fdivA os_fdiv (se_ix (se_var 0) se_int) (se_var 1)) (sg_sub (se_var 0) se_int set_list ss_setL)) (sss_one (ss_ret (se_var 2))))) sss_nil) (sss_cons (ss_asg (se_bin op_addA os_add (se_ix (se_var 0) se_int) se_int) (sg_sub (se_var 0) se_int set_list ss_setL)) (sss_one (ss_ret (se_bin op_modN os_mod (se_bin op_fdivA os_fdiv (se_call o__law_drawn (hr.mono (by decide)) pass_def (sa_cons (se_ix (se_var 0) se_int) (sa_cons (se_ix (se_var 0) se_int) sa_nil))) se_int) (se_var 1))))))⟩) (fun _ _ _ _ => Tells.same _))
abbrev s_is_integer : Stmt := topS 11
abbrev N_is_integer : List Str := ["value"]
theorem sc_is_integer : FnScope ["value"] ["value"] (defScope s_is_integer) := ⟨rfl, rfl, rfl, by decide +kernel, rfl, by decide +kernel, by decide +kernel⟩
theorem ok_is_integer (Γ : Gs K mg C)  {f : Addr} {fd : FuncData} (D : Def K mg "is_integer" s_is_integer ["value"] f fd) : Ok P w K mg base T C "is_integer" ["value"] 1 M_is_integer 1 := by
  exact ok_of D (fun_ok (m := m_is_integer) D.F sc_is_integer rfl (fun cdv A outer s H E hr => ⟨_, (sss_one (ss_ret (se_and (se_callB call_isi cs_isi rfl Γ.b_isinstance (by decide +kernel) (sa_cons (se_var 0) (sa_cons (se_bty (n := "int") Γ.b_int) sa_nil))) (se_one (se_not (se_callB call_isi cs_isi rfl Γ.b_isinstance (by decide +kernel) (sa_cons (se_var 0) (sa_cons (se_bty (n := "bool") Γ.b_bool) sa_nil))))))))⟩) (fun _ _ _ _ => Tells.same _))
abbrev s_is_fraction : Stmt := topS 12
abbrev N_is_fraction : List Str := ["value", "largest", "top", "bottom"]
theorem sc_is_fraction : FnScope ["value", "largest", "top", "bottom"] ["value", "largest"] (defScope s_is_fraction) := ⟨rfl, rfl, rfl, by decide +kernel, rfl, by decide +kernel, by decide +kernel⟩
theorem ok_is_fraction (Γ : Gs K mg C) (o_is_integer : Ok P w K mg base T C "is_integer" ["value"] 1 M_is_integer 1) {f : Addr} {fd : FuncData} (D : Def K mg "is_fraction" s_is_fraction ["value", "largest"] f fd) : Ok P w K mg base T C "is_fraction" ["value", "largest"] 2 M_is_fraction 2 := by
  exact ok_of D (fun_ok (m := m_is_fraction) D.F sc_is_fraction rfl (fun cdv A outer s H E hr => ⟨_, (sss_cons (ss_if (SW.pt (sw_or (st_not (st_truth (se_callB call_isi cs_isi rfl Γ.b_isinstance (by decide +kernel) (sa_cons (se_var 0) (sa_cons (se_bty (n := "tuple") Γ.b_tuple) sa_nil))))) (sw_or1 (st_cmp (op_neA hr.units) os_ne (se_callB call_len cs_len rfl Γ.b_len (by decide +kernel) (sa_cons (se_var 0) sa_nil)) se_int (nomark _))))) (sss_one (ss_ret se_bl)) sss_nil) (sss_cons (ss_asg (se_var 0) (sg_tup rfl (sgs_cons (sg_name 2 sc_is_fraction.nd) (sgs_cons (sg_name 3 sc_is_fraction.nd) sgs_nil)))) (sss_cons (ss_if (SW.pt (sw_or (st_not (st_truth (se_call o_is_integer (hr.mono (by decide)) pass_def (sa_cons (se_var 2) sa_nil)))) (sw_or1 (st_not (st_truth (se_call o_is_integer (hr.mono (by decide)) pass_def (sa_cons (se_var 3) sa_nil))))))) (sss_one (ss_ret se_bl)) sss_nil) (sss_cons (ss_if (SW.pt (sw_or (st_cmp op_gt os_cmp (se_callB call_abs cs_abs rfl Γ.b_abs (by decide +kernel) (sa_cons (se_var 2) sa_nil)) (se_var 1) (nomark _)) (sw_or1 (st_not (st_chain op_le os_cmp op_le os_cmp se_int (se_var 3) (se_var 1)))))) (sss_one (ss_ret se_bl)) sss_nil) (sss_one (ss_ret (se_cmp (op_eqA hr.units) os_eq (se_callM cr_gcd cs_int2 rfl Γ.m_gcd (sa_cons (se_var 2) (sa_cons (se_var 3) sa_nil))) se_int (nomark _))))))))⟩) (fun _ _ _ _ => Tells.same _))
abbrev s_is_tie : Stmt := topS 24
abbrev N_is_tie : List Str := ["value"]
theorem sc_is_tie : FnScope ["value"] ["value"] (defScope s_is_tie) := ⟨rfl, rfl, rfl, by decide +kernel, rfl, by decide +kernel, by decide +kernel⟩
theorem ok_is_tie (Γ : Gs K mg C)  {f : Addr} {fd : FuncData} (D : Def K mg "is_tie" s_is_tie ["value"] f fd) : Ok P w K mg base T C "is_tie" ["value"] 1 M_is_tie 1 := by
  obtain ⟨a_TIES, h_TIES, _⟩ := id Γ.c_TIES
  exact ok_of D (fun_ok (m := m_is_tie) D.F sc_is_tie rfl (fun cdv A outer s H E hr => ⟨_, (sss_one (ss_ret (se_and (se_callB call_isi cs_isi rfl Γ.b_isinstance (by decide +kernel) (sa_cons (se_var 0) (sa_cons (se_bty (n := "str") Γ.b_str) sa_nil))) (se_one (se_cmp op_in_seq os_mem (se_var 0) (se_gtup Γ.c_TIES h_TIES) (by rfl))))))⟩) (fun _ _ _ _ => Tells.same _))
abbrev s_is_amount_of : Stmt := topS 25
abbrev N_is_amount_of : List Str := ["name", "amount"]
theorem sc_is_amount_of : FnScope ["name", "amount"] ["name", "amount"] (defScope s_is_amount_of) := ⟨rfl, rfl, rfl, by decide +kernel, rfl, by decide +kernel, by decide +kernel⟩
theorem ok_is_amount_of (Γ : Gs K mg C)  {f : Addr} {fd : FuncData} (D : Def K mg "is_amount_of" s_is_amount_of ["name", "amount"] f fd) : Ok P w K mg base T C "is_amount_of" ["name", "amount"] 2 M_is_amount_of 1 := by
  obtain ⟨a_BY_MULTIPLES, h_BY_MULTIPLES, _⟩ := id Γ.c_BY_MULTIPLES
  exact ok_of D (fun_ok (m := m_is_amount_of) D.F sc_is_amount_of rfl (fun cdv A outer s H E hr => ⟨_, (sss_cons (ss_if (st_cmp op_in_seq os_mem (se_var 0) (se_gtup Γ.c_BY_MULTIPLES h_BY_MULTIPLES) (by rfl)) (sss_one (ss_ret (se_cmp op_gt os_cmp (se_ix (se_var 1) se_int) se_int (nomark _)))) sss_nil) (sss_cons (ss_if (st_cmp (op_eqA hr.units) os_eq (se_var 0) se_str (nomark _)) (sss_one (ss_ret (se_cmp (op_neA hr.units) os_ne (se_ix (se_var 1) se_int) se_int (nomark _)))) sss_nil) (sss_one (ss_ret (se_cmp (op_eqA hr.units) os_eq (se_var 0) se_str (nomark _))))))⟩) (fun _ _ _ _ => Tells.same _))
abbrev s_is_step : Stmt := topS 23
abbrev N_is_step : List Str := ["value", "name", "amount"]
theorem sc_is_step : FnScope ["value", "name", "amount"] ["value"] (defScope s_is_step) := ⟨rfl, rfl, rfl, by decide +kernel, rfl, by decide +kernel, by decide +kernel⟩
theorem ok_is_step (Γ : Gs K mg C) (o_is_fraction : Ok P w K mg base T C "is_fraction" ["value", "largest"] 2 M_is_fraction 2) (o_is_tie : Ok P w K mg base T C "is_tie" ["value"] 1 M_is_tie 1) (o_is_amount_of : Ok P w K mg base T C "is_amount_of" ["name", "amount"] 2 M_is_amount_of 1) {f : Addr} {fd : FuncData} (D : Def K mg "is_step" s_is_step ["value"] f fd) : Ok P w K mg base T C "is_step" ["value"] 1 M_is_step 3 := by
  exact ok_of D (fun_ok (m := m_is_step) D.F sc_is_step rfl (fun cdv A outer s H E hr => ⟨_, (sss_cons (ss_if (SW.pt (sw_or (st_not (st_truth (se_callB call_isi cs_isi rfl Γ.b_isinstance (by decide +kernel) (sa_cons (se_var 0) (sa_cons (se_bty (n := "tuple") Γ.b_tuple) sa_nil))))) (sw_or1 (st_cmp op_lt os_cmp (se_callB call_len cs_len rfl Γ.b_len (by decide +kernel) (sa_cons (se_var 0) sa_nil)) se_int (nomark _))))) (sss_one (ss_ret se_bl)) sss_nil) (sss_cons (ss_set 1 sc_is_step.nd (se_ix (se_var 0) se_int)) (sss_cons (ss_set 2 sc_is_step.nd (se_ix (se_var 0) se_int)) (sss_cons (ss_if (SW.pt (sw_or (st_not (st_truth (se_callB call_isi cs_isi rfl Γ.b_isinstance (by decide +kernel) (sa_cons (se_var 1) (sa_cons (se_bty (n := "str") Γ.b_str) sa_nil))))) (sw_or1 (st_not (st_truth (se_call o_is_fraction (hr.mono (by decide)) pass_def (sa_cons (se_var 2) (sa_cons (se_gint Γ.c_LARGEST_IN_STEP) sa_nil)))))))) (sss_one (ss_ret se_bl)) sss_nil) (sss_cons (ss_if (st_cmp (op_eqA hr.units) os_eq (se_var 1) se_str (nomark _)) (sss_one (ss_ret (se_and (se_cmp (op_eqA hr.units) os_eq (se_callB call_len cs_len rfl Γ.b_len (by decide +kernel) (sa_cons (se_var 0) sa_nil)) se_int (nomark _)) (se_and (se_call o_is_tie (hr.mono (by decide)) pass_def (sa_cons (se_ix (se_var 0) se_int) sa_nil)) (se_one (se_cmp op_gt os_cmp (se_ix (se_var 2) se_int) se_int (nomark _))))))) sss_nil) (sss_one (ss_ret (se_and (se_cmp (op_eqA hr.units) os_eq (se_callB call_len cs_len rfl Γ.b_len (by decide +kernel) (sa_cons (se_var 0) sa_nil)) se_int (nomark _)) (se_one (se_call o_is_amount_of (hr.mono (by decide)) pass_def (sa_cons (se_var 1) (sa_cons (se_var 2) sa_nil))))))))))))⟩) (fun _ _ _ _ => Tells.same _))
abbrev s_is_chain : Stmt := topS 33
abbrev N_is_chain : List Str := ["value", "step"]
theorem sc_is_chain : FnScope ["value", "step"] ["value"] (defScope s_is_chain) := ⟨rfl, rfl, rfl, by decide +kernel, rfl, by decide +kernel, by decide +kernel⟩
theorem ok_is_chain (Γ : Gs K mg C) (o_is_step : Ok P w K mg base T C "is_step" ["value"] 1 M_is_step 3) {f : Addr} {fd : FuncData} (D : Def K mg "is_chain" s_is_chain ["value"] f fd) : Ok P w K mg base T C "is_chain" ["value"] 1 M_is_chain 4 := by
  exact ok_of D (fun_ok (m := m_is_chain) D.F sc_is_chain rfl (fun cdv A outer s H E hr => ⟨_, (sss_cons (ss_if (SW.pt (sw_or (st_not (st_truth (se_callB call_isi cs_isi rfl Γ.b_isinstance (by decide +kernel) (sa_cons (se_var 0) (sa_cons (se_bty (n := "tuple") Γ.b_tuple) sa_nil))))) (sw_or1 (st_cmp op_gt os_cmp (se_callB call_len cs_len rfl Γ.b_len (by decide +kernel) (sa_cons (se_var 0) sa_nil)) (se_gint Γ.c_MOST_STEPS) (nomark _))))) (sss_one (ss_ret se_bl)) sss_nil) (sss_one (ss_ret (se_callB (cr_all rfl) cs_bls rfl Γ.b_all (by decide +kernel) (sa_cons (se_lc (own := [("step", 1)]) rfl sc_is_chain.nd (si_seq (se_var 0)) (blkOk_by (N := N_is_chain) (sc := defScope s_is_chain) (own := [("step", 1)]) (by decide +kernel)) (fun _ _ _ _ _ => (sgo_name 1 (by decide) sc_is_chain.nd)) (fun _ _ _ _ _ => ⟨_, sts_nil⟩) (fun _ _ _ _ _ => ⟨_, (se_call o_is_step (hr.mono (by decide)) pass_blk (sa_cons (se_var 1) sa_nil))⟩)) sa_nil)))))⟩) (fun _ _ _ _ => Tells.same _))
abbrev s_check_chain : Stmt := topS 34
abbrev N_check_chain : List Str := ["chain"]
theorem sc_check_chain : FnScope ["chain"] ["chain"] (defScope s_check_chain) := ⟨rfl, rfl, rfl, by decide +kernel, rfl, by decide +kernel, by decide +kernel⟩
theorem ok_check_chain (Γ : Gs K mg C) (o_is_chain : Ok P w K mg base T C "is_chain" ["value"] 1 M_is_chain 4) {f : Addr} {fd : FuncData} (D : Def K mg "check_chain" s_check_chain ["chain"] f fd) : Ok P w K mg base T C "check_chain" ["chain"] 1 M_check_chain 5 := by
  exact ok_of D (fun_ok (m := m_check_chain) D.F sc_check_chain rfl (fun cdv A outer s H E hr => ⟨_, (sss_one (ss_if (st_not (st_truth (se_call o_is_chain (hr.mono (by decide)) pass_def (sa_cons (se_var 0) sa_nil)))) (sss_one (ss_raiseX (n := 0) Γ.e_InvalidChain rfl (L2N.takes_of rfl rfl rfl rfl) (fun _ _ _ _ h => h))) sss_nil))⟩) (fun _ _ _ _ => Tells.same _))
abbrev s_form : Stmt := topS 61
abbrev N_form : List Str := ["chain"]
theorem sc_form : FnScope ["chain"] ["chain"] (defScope s_form) := ⟨rfl, rfl, rfl, by decide +kernel, rfl, by decide +kernel, by decide +kernel⟩
theorem ok_form (Γ : Gs K mg C) (o_check_chain : Ok P w K mg base T C "check_chain" ["chain"] 1 P_check_chain 5) {f : Addr} {fd : FuncData} (D : Def K mg "form" s_form ["chain"] f fd) : Ok P w K mg base T C "form" ["chain"] 1 M_form 6 := by
  exact ok_of D (fun_ok (m := m_form) D.F sc_form rfl (fun cdv A outer s H E hr => ⟨_, (sss_cons (ss_expr (se_call o_check_chain (hr.mono (by decide)) pass_def (sa_cons (se_var 0) sa_nil))) (sss_one ss_never))⟩) (fun _ _ _ _ => Tells.same _))
abbrev s_check_number : Stmt := topS 35
abbrev N_check_number : List Str := ["number"]
theorem sc_check_number : FnScope ["number"] ["number"] (defScope s_check_number) := ⟨rfl, rfl, rfl, by decide +kernel, rfl, by decide +kernel, by decide +kernel⟩
theorem ok_check_number (Γ : Gs K mg C) (o_is_fraction : Ok P w K mg base T C "is_fraction" ["value", "largest"] 2 M_is_fraction 2) {f : Addr} {fd : FuncData} (D : Def K mg "check_number" s_check_number ["number"] f fd) : Ok P w K mg base T C "check_number" ["number"] 1 M_check_number 3 := by
  exact ok_of D (fun_ok (m := m_check_number) D.F sc_check_number rfl (fun cdv A outer s H E hr => ⟨_, (sss_one (ss_if (st_not (st_truth (se_call o_is_fraction (hr.mono (by decide)) pass_def (sa_cons (se_var 0) (sa_cons (se_gint Γ.c_LARGEST_IN_NUMBER) sa_nil))))) (sss_one (ss_raiseX (n := 1) Γ.e_InvalidNumber rfl (L2N.takes_of rfl rfl rfl rfl) (fun _ _ _ _ h => h))) sss_nil))⟩) (fun _ _ _ _ => Tells.same _))
abbrev s_value : Stmt := topS 36
abbrev N_value : List Str := ["chain", "number", "result", "step"]
theorem sc_value : FnScope ["chain", "number", "result", "step"] ["chain", "number"] (defScope s_value) := ⟨rfl, rfl, rfl, by decide +kernel, rfl, by decide +kernel, by decide +kernel⟩
theorem ok_value (Γ : Gs K mg C) (o_check_chain : Ok P w K mg base T C "check_chain" ["chain"] 1 P_check_chain 5) (o_check_number : Ok P w K mg base T C "check_number" ["number"] 1 M_check_number 3) {f : Addr} {fd : FuncData} (D : Def K mg "value" s_value ["chain", "number"] f fd) : Ok P w K mg base T C "value" ["chain", "number"] 2 M_value 6 := by
  exact ok_of D (fun_ok (m := m_value) D.F sc_value rfl (fun cdv A outer s H E hr => ⟨_, (sss_cons (ss_expr (se_call o_check_chain (hr.mono (by decide)) pass_def (sa_cons (se_var 0) sa_nil))) (sss_cons (ss_expr (se_call o_check_number (hr.mono (by decide)) pass_def (sa_cons (se_var 1) sa_nil))) (sss_cons ss_never (sss_cons ss_never (sss_one ss_never)))))⟩) (fun _ _ _ _ => Tells.same _))
abbrev s_left_out : Stmt := topS 68
abbrev N_left_out : List Str := ["chain", "at"]
theorem sc_left_out : FnScope ["chain", "at"] ["chain", "at"] (defScope s_left_out) := ⟨rfl, rfl, rfl, by decide +kernel, rfl, by decide +kernel, by decide +kernel⟩
theorem ok_left_out (Γ : Gs K mg C) (o_check_chain : Ok P w K mg base T C "check_chain" ["chain"] 1 P_check_chain 5) (o_is_integer : Ok P w K mg base T C "is_integer" ["value"] 1 M_is_integer 1) {f : Addr} {fd : FuncData} (D : Def K mg "left_out" s_left_out ["chain", "at"] f fd) : Ok P w K mg base T C "left_out" ["chain", "at"] 2 M_left_out 6 := by
  exact ok_of D (fun_ok (m := m_left_out) D.F sc_left_out rfl (fun cdv A outer s H E hr => ⟨_, (sss_cons (ss_expr (se_call o_check_chain (hr.mono (by decide)) pass_def (sa_cons (se_var 0) sa_nil))) (sss_cons (ss_if (SW.pt (sw_or (st_not (st_truth (se_call o_is_integer (hr.mono (by decide)) pass_def (sa_cons (se_var 1) sa_nil)))) (sw_or1 (st_not (st_chain op_le os_cmp op_lt os_cmp se_int (se_var 1) (se_callB call_len cs_len rfl Γ.b_len (by decide +kernel) (sa_cons (se_var 0) sa_nil))))))) (sss_one (ss_raiseX (n := 2) Γ.e_InvalidStep rfl (L2N.takes_of rfl rfl rfl rfl) (fun _ _ _ _ h => h))) sss_nil) (sss_one ss_never)))⟩) (fun _ _ _ _ => Tells.same _))
abbrev s_told_integer : Stmt := topS 75
abbrev N_told_integer : List Str := ["word", "integers", "n"]
theorem sc_told_integer : FnScope ["word", "integers", "n"] ["word"] (defScope s_told_integer) := ⟨rfl, rfl, rfl, by decide +kernel, rfl, by decide +kernel, by decide +kernel⟩
theorem ok_told_integer (Γ : Gs K mg C)  {f : Addr} {fd : FuncData} (D : Def K mg "told_integer" s_told_integer ["word"] f fd) : Ok P w K mg base T C "told_integer" ["word"] 1 M_told_integer 1 := by
  exact ok_of D (fun_ok (m := m_told_integer) D.F sc_told_integer rfl (fun cdv A outer s H E hr => ⟨_, (sss_cons (ss_setDc 1 (own := [("n", 2)]) rfl sc_told_integer.nd (si_rng2 rfl Γ.b_range (sa_cons (se_un un_neg us_neg (se_gint Γ.c_LARGEST_IN_STEP)) (sa_cons (se_bin op_addA os_add (se_gint Γ.c_LARGEST_IN_STEP) se_int) sa_nil))) (blkOk_by (N := N_told_integer) (sc := defScope s_told_integer) (own := [("n", 2)]) (by decide +kernel)) (fun _ _ _ _ _ => sgo_name 2 (by decide) sc_told_integer.nd) (fun _ _ _ _ _ => ⟨_, sts_nil⟩) (fun _ _ _ _ _ => ⟨_, (se_callTy call_str_int cs_str rfl Γ.b_str (by decide +kernel) (sa_cons (se_var 2) sa_nil))⟩) (fun _ _ _ _ _ => ⟨_, (se_var 2)⟩)) (sss_one (ss_ret (se_get1 hr.units (se_var 1) (se_var 0) ⟨rfl, rfl, rfl, rfl⟩))))⟩) (fun _ _ _ _ => Tells.same _))
abbrev s_told_fraction : Stmt := topS 74
abbrev N_told_fraction : List Str := ["word", "top", "slash", "bottom"]
theorem sc_told_fraction : FnScope ["word", "top", "slash", "bottom"] ["word"] (defScope s_told_fraction) := ⟨rfl, rfl, rfl, by decide +kernel, rfl, by decide +kernel, by decide +kernel⟩
theorem ok_told_fraction (Γ : Gs K mg C) (o_told_integer : Ok P w K mg base T C "told_integer" ["word"] 1 M_told_integer 1) {f : Addr} {fd : FuncData} (D : Def K mg "told_fraction" s_told_fraction ["word"] f fd) : Ok P w K mg base T C "told_fraction" ["word"] 1 M_told_fraction 2 := by
  exact ok_of D (fun_ok (m := m_told_fraction) D.F sc_told_fraction rfl (fun cdv A outer s H E hr => ⟨_, (sss_cons (ss_asg (se_meth PySem.F.plainAttrs_str PySem.F.slot_str_partition PySem.F.type_str_partition mt_partition ms_part (se_var 0) (sa_cons se_str sa_nil)) (sg_tup rfl (sgs_cons (sg_name 1 sc_told_fraction.nd) (sgs_cons (sg_name 2 sc_told_fraction.nd) (sgs_cons (sg_name 3 sc_told_fraction.nd) sgs_nil))))) (sss_cons (ss_if (st_cmp (op_eqA hr.units) os_eq (se_var 2) se_str (nomark _)) (sss_one (ss_ret (se_tup (sa_cons (se_call o_told_integer (hr.mono (by decide)) pass_def (sa_cons (se_var 1) sa_nil)) (sa_cons se_int sa_nil))))) sss_nil) (sss_cons (ss_if (st_cmp (op_eqA hr.units) os_eq (se_var 3) se_str (nomark _)) (sss_one (ss_ret se_non)) sss_nil) (sss_one (ss_ret (se_tup (sa_cons (se_call o_told_integer (hr.mono (by decide)) pass_def (sa_cons (se_var 1) sa_nil)) (sa_cons (se_call o_told_integer (hr.mono (by decide)) pass_def (sa_cons (se_var 3) sa_nil)) sa_nil))))))))⟩) (fun _ _ _ _ => Tells.same _))
abbrev s_told_step : Stmt := topS 73
abbrev N_told_step : List Str := ["part", "words"]
theorem sc_told_step : FnScope ["part", "words"] ["part"] (defScope s_told_step) := ⟨rfl, rfl, rfl, by decide +kernel, rfl, by decide +kernel, by decide +kernel⟩
theorem ok_told_step (Γ : Gs K mg C) (o_told_fraction : Ok P w K mg base T C "told_fraction" ["word"] 1 M_told_fraction 2) {f : Addr} {fd : FuncData} (D : Def K mg "told_step" s_told_step ["part"] f fd) : Ok P w K mg base T C "told_step" ["part"] 1 M_told_step 3 := by
  exact ok_of D (fun_ok (m := m_told_step) D.F sc_told_step rfl (fun cdv A outer s H E hr => ⟨_, (sss_cons (ss_set 1 sc_told_step.nd (se_meth PySem.F.plainAttrs_str PySem.F.slot_str_split PySem.F.type_str_split mt_split ms_split (se_var 0) (sa_cons se_str sa_nil))) (sss_cons (ss_if (st_cmp op_lt os_cmp (se_callB call_len cs_len rfl Γ.b_len (by decide +kernel) (sa_cons (se_var 1) sa_nil)) se_int (nomark _)) (sss_one (ss_ret se_non)) sss_nil) (sss_one (ss_ret (se_bin op_addA os_add (se_tup (sa_cons (se_ix (se_var 1) se_int) (sa_cons (se_call o_told_fraction (hr.mono (by decide)) pass_def (sa_cons (se_ix (se_var 1) se_int) sa_nil)) sa_nil))) (se_callTy call_tuple_of cs_tuple rfl Γ.b_tuple (by decide +kernel) (sa_cons (se_slice (se_var 1) (so_some se_int) so_none) sa_nil)))))))⟩) (fun _ _ _ _ => Tells.same _))
abbrev s_parse_chain : Stmt := topS 72
abbrev N_parse_chain : List Str := ["text", "parts", "chain", "part"]
theorem sc_parse_chain : FnScope ["text", "parts", "chain", "part"] ["text"] (defScope s_parse_chain) := ⟨rfl, rfl, rfl, by decide +kernel, rfl, by decide +kernel, by decide +kernel⟩
theorem ok_parse_chain (Γ : Gs K mg C) (o_told_step : Ok P w K mg base T C "told_step" ["part"] 1 M_told_step 3) (o_is_chain : Ok P w K mg base T C "is_chain" ["value"] 1 M_is_chain 4) {f : Addr} {fd : FuncData} (D : Def K mg "parse_chain" s_parse_chain ["text"] f fd) : Ok P w K mg base T C "parse_chain" ["text"] 1 M_parse_chain 5 := by
  exact ok_of D (fun_ok (m := m_parse_chain) D.F sc_parse_chain rfl (fun cdv A outer s H E hr => ⟨_, (sss_cons (ss_if (st_not (st_truth (se_callB call_isi cs_isi rfl Γ.b_isinstance (by decide +kernel) (sa_cons (se_var 0) (sa_cons (se_bty (n := "str") Γ.b_str) sa_nil))))) (sss_one (ss_raiseX (n := 3) Γ.e_InvalidText rfl (L2N.takes_of rfl rfl rfl rfl) (fun _ _ _ _ h => h))) sss_nil) (sss_cons (ss_if (st_cmp (op_eqA hr.units) os_eq (se_var 0) se_str (nomark _)) (sss_one (ss_ret (se_tup sa_nil))) sss_nil) (sss_cons (ss_set 1 sc_parse_chain.nd (se_meth PySem.F.plainAttrs_str PySem.F.slot_str_split PySem.F.type_str_split mt_split ms_split (se_var 0) (sa_cons se_str sa_nil))) (sss_cons (ss_if (st_cmp op_gt os_cmp (se_callB call_len cs_len rfl Γ.b_len (by decide +kernel) (sa_cons (se_var 1) sa_nil)) (se_gint Γ.c_MOST_STEPS) (nomark _)) (sss_one (ss_raiseX (n := 3) Γ.e_InvalidText rfl (L2N.takes_of rfl rfl rfl rfl) (fun _ _ _ _ h => h))) sss_nil) (sss_cons (ss_set 2 sc_parse_chain.nd (se_callTy call_tuple_of cs_tuple rfl Γ.b_tuple (by decide +kernel) (sa_cons (se_lc (own := [("part", 3)]) rfl sc_parse_chain.nd (si_seq (se_var 1)) (blkOk_by (N := N_parse_chain) (sc := defScope s_parse_chain) (own := [("part", 3)]) (by decide +kernel)) (fun _ _ _ _ _ => (sgo_name 3 (by decide) sc_parse_chain.nd)) (fun _ _ _ _ _ => ⟨_, sts_nil⟩) (fun _ _ _ _ _ => ⟨_, (se_call o_told_step (hr.mono (by decide)) pass_blk (sa_cons (se_var 3) sa_nil))⟩)) sa_nil))) (sss_cons (ss_if (st_not (st_truth (se_call o_is_chain (hr.mono (by decide)) pass_def (sa_cons (se_var 2) sa_nil)))) (sss_one (ss_raiseX (n := 3) Γ.e_InvalidText rfl (L2N.takes_of rfl rfl rfl rfl) (fun _ _ _ _ h => h))) sss_nil) (sss_one (ss_ret (se_var 2)))))))))⟩) (fun _ _ _ _ => Tells.same _))
abbrev s_joined : Stmt := topS 67
abbrev N_joined : List Str := ["chain", "other"]
theorem sc_joined : FnScope ["chain", "other"] ["chain", "other"] (defScope s_joined) := ⟨rfl, rfl, rfl, by decide +kernel, rfl, by decide +kernel, by decide +kernel⟩
theorem ok_joined (Γ : Gs K mg C) (o_check_chain : Ok P w K mg base T C "check_chain" ["chain"] 1 P_check_chain 5) {f : Addr} {fd : FuncData} (D : Def K mg "joined" s_joined ["chain", "other"] f fd) : Ok P w K mg base T C "joined" ["chain", "other"] 2 M_joined 6 := by
  exact ok_of D (fun_ok (m := m_joined) D.F sc_joined rfl (fun cdv A outer s H E hr => ⟨_, (sss_cons (ss_expr (se_call o_check_chain (hr.mono (by decide)) pass_def (sa_cons (se_var 0) sa_nil))) (sss_cons (ss_expr (se_call o_check_chain (hr.mono (by decide)) pass_def (sa_cons (se_var 1) sa_nil))) (sss_cons (ss_if (st_cmp op_gt os_cmp (se_bin op_addA os_add (se_callB call_len cs_len rfl Γ.b_len (by decide +kernel) (sa_cons (se_var 0) sa_nil)) (se_callB call_len cs_len rfl Γ.b_len (by decide +kernel) (sa_cons (se_var 1) sa_nil))) (se_gint Γ.c_MOST_STEPS) (nomark _)) (sss_one (ss_raiseX (n := 4) Γ.e_TooMany rfl (L2N.takes_of rfl rfl rfl rfl) (fun _ _ _ _ h => h))) sss_nil) (sss_one (ss_ret (se_bin op_addA os_add (se_var 0) (se_var 1)))))))⟩) (fun _ _ _ _ => Tells.same _))
abbrev s_Desk_redo : Stmt := inClass (topS 70) 4
abbrev N_Desk_redo : List Str := ["self", "becomes_another"]
theorem sc_Desk_redo : FnScope ["self", "becomes_another"] ["self"] (defScope s_Desk_redo) := ⟨rfl, rfl, rfl, by decide +kernel, rfl, by decide +kernel, by decide +kernel⟩
theorem ok_Desk_redo (Γ : Gs K mg C) (Δ : Dk K mg C0)  {f : Addr} {fd : FuncData} (D : DefM K C0 "redo" "Desk.redo" s_Desk_redo ["self"] f fd) : OkM P w K mg base T C C0 "redo" ["self"] 1 (M_Desk_redo C0) 1 := by
  exact okM_of D (fun_ok (m := (m_Desk_redo C0)) D.F sc_Desk_redo rfl (fun cdv A outer s H E hr => ⟨_, (sss_cons (ss_if (st_not (st_truth (se_fld Δ.own.cl Δ.na__undone (se_var 0)))) (sss_one (ss_raiseX (n := 5) Γ.e_NothingToUndo rfl (L2N.takes_of rfl rfl rfl rfl) (fun _ _ _ _ h => h))) sss_nil) (sss_cons ss_never (sss_cons ss_never (sss_cons ss_never (sss_one ss_never)))))⟩) (fun _ _ _ _ => Tells.same _))
abbrev s_Desk___init__ : Stmt := inClass (topS 70) 0
abbrev N_Desk___init__ : List Str := ["self", "chain"]
theorem sc_Desk___init__ : FnScope ["self", "chain"] ["self", "chain"] (defScope s_Desk___init__) := ⟨rfl, rfl, rfl, by decide +kernel, rfl, by decide +kernel, by decide +kernel⟩
theorem ok_Desk___init__ (Γ : Gs K mg C) (Δ : Dk K mg C0) (o_check_chain : Ok P w K mg base T C "check_chain" ["chain"] 1 P_check_chain 5) {f : Addr} {fd : FuncData} (D : DefM K C0 "__init__" "Desk.__init__" s_Desk___init__ ["self", "chain"] f fd) : OkI P w K mg base T C C0 ["self", "chain"] 2 (M_Desk___init__ C0) 6 := by
  exact okI_of D Δ.mi Δ.kc (fun_ok (m := (m_Desk___init__ C0)) D.F sc_Desk___init__ rfl (fun cdv A outer s H E hr => ⟨_, (sss_cons (ss_expr (se_call o_check_chain (hr.mono (by decide)) pass_def (sa_cons (se_var 1) sa_nil))) (sss_cons (ss_fld Δ.own.cl Δ.na__now (se_var 0) (se_var 1)) (sss_cons (ss_fld Δ.own.cl Δ.na__earlier (se_var 0) (se_lst sa_nil)) (sss_one (ss_fld Δ.own.cl Δ.na__undone (se_var 0) (se_lst sa_nil))))))⟩) (fun _ _ _ _ => Tells.same _))
abbrev s__law_alone : Stmt := topS 82
abbrev N__law_alone : List Str := ["_law_e", "_law_own", "_law_some", "_law_at"]
theorem sc__law_alone : FnScope ["_law_e", "_law_own", "_law_some", "_law_at"] ["_law_e", "_law_own"] (defScope s__law_alone) := ⟨rfl, rfl, rfl, by decide +kernel, rfl, by decide +kernel, by decide +kernel⟩
theorem ok__law_alone (Γ : Gs K mg C) (KE : ∀ n < 6, ExcC K (C n))  {f : Addr} {fd : FuncData} (D : Def K mg "_law_alone" s__law_alone ["_law_e", "_law_own"] f fd) : Ok P w K mg base T C "_law_alone" ["_law_e", "_law_own"] 2 (M__law_alone K C) 1 := by
  exact ok_of D (fun_ok (m := (m__law_alone K C)) D.F sc__law_alone rfl (fun cdv A outer s H E hr => ⟨_, (sss_cons (ss_set 2 sc__law_alone.nd (se_lst (sa_cons (se_callB (call_isX KE) cs_isX rfl Γ.b_isinstance (by decide +kernel) (sa_cons (se_var 0) (sa_cons (se_cls Γ.e_InvalidChain.g) sa_nil))) (sa_cons (se_callB (call_isX KE) cs_isX rfl Γ.b_isinstance (by decide +kernel) (sa_cons (se_var 0) (sa_cons (se_cls Γ.e_InvalidNumber.g) sa_nil))) (sa_cons (se_callB (call_isX KE) cs_isX rfl Γ.b_isinstance (by decide +kernel) (sa_cons (se_var 0) (sa_cons (se_cls Γ.e_InvalidStep.g) sa_nil))) sa_nil))))) (sss_cons (ss_set 2 sc__law_alone.nd (se_bin op_addA os_add (se_var 2) (se_lst (sa_cons (se_callB (call_isX KE) cs_isX rfl Γ.b_isinstance (by decide +kernel) (sa_cons (se_var 0) (sa_cons (se_cls Γ.e_InvalidText.g) sa_nil))) (sa_cons (se_callB (call_isX KE) cs_isX rfl Γ.b_isinstance (by decide +kernel) (sa_cons (se_var 0) (sa_cons (se_cls Γ.e_TooMany.g) sa_nil))) (sa_cons (se_callB (call_isX KE) cs_isX rfl Γ.b_isinstance (by decide +kernel) (sa_cons (se_var 0) (sa_cons (se_cls Γ.e_NothingToUndo.g) sa_nil))) sa_nil)))))) (sss_one (ss_ret (se_and (se_callB (call_isX KE) cs_isX rfl Γ.b_isinstance (by decide +kernel) (sa_cons (se_var 0) (sa_cons (se_bty (n := "ValueError") Γ.b_ValueError) sa_nil))) (se_one (se_cmp (op_eqA hr.units) os_eq (se_var 2) (se_lc (own := [("_law_at", 3)]) rfl sc__law_alone.nd (si_rng1 rfl Γ.b_range (sa_cons se_int sa_nil)) (blkOk_by (N := N__law_alone) (sc := defScope s__law_alone) (own := [("_law_at", 3)]) (by decide +kernel)) (fun _ _ _ _ _ => (sgo_name 3 (by decide) sc__law_alone.nd)) (fun _ _ _ _ _ => ⟨_, sts_nil⟩) (fun _ _ _ _ _ => ⟨_, (se_cmp (op_eqA hr.units) os_eq (se_var 3) (se_var 1) (nomark _))⟩)) (nomark _))))))))⟩) (fun _ _ _ _ => Tells.same _))
abbrev s__law_met : Stmt := topS 81
theorem ms_met : MetS s__law_met "_law_deed" "_law_e" "RoundError" := ⟨⟨_, _, _, _, _, _, _, _, _, _, _, rfl⟩, ⟨rfl, rfl, rfl, by decide +kernel, rfl, by decide +kernel, by decide +kernel⟩, Or.inl rfl, Or.inl rfl, rfl, rfl, rfl⟩
abbrev s_law : Stmt := topS 83
abbrev N_law : List Str := ["_law_script", "_law_dice", "_law_made", "_law_great", "_law_four", "_law_at", "_law_e"]
theorem sc_law : FnScope ["_law_script", "_law_dice", "_law_made", "_law_great", "_law_four", "_law_at", "_law_e"] ["_law_script"] (defScope s_law) := ⟨rfl, rfl, rfl, by decide +kernel, rfl, by decide +kernel, by decide +kernel⟩
theorem ok_law {c Pt gT cb : Addr} {fdT : FuncData} (Γ : Gs K mg C) (Δ : Dk K mg C0) (o__law_rounds : Ok P w K mg base (lamT Pt) C "_law_rounds" ["_law_script", "_law_most"] 2 M__law_rounds 2) (o__law_roll : Ok P w K mg base (lamT Pt) C "_law_roll" ["_law_dice", "_law_many"] 2 M__law_roll 2) (o_form : Ok P w K mg base (lamT Pt) C "form" ["chain"] 1 P_form 6) (o_value : Ok P w K mg base (lamT Pt) C "value" ["chain", "number"] 2 P_value 6) (o_left_out : Ok P w K mg base (lamT Pt) C "left_out" ["chain", "at"] 2 P_left_out 6) (o_parse_chain : Ok P w K mg base (lamT Pt) C "parse_chain" ["text"] 1 P_parse_chain 5) (o_joined : Ok P w K mg base (lamT Pt) C "joined" ["chain", "other"] 2 P_joined 6) (o_Desk_redo : OkM P w K mg base (lamT Pt) C C0 "redo" ["self"] 1 (M_Desk_redo C0) 1) (o_Desk___init__ : OkI P w K mg base (lamT Pt) C C0 ["self", "chain"] 2 (M_Desk___init__ C0) 6) (o__law_alone : Ok P w K mg base (lamT Pt) C "_law_alone" ["_law_e", "_law_own"] 2 (M__law_alone K C) 1) {f : Addr} {fd : FuncData} (D : Def K mg "law" s_law ["_law_script"] f fd) (hc : fd.code = .ref c) (Θ : MetOk K mg C "_law_deed" s__law_met gT fdT cb) (TB : LamX.TabB base mg c Pt) : FnOk P w K mg base (L2N.CX P w) 10 f fd ["_law_script"] (spM K (lamT Pt) C 1 (M_law K C C0)) := by
  exact fun_okC (m := (m_law K C C0)) D.F sc_law hc rfl (fun A outer s H E hr => ⟨_, (sss_cons (ss_forT own_def rfl (si_seq (se_call o__law_rounds (hr.mono (by decide)) pass_def (sa_cons (se_var 0) (sa_cons se_int sa_nil)))) (sg_name 1 sc_law.nd) (sss_cons (ss_asg (se_tup (sa_cons (se_bin op_addA os_add se_int (se_call o__law_roll (hr.mono (by decide)) pass_def (sa_cons (se_var 1) (sa_cons se_int sa_nil)))) (sa_cons (se_bin op_mulE os_mulE (se_tup (sa_cons (se_tup (sa_cons se_str (sa_cons (se_tup (sa_cons se_int (sa_cons se_int sa_nil))) sa_nil))) sa_nil)) se_int) sa_nil))) (sg_tup rfl (sgs_cons (sg_name 3 sc_law.nd) (sgs_cons (sg_name 4 sc_law.nd) sgs_nil)))) (sss_cons (ss_set 2 sc_law.nd (se_lst (sa_cons (se_met (k := 7) Θ.D Θ.S Θ.gb Θ.ex rfl (hr.mono (by decide)) TB rfl (List.mem_singleton.mpr rfl) (fun p hp _ => by rw [List.mem_singleton.mp hp]; rfl) (LamX.lamS_by (sc := defScope s_law) (by decide +kernel)) rfl (fun _ _ _ _ _ => rfl) (fun A outer s H E f c' hr3 => ⟨_, (se_call o_form (hr3.mono (by decide)) pass_lam (sa_cons (se_tup (sa_cons (se_tup (sa_cons se_str (sa_cons (se_tup (sa_cons (se_var 3) (sa_cons se_int sa_nil))) sa_nil))) sa_nil)) sa_nil))⟩)) sa_nil))) (sss_cons (ss_expr (se_meth PySem.F.plainAttrs_list PySem.F.slot_list_append PySem.F.type_list_append mt_append ms_append (se_var 2) (sa_cons (se_met (k := 7) Θ.D Θ.S Θ.gb Θ.ex rfl (hr.mono (by decide)) TB rfl (List.mem_singleton.mpr rfl) (fun p hp _ => by rw [List.mem_singleton.mp hp]; rfl) (LamX.lamS_by (sc := defScope s_law) (by decide +kernel)) rfl (fun _ _ _ _ _ => rfl) (fun A outer s H E f c' hr3 => ⟨_, (se_call o_value (hr3.mono (by decide)) pass_lam (sa_cons (se_tup sa_nil) (sa_cons (se_var 3) sa_nil)))⟩)) sa_nil))) (sss_cons (ss_expr (se_meth PySem.F.plainAttrs_list PySem.F.slot_list_append PySem.F.type_list_append mt_append ms_append (se_var 2) (sa_cons (se_met (k := 7) Θ.D Θ.S Θ.gb Θ.ex rfl (hr.mono (by decide)) TB rfl (List.mem_singleton.mpr rfl) (fun p hp _ => by rw [List.mem_singleton.mp hp]; rfl) (LamX.lamS_by (sc := defScope s_law) (by decide +kernel)) rfl (fun _ _ _ _ _ => rfl) (fun A outer s H E f c' hr3 => ⟨_, (se_call o_left_out (hr3.mono (by decide)) pass_lam (sa_cons (se_tup sa_nil) (sa_cons (se_var 3) sa_nil)))⟩)) sa_nil))) (sss_cons (ss_expr (se_meth PySem.F.plainAttrs_list PySem.F.slot_list_append PySem.F.type_list_append mt_append ms_append (se_var 2) (sa_cons (se_met (k := 7) Θ.D Θ.S Θ.gb Θ.ex rfl (hr.mono (by decide)) TB rfl (List.mem_singleton.mpr rfl) (fun p hp _ => by rw [List.mem_singleton.mp hp]; rfl) (LamX.lamS_by (sc := defScope s_law) (by decide +kernel)) rfl (fun _ _ _ _ _ => rfl) (fun A outer s H E f c' hr3 => ⟨_, (se_call o_parse_chain (hr3.mono (by decide)) pass_lam (sa_cons (se_bin op_addA os_add se_str (se_callTy call_str_int cs_str rfl Γ.b_str (by decide +kernel) (sa_cons (se_var 3) sa_nil))) sa_nil))⟩)) sa_nil))) (sss_cons (ss_expr (se_meth PySem.F.plainAttrs_list PySem.F.slot_list_append PySem.F.type_list_append mt_append ms_append (se_var 2) (sa_cons (se_met (k := 7) Θ.D Θ.S Θ.gb Θ.ex rfl (hr.mono (by decide)) TB rfl (List.mem_singleton.mpr rfl) (fun p hp _ => by rw [List.mem_singleton.mp hp]; rfl) (LamX.lamS_by (sc := defScope s_law) (by decide +kernel)) rfl (fun _ _ _ _ _ => rfl) (fun A outer s H E f c' hr3 => ⟨_, (se_call o_joined (hr3.mono (by decide)) pass_lam (sa_cons (se_var 4) (sa_cons (se_var 4) sa_nil)))⟩)) sa_nil))) (sss_cons (ss_expr (se_meth PySem.F.plainAttrs_list PySem.F.slot_list_append PySem.F.type_list_append mt_append ms_append (se_var 2) (sa_cons (se_met (k := 7) Θ.D Θ.S Θ.gb Θ.ex rfl (hr.mono (by decide)) TB rfl (List.mem_singleton.mpr rfl) (fun p hp _ => by rw [List.mem_singleton.mp hp]; rfl) (LamX.lamS_by (sc := defScope s_law) (by decide +kernel)) rfl (fun _ _ _ _ _ => rfl) (fun A outer s H E f c' hr3 => ⟨_, (se_methO0 Δ.own.cl o_Desk_redo (hr3.mono (by decide)) pass_lam (se_make o_Desk___init__ Δ.own.g (hr3.mono (by decide)) pass_lam (sa_cons (se_tup sa_nil) sa_nil)))⟩)) sa_nil))) (sss_one (ss_if (st_not (st_truth (se_callB (cr_all rfl) cs_bls rfl Γ.b_all (by decide +kernel) (sa_cons (se_lcT (own := [("_law_at", 5), ("_law_e", 6)]) rfl sc_law.nd (si_enum rfl Γ.b_enumerate (sa_cons (se_var 2) sa_nil)) (blkOk_by (N := N_law) (sc := defScope s_law) (own := [("_law_at", 5), ("_law_e", 6)]) (by decide +kernel)) (fun _ _ _ _ _ => ⟨_, (sgo_tup rfl (sgos_cons (sgo_name 5 (by decide) sc_law.nd) (sgos_cons (sgo_name 6 (by decide) sc_law.nd) sgos_nil)))⟩) (fun _ _ _ _ _ => ⟨_, sts_nil⟩) (fun _ _ _ _ _ => ⟨_, (se_call o__law_alone (hr.mono (by decide)) pass_blk (sa_cons (se_var 6) (sa_cons (se_var 5) sa_nil)))⟩)) sa_nil)))) (sss_one (ss_ret se_bl)) sss_nil)))))))))) (sss_one (ss_ret se_bl)))⟩) (fun _ _ _ _ => Tells.same _)
end
end Lw

namespace Pk
open PySem PySem.Spec PyProof.Rows L2 Dn Dt Hh
def b_law (K : PySem.W.Frag) (C : Nat → Addr) (C0 : Addr) : MS := (sSeq (sAsg (dTup (aCons (dBin addD (dC (.int 11)) (dCall (dFn 2 M__law_roll) (aCons (dVar 1) (aCons (dC (.int 90)) aNil)))) (aCons (dBin mulE (dTup (aCons (dTup (aCons (dC (.str "add")) (aCons (dTup (aCons (dC (.int 1)) (aCons (dC (.int 1)) aNil))) aNil))) aNil)) (dC (.int 4))) aNil))) (mTup 2 (mCons (mName 3) (mCons (mName 4) mNil)))) (sSeq (sAsg (dLst (aCons (dMet C (dCall (dFn 1 P_form) (aCons (dTup (aCons (dTup (aCons (dC (.str "add")) (aCons (dTup (aCons (dVar 3) (aCons (dC (.int 1)) aNil))) aNil))) aNil)) aNil))) aNil)) (mName 2)) (sSeq (sDrop (dMeth "list" appendD (dVar 2) (aCons (dMet C (dCall (dFn 2 P_value) (aCons (dTup aNil) (aCons (dVar 3) aNil)))) aNil))) (sSeq (sDrop (dMeth "list" appendD (dVar 2) (aCons (dMet C (dCall (dFn 2 P_left_out) (aCons (dTup aNil) (aCons (dVar 3) aNil)))) aNil))) (sSeq (sDrop (dMeth "list" appendD (dVar 2) (aCons (dMet C (dCall (dFn 1 P_parse_chain) (aCons (dBin addD (dC (.str "add ")) (dCall strD (aCons (dVar 3) aNil))) aNil))) aNil))) (sSeq (sDrop (dMeth "list" appendD (dVar 2) (aCons (dMet C (dCall (dFn 2 P_joined) (aCons (dVar 4) (aCons (dVar 4) aNil)))) aNil))) (sSeq (sDrop (dMeth "list" appendD (dVar 2) (aCons (dMet C (dMethO C0 "redo" (dFn 1 (M_Desk_redo C0)) (dMake C0 (dFn 2 (M_Desk___init__ C0)) (aCons (dTup aNil) aNil)) aNil)) aNil))) (sIf (tNotD (tTru (dCall allD (aCons (dLc (itEnum (aCons (dVar 2) aNil)) [5, 6] (mTup 2 (mCons (mName 5) (mCons (mName 6) mNil))) tYesD (dCall (dFn 2 (M__law_alone K C)) (aCons (dVar 6) (aCons (dVar 5) aNil)))) aNil)))) (sRet (dC (.bl false))) sNext))))))))
theorem m_law_eq (K : PySem.W.Frag) (C : Nat → Addr) (C0 : Addr) : m_law K C C0 = (sSeq (sFor (itSeq (dCall (dFn 2 M__law_rounds) (aCons (dVar 0) (aCons (dC (.int 4)) aNil)))) (mName 1) (b_law K C C0)) (sRet (dC (.bl true)))) := rfl
end Pk

set_option Elab.async false
namespace Dn
open PySem
theorem s_down_up : (Str.ofString "down" = Str.ofString "up") = False := eq_false (by decide +kernel)
theorem s_down_near : (Str.ofString "down" = Str.ofString "near") = False := eq_false (by decide +kernel)
theorem s_down_add : (Str.ofString "down" = Str.ofString "add") = False := eq_false (by decide +kernel)
theorem s_down_times : (Str.ofString "down" = Str.ofString "times") = False := eq_false (by decide +kernel)
theorem s_down_rest : (Str.ofString "down" = Str.ofString "rest") = False := eq_false (by decide +kernel)
theorem s_down_even : (Str.ofString "down" = Str.ofString "even") = False := eq_false (by decide +kernel)
theorem s_down_odd : (Str.ofString "down" = Str.ofString "odd") = False := eq_false (by decide +kernel)
theorem s_up_down : (Str.ofString "up" = Str.ofString "down") = False := eq_false (by decide +kernel)
theorem s_up_near : (Str.ofString "up" = Str.ofString "near") = False := eq_false (by decide +kernel)
theorem s_up_add : (Str.ofString "up" = Str.ofString "add") = False := eq_false (by decide +kernel)
theorem s_up_times : (Str.ofString "up" = Str.ofString "times") = False := eq_false (by decide +kernel)
theorem s_up_rest : (Str.ofString "up" = Str.ofString "rest") = False := eq_false (by decide +kernel)
theorem s_up_even : (Str.ofString "up" = Str.ofString "even") = False := eq_false (by decide +kernel)
theorem s_up_odd : (Str.ofString "up" = Str.ofString "odd") = False := eq_false (by decide +kernel)
theorem s_near_down : (Str.ofString "near" = Str.ofString "down") = False := eq_false (by decide +kernel)
theorem s_near_up : (Str.ofString "near" = Str.ofString "up") = False := eq_false (by decide +kernel)
theorem s_near_add : (Str.ofString "near" = Str.ofString "add") = False := eq_false (by decide +kernel)
theorem s_near_times : (Str.ofString "near" = Str.ofString "times") = False := eq_false (by decide +kernel)
theorem s_near_rest : (Str.ofString "near" = Str.ofString "rest") = False := eq_false (by decide +kernel)
theorem s_near_even : (Str.ofString "near" = Str.ofString "even") = False := eq_false (by decide +kernel)
theorem s_near_odd : (Str.ofString "near" = Str.ofString "odd") = False := eq_false (by decide +kernel)
theorem s_add_down : (Str.ofString "add" = Str.ofString "down") = False := eq_false (by decide +kernel)
theorem s_add_up : (Str.ofString "add" = Str.ofString "up") = False := eq_false (by decide +kernel)
theorem s_add_near : (Str.ofString "add" = Str.ofString "near") = False := eq_false (by decide +kernel)
theorem s_add_times : (Str.ofString "add" = Str.ofString "times") = False := eq_false (by decide +kernel)
theorem s_add_rest : (Str.ofString "add" = Str.ofString "rest") = False := eq_false (by decide +kernel)
theorem s_add_even : (Str.ofString "add" = Str.ofString "even") = False := eq_false (by decide +kernel)
theorem s_add_odd : (Str.ofString "add" = Str.ofString "odd") = False := eq_false (by decide +kernel)
theorem s_times_down : (Str.ofString "times" = Str.ofString "down") = False := eq_false (by decide +kernel)
theorem s_times_up : (Str.ofString "times" = Str.ofString "up") = False := eq_false (by decide +kernel)
theorem s_times_near : (Str.ofString "times" = Str.ofString "near") = False := eq_false (by decide +kernel)
theorem s_times_add : (Str.ofString "times" = Str.ofString "add") = False := eq_false (by decide +kernel)
theorem s_times_rest : (Str.ofString "times" = Str.ofString "rest") = False := eq_false (by decide +kernel)
theorem s_times_even : (Str.ofString "times" = Str.ofString "even") = False := eq_false (by decide +kernel)
theorem s_times_odd : (Str.ofString "times" = Str.ofString "odd") = False := eq_false (by decide +kernel)
theorem s_rest_down : (Str.ofString "rest" = Str.ofString "down") = False := eq_false (by decide +kernel)
theorem s_rest_up : (Str.ofString "rest" = Str.ofString "up") = False := eq_false (by decide +kernel)
theorem s_rest_near : (Str.ofString "rest" = Str.ofString "near") = False := eq_false (by decide +kernel)
theorem s_rest_add : (Str.ofString "rest" = Str.ofString "add") = False := eq_false (by decide +kernel)
theorem s_rest_times : (Str.ofString "rest" = Str.ofString "times") = False := eq_false (by decide +kernel)
theorem s_rest_even : (Str.ofString "rest" = Str.ofString "even") = False := eq_false (by decide +kernel)
theorem s_rest_odd : (Str.ofString "rest" = Str.ofString "odd") = False := eq_false (by decide +kernel)
theorem s_even_down : (Str.ofString "even" = Str.ofString "down") = False := eq_false (by decide +kernel)
theorem s_even_up : (Str.ofString "even" = Str.ofString "up") = False := eq_false (by decide +kernel)
theorem s_even_near : (Str.ofString "even" = Str.ofString "near") = False := eq_false (by decide +kernel)
theorem s_even_add : (Str.ofString "even" = Str.ofString "add") = False := eq_false (by decide +kernel)
theorem s_even_times : (Str.ofString "even" = Str.ofString "times") = False := eq_false (by decide +kernel)
theorem s_even_rest : (Str.ofString "even" = Str.ofString "rest") = False := eq_false (by decide +kernel)
theorem s_even_odd : (Str.ofString "even" = Str.ofString "odd") = False := eq_false (by decide +kernel)
theorem s_odd_down : (Str.ofString "odd" = Str.ofString "down") = False := eq_false (by decide +kernel)
theorem s_odd_up : (Str.ofString "odd" = Str.ofString "up") = False := eq_false (by decide +kernel)
theorem s_odd_near : (Str.ofString "odd" = Str.ofString "near") = False := eq_false (by decide +kernel)
theorem s_odd_add : (Str.ofString "odd" = Str.ofString "add") = False := eq_false (by decide +kernel)
theorem s_odd_times : (Str.ofString "odd" = Str.ofString "times") = False := eq_false (by decide +kernel)
theorem s_odd_rest : (Str.ofString "odd" = Str.ofString "rest") = False := eq_false (by decide +kernel)
theorem s_odd_even : (Str.ofString "odd" = Str.ofString "even") = False := eq_false (by decide +kernel)
end Dn

set_option Elab.async false
set_option linter.all false
set_option maxRecDepth 100000
set_option maxHeartbeats 4000000
/-! Sizes, dice, rounds. -/
namespace Pk
open PySem PySem.Spec PyProof.Rows L2 Dn Dt Hh
/-- sizes -/
def B (m : Nat) (x : Int) : Prop := x.natAbs < 2 ^ m
theorem B.mono {m n : Nat} {x : Int} (h : B m x) (k : m ≤ n) : B n x := Nat.lt_of_lt_of_le h (Nat.pow_le_pow_right (by decide) k)
theorem B.mul {m n : Nat} {x y : Int} (h : B m x) (k : B n y) : B (m + n) (x * y) := by
  unfold B at *
  rw [Int.natAbs_mul, Nat.pow_add]
  exact Nat.mul_lt_mul'' h k
theorem B.add {m : Nat} {x y : Int} (h : B m x) (k : B m y) : B (m + 1) (x + y) := by
  unfold B at *
  have := Int.natAbs_add_le x y
  rw [Nat.pow_succ]
  omega
theorem B.neg {m : Nat} {x : Int} (h : B m x) : B m (-x) := by unfold B at *; rw [Int.natAbs_neg]; exact h
theorem B.sub {m : Nat} {x y : Int} (h : B m x) (k : B m y) : B (m + 1) (x - y) := by rw [Int.sub_eq_add_neg]; exact h.add k.neg
theorem B.div {m : Nat} {x : Int} (y : Int) (h : B m x) : B m (x / y) := Nat.lt_of_le_of_lt (Int.natAbs_ediv_le_natAbs x y) h
theorem B.log {m : Nat} {x : Int} (h : B m x) (hm : 0 < m) : x.natAbs.log2 < m := by
  by_cases z : x.natAbs = 0
  · rw [z]
    exact hm
  · exact (Nat.log2_lt z).mpr h
theorem B.mok {m n : Nat} {x y : Int} (h : B m x) (k : B n y) (hs : m + n ≤ 9000 := by decide) (hm : 0 < m := by decide) (hn : 0 < n := by decide) : mulOk x y = true := by
  unfold mulOk
  have := h.log hm
  have := k.log hn
  exact decide_eq_true (.inr (.inr (by omega)))
theorem B.dok {m : Nat} {y : Int} (h : B m y) (hp : 0 < y) (hs : m ≤ 9000 := by decide) (hm : 0 < m := by decide) : 0 < y ∧ y.natAbs.log2 < 9000 := ⟨hp, Nat.lt_of_lt_of_le (h.log hm) hs⟩
def F (a b : Int) : D := .tup [.int a, .int b]
section
variable {a b c d : Int} {m : Nat}
theorem mulD_B {x y : Int} {n : Nat} (h : B m x) (k : B n y) (hs : m + n ≤ 9000 := by omega) (hm : 0 < m := by omega) (hn : 0 < n := by omega) (st : Sto) : mulD (.int x) (.int y) st = .ok (.int (x * y)) st := d_mul_int (h.mok k hs hm hn) st
end
theorem B1 {m : Nat} (h : 0 < m) : B m (1 : Int) := by unfold B; exact Nat.one_lt_two_pow (by omega)
/-! ### dice: lists of two ints -/
def IsDice (st : Sto) (d : Nat) : Prop := ∃ a b : Int, st[d]? = some (.lst [.int a, .int b])
/-- lists of two ints may have changed, others not -/
def Upd (st st' : Sto) : Prop := st.length ≤ st'.length ∧ ∀ (i : Nat) (c : Cell), st[i]? = some c → ((∃ a b : Int, c = .lst [.int a, .int b]) ∧ IsDice st' i) ∨ st'[i]? = some c
theorem Upd.refl (st : Sto) : Upd st st := ⟨Nat.le_refl _, fun i c h => .inr h⟩
theorem IsDice.upd {st st' : Sto} {d : Nat} (h : IsDice st d) (u : Upd st st') : IsDice st' d := by
  obtain ⟨a, b, e⟩ := h
  rcases u.2 d _ e with ⟨_, z⟩ | z
  · exact z
  · exact ⟨a, b, z⟩
theorem Upd.trans {st s1 s2 : Sto} (u : Upd st s1) (v : Upd s1 s2) : Upd st s2 := ⟨Nat.le_trans u.1 v.1, fun i c h => by
  rcases u.2 i c h with ⟨e, z⟩ | z
  · exact .inl ⟨e, z.upd v⟩
  · exact v.2 i c z⟩
theorem Upd.app (st l : Sto) : Upd st (st ++ l) := ⟨by rw [List.length_append]; omega, fun i c h => .inr (by
  rw [List.getElem?_append_left (List.getElem?_eq_some_iff.mp h).1]
  exact h)⟩
theorem Upd.keep {st st' : Sto} {i : Nat} {c : Cell} (u : Upd st st') (h : st[i]? = some c) (n : ∀ a b : Int, c ≠ .lst [.int a, .int b]) : st'[i]? = some c := by
  rcases u.2 i c h with ⟨⟨a, b, e⟩, _⟩ | z
  · exact absurd e (n a b)
  · exact z
theorem Upd.setD {st : Sto} {d : Nat} (h : IsDice st d) (a b : Int) : Upd st (st.set d (.lst [.int a, .int b])) := ⟨by rw [List.length_set]; omega, fun i c e => by
  by_cases q : i = d
  · subst q
    obtain ⟨a0, b0, e0⟩ := h
    rw [e0] at e
    refine .inl ⟨⟨a0, b0, (Option.some.inj e).symm⟩, a, b, List.getElem?_set_self (List.getElem?_eq_some_iff.mp e0).1⟩
  · exact .inr (by rw [List.getElem?_set_ne (Ne.symm q)]; exact e)⟩
/-- a place that the older store has not may be written -/
theorem Upd.fresh {st st' : Sto} {loc : Nat} {c : Cell} (u : Upd st st') (h : st.length ≤ loc) : Upd st (st'.set loc c) := ⟨by rw [List.length_set]; exact u.1, fun i x e => by
  have hi := (List.getElem?_eq_some_iff.mp e).1
  have q : loc ≠ i := by omega
  rcases u.2 i x e with ⟨z, a, b, y⟩ | y
  · exact .inl ⟨z, a, b, by rw [List.getElem?_set_ne q]; exact y⟩
  · exact .inr (by rw [List.getElem?_set_ne q]; exact y)⟩
theorem atI_mem {α : Type} {xs : List α} {v : Int} (h0 : 0 ≤ v) (h : v < (xs.length : Int)) : ∃ x, x ∈ xs ∧ L2.atI xs v = some x := by
  obtain ⟨k, rfl⟩ := Int.eq_ofNat_of_zero_le h0
  have hk : k < xs.length := by omega
  exact ⟨xs[k], List.getElem_mem hk, by rw [d_atI, List.getElem?_eq_getElem hk]⟩
theorem mulOk_smallR {i j : Int} (h1 : -(2 ^ 64) < j) (h2 : j < 2 ^ 64) : mulOk i j = true := decide_eq_true (.inr (.inl ⟨h1, h2⟩))
theorem mod_B {m : Nat} {x y : Int} (hy : 0 < y) (h : B m y) : B m (x % y) := by
  have h0 := Int.emod_nonneg x (by omega : y ≠ 0)
  have h1 := Int.emod_lt_of_pos x hy
  unfold B at *
  omega
theorem run_drawn (c k : Int) (st : Sto) : ∃ r, M__law_drawn [.int c, .int k] st = .ok (.int r) st := by
  have k1 := d_mul_int (i := c) (j := 6364136223846793005) (mulOk_smallR (by decide) (by decide))
  have k2 := d_mul_int (i := k + 1) (j := 1442695040888963407) (mulOk_smallR (by decide) (by decide))
  have k3 : ∀ x st, modD (.int x) (.int 340282366920938463463374607431768211507) st = .ok (.int (x % 340282366920938463463374607431768211507)) st := fun x st => d_mod_int (by decide) st
  have k4 : ∀ x st, modD (.int x) (.int 340282366920938463463374607431768211297) st = .ok (.int (x % 340282366920938463463374607431768211297)) st := fun x st => d_mod_int (by decide) st
  have k5 : ∀ x st, modD (.int x) (.int 18446744073709551557) st = .ok (.int (x % 18446744073709551557)) st := fun x st => d_mod_int (by decide) st
  have k6 : ∀ x st, fdivD (.int x) (.int 18446744073709551557) st = .ok (.int (x / 18446744073709551557)) st := fun x st => d_fdiv_int ⟨by decide, by decide +kernel⟩ st
  generalize hm : (c * 6364136223846793005 + (k + 1) * 1442695040888963407) % 340282366920938463463374607431768211507 = m1
  have b1 : B 129 m1 := by
    rw [← hm]
    exact mod_B (by decide) (by unfold B; decide +kernel)
  have k7 := mulD_B b1 b1
  generalize hn : (m1 * m1) % 340282366920938463463374607431768211297 = m2
  have b2 : B 129 m2 := by
    rw [← hn]
    exact mod_B (by decide) (by unfold B; decide +kernel)
  have b3 : B 130 (m2 % 18446744073709551557 + 1) := ((mod_B (by decide) (by unfold B; decide +kernel)).add (B1 (by decide) : B 129 1)).mono (by decide)
  have b4 : B 130 (m2 / 18446744073709551557 + 1) := ((b2.div _).add (B1 (by decide))).mono (by decide)
  have k8 := mulD_B b3 b4
  have k9 := mulD_B (b3.mul b4) b2
  refine ⟨(m2 % 18446744073709551557 + 1) * (m2 / 18446744073709551557 + 1) * m2 % 340282366920938463463374607431768211507, ?_⟩
  · simp only [M__law_drawn, m__law_drawn, sSeq, sAsg, sIf, sRet, sRetN, sNext, sDrop, sPar, sNo, sRaise, sBreak, sCont, dVar, dC, dBin, dUn, dCall, aNil, aCons, dTup, dLst, tVal, tAndD, tOrD, tNotD, dAndV, dOrV, dNotV, dIf, dChain, tTru, truthD, mName, mNil, mCons, mTup, mSub, dFn, O.res, R.bind_ok, R.bind_er, R.bind_no, R.toS_ok, R.toS_er, R.toS_no, O.thn_nx, O.thn_rt, O.thn_er, O.thn_bk, O.thn_ct, O.thn_no, startE, List.map, List.length_cons, List.length_nil, List.replicate, List.cons_append, List.nil_append, List.append_assoc, List.getElem?_cons_zero, List.getElem?_cons_succ, List.set, List.length_append, at_k, at_0, seq_k, seq_0, seq_c0, seq_cs, d_eq_int, d_ne_int, d_eq_str, d_ne_str, d_eq_bl, d_add_int, d_sub_int, d_neg_int, d_cmp_int, d_ix_tup, d_ix_kl, d_ix_ref, atI_0, atI_1, atI_2, Nat.zero_add, Nat.add_zero, Nat.add_assoc, Nat.reduceAdd, Nat.reduceLeDiff, Nat.reduceSub, Nat.reduceLT, ↓reduceIte, Bool.not_true, Bool.not_false, Bool.false_eq_true, nc_0, nc_1, nc_2, nc_3, nc_4, k1, k2, k3, hm, k7, k4, hn, k5, k6, k8, k9]
theorem pow18 (st : Sto) : powD (.int 10) (.int 18) st = .ok (.int 1000000000000000000) st := by
  simp only [powD]
  rfl
theorem run_roll {st : Sto} {d : Nat} (hd : IsDice st d) {many : Int} (h0 : 0 < many) (h1 : many < 18446744073709551616) : ∃ v st', M__law_roll [.ref d, .int many] st = .ok (.int v) st' ∧ 0 ≤ v ∧ v < many ∧ Upd st st' ∧ IsDice st' d := by
  obtain ⟨a, b, e⟩ := id hd
  have es : Sto.seq st d = some [.int a, .int b] := seq_at e
  have hlt := (List.getElem?_eq_some_iff.mp e).1
  have kf := d_fdiv_int (i := a) (j := many) ⟨h0, by
    have : B 64 many := by unfold B; omega
    exact Nat.lt_of_lt_of_le (this.log (by decide)) (by decide)⟩
  have km := d_mod_int (i := a) h0
  have s0 : ∀ v : Int, setD (.ref d) (.int 0) (.int v) st = .ok () (st.set d (.lst [.int v, .int b])) := fun v => by simp only [setD, e]; rfl
  have s1 : ∀ v : Int, setD (.ref d) (.int 1) (.int v) st = .ok () (st.set d (.lst [.int a, .int v])) := fun v => by simp only [setD, e]; rfl
  by_cases hb : (1000000000000000000 : Int) ≤ a
  · have hb' : decide ((1000000000000000000 : Int) ≤ a) = true := decide_eq_true hb
    refine ⟨a % many, st.set d (.lst [.int (a / many), .int b]), ?_, Int.emod_nonneg _ (by omega), Int.emod_lt_of_pos _ h0, Upd.setD hd _ _, _, _, List.getElem?_set_self hlt⟩
    simp only [M__law_roll, m__law_roll, sSeq, sAsg, sIf, sRet, sRetN, sNext, sDrop, sPar, sNo, sRaise, sBreak, sCont, dVar, dC, dBin, dUn, dCall, aNil, aCons, dTup, dLst, tVal, tAndD, tOrD, tNotD, dAndV, dOrV, dNotV, dIf, dChain, tTru, truthD, mName, mNil, mCons, mTup, mSub, dFn, O.res, R.bind_ok, R.bind_er, R.bind_no, R.toS_ok, R.toS_er, R.toS_no, O.thn_nx, O.thn_rt, O.thn_er, O.thn_bk, O.thn_ct, O.thn_no, startE, List.map, List.length_cons, List.length_nil, List.replicate, List.cons_append, List.nil_append, List.append_assoc, List.getElem?_cons_zero, List.getElem?_cons_succ, List.set, List.length_append, at_k, at_0, seq_k, seq_0, seq_c0, seq_cs, d_eq_int, d_ne_int, d_eq_str, d_ne_str, d_eq_bl, d_add_int, d_sub_int, d_neg_int, d_cmp_int, d_ix_tup, d_ix_kl, d_ix_ref, atI_0, atI_1, atI_2, Nat.zero_add, Nat.add_zero, Nat.add_assoc, Nat.reduceAdd, Nat.reduceLeDiff, Nat.reduceSub, Nat.reduceLT, ↓reduceIte, Bool.not_true, Bool.not_false, Bool.false_eq_true, nc_0, nc_1, nc_2, nc_3, nc_4, es, pow18, hb', km, kf, s0]
  · have hb' : decide ((1000000000000000000 : Int) ≤ a) = false := decide_eq_false hb
    have es' : Sto.seq (st.set d (.lst [.int a, .int (b + 1)])) d = some [.int a, .int (b + 1)] := seq_at (List.getElem?_set_self hlt)
    obtain ⟨r, kr⟩ := run_drawn a (b + 1) (st.set d (.lst [.int a, .int (b + 1)]))
    have k8 : ∀ x st, fdivD (.int x) (.int 8) st = .ok (.int (x / 8)) st := fun x st => d_fdiv_int ⟨by decide, by decide +kernel⟩ st
    have km2 := d_mod_int (i := r / 8) h0
    refine ⟨r / 8 % many, st.set d (.lst [.int a, .int (b + 1)]), ?_, Int.emod_nonneg _ (by omega), Int.emod_lt_of_pos _ h0, Upd.setD hd _ _, _, _, List.getElem?_set_self hlt⟩
    simp only [M__law_roll, m__law_roll, sSeq, sAsg, sIf, sRet, sRetN, sNext, sDrop, sPar, sNo, sRaise, sBreak, sCont, dVar, dC, dBin, dUn, dCall, aNil, aCons, dTup, dLst, tVal, tAndD, tOrD, tNotD, dAndV, dOrV, dNotV, dIf, dChain, tTru, truthD, mName, mNil, mCons, mTup, mSub, dFn, O.res, R.bind_ok, R.bind_er, R.bind_no, R.toS_ok, R.toS_er, R.toS_no, O.thn_nx, O.thn_rt, O.thn_er, O.thn_bk, O.thn_ct, O.thn_no, startE, List.map, List.length_cons, List.length_nil, List.replicate, List.cons_append, List.nil_append, List.append_assoc, List.getElem?_cons_zero, List.getElem?_cons_succ, List.set, List.length_append, at_k, at_0, seq_k, seq_0, seq_c0, seq_cs, d_eq_int, d_ne_int, d_eq_str, d_ne_str, d_eq_bl, d_add_int, d_sub_int, d_neg_int, d_cmp_int, d_ix_tup, d_ix_kl, d_ix_ref, atI_0, atI_1, atI_2, Nat.zero_add, Nat.add_zero, Nat.add_assoc, Nat.reduceAdd, Nat.reduceLeDiff, Nat.reduceSub, Nat.reduceLT, ↓reduceIte, Bool.not_true, Bool.not_false, Bool.false_eq_true, nc_0, nc_1, nc_2, nc_3, nc_4, es, pow18, hb', s1, es', kr, k8, km2]
def freeL : List D := [F 3 1, F 1 10, F 2 3, F 5 2]
def fewL : List D := [F 1 1, F 1 2, F 2 1, F 4 1, F 1 4]
/-! ### the cells -/
theorem pyAll_ints : ∀ ns : List Int, D.pyAll (ns.map .int) = some (ns.map PyData.int)
  | [] => rfl
  | n :: ns => by
    rw [List.map_cons, List.map_cons]
    unfold D.pyAll D.pyN
    rw [pyAll_ints ns]
theorem canInts : ∀ ns : List Int, PyData.canLayAll0 (ns.map PyData.int) = true
  | [] => rfl
  | n :: ns => by
    rw [List.map_cons]
    unfold PyData.canLayAll0 PyData.canLay0
    rw [canInts ns]
    rfl
theorem depthInts : ∀ ns : List Int, PyData.depthAll (ns.map PyData.int) ≤ 1
  | [] => by decide
  | n :: ns => by
    rw [List.map_cons]
    unfold PyData.depthAll PyData.depth
    have := depthInts ns
    omega
theorem shInts (ns : List Int) : SeqAt.shaped (.list (ns.map PyData.int)) = true := by
  unfold SeqAt.shaped PyData.canLay0 PyData.depth
  rw [canInts, Bool.true_and]
  have := depthInts ns
  exact decide_eq_true (by omega)
theorem run_cell (ns : List Int) (k : Int) (hl : ns.length ≤ 63) (st : Sto) : ∃ z : Int, M__law_cell [.kl (ns.map .int), .int k] st = .ok (.int z) (st ++ [.lst []]) := by
  have k1 := d_mul_int (i := k) (j := 7919) (mulOk_smallR (by decide) (by decide))
  have sh := shInts ns
  have sh0 : SeqAt.shaped (.list []) = true := shInts []
  have eq : eqD (.kl (ns.map .int)) (.ref st.length) (st ++ [.lst []]) = .ok (.bl (PyData.eqv (.list (ns.map PyData.int)) (.list []))) (st ++ [.lst []]) := by
    simp only [eqD, eqvD, scalD, D.py, D.pyN, pyAll_ints, Option.map_some, seq_0, seq_c0, D.pyAll, sh, sh0, and_self, ↓reduceIte]
  cases ns with
  | nil =>
    have e : PyData.eqv (.list (([] : List Int).map PyData.int)) (.list []) = true := by simp [PyData.eqv, PyData.eqvAll]
    refine ⟨k * 7919, ?_⟩
    rw [e] at eq
    simp only [List.map] at eq
    simp only [M__law_cell, m__law_cell, sSeq, sAsg, sIf, sRet, sRetN, sNext, sDrop, sPar, sNo, sRaise, sBreak, sCont, dVar, dC, dBin, dUn, dCall, aNil, aCons, dTup, dLst, tVal, tAndD, tOrD, tNotD, dAndV, dOrV, dNotV, dIf, dChain, tTru, truthD, mName, mNil, mCons, mTup, mSub, dFn, O.res, R.bind_ok, R.bind_er, R.bind_no, R.toS_ok, R.toS_er, R.toS_no, O.thn_nx, O.thn_rt, O.thn_er, O.thn_bk, O.thn_ct, O.thn_no, startE, List.map, List.length_cons, List.length_nil, List.replicate, List.cons_append, List.nil_append, List.append_assoc, List.getElem?_cons_zero, List.getElem?_cons_succ, List.set, List.length_append, at_k, at_0, seq_k, seq_0, seq_c0, seq_cs, d_eq_int, d_ne_int, d_eq_str, d_ne_str, d_eq_bl, d_add_int, d_sub_int, d_neg_int, d_cmp_int, d_ix_tup, d_ix_kl, d_ix_ref, atI_0, atI_1, atI_2, Nat.zero_add, Nat.add_zero, Nat.add_assoc, Nat.reduceAdd, Nat.reduceLeDiff, Nat.reduceSub, Nat.reduceLT, ↓reduceIte, Bool.not_true, Bool.not_false, Bool.false_eq_true, nc_0, nc_1, nc_2, nc_3, nc_4, eq, k1]
  | cons n r =>
    have e : PyData.eqv (.list ((n :: r).map PyData.int)) (.list []) = false := by simp [PyData.eqv, PyData.eqvAll]
    rw [e] at eq
    obtain ⟨L, eL⟩ : ∃ L : Int, L = (((n :: r).map D.int).length : Int) := ⟨_, rfl⟩
    have hp : (0 : Int) < L := by rw [eL]; rw [List.length_map, List.length_cons]; omega
    have hb : B 10 L := by
      rw [eL]
      unfold B
      rw [List.length_map, Int.natAbs_natCast]
      have : (n :: r).length ≤ 63 := hl
      omega
    have km := d_mod_int (i := k) hp
    have kf := d_fdiv_int (i := k) (hb.dok hp)
    have km2 : ∀ x st, mulD (.int x) (.int 104729) st = .ok (.int (x * 104729)) st := fun x st => d_mul_int (mulOk_smallR (by decide) (by decide)) st
    obtain ⟨x, hx, ex⟩ := atI_mem (xs := (n :: r).map D.int) (v := k % L) (Int.emod_nonneg _ (by omega)) (by have := Int.emod_lt_of_pos k hp; omega)
    obtain ⟨z, _, rfl⟩ := List.mem_map.mp hx
    refine ⟨z + k / L * 104729, ?_⟩
    have ln : lenD [.kl ((n :: r).map .int)] (st ++ [.lst []]) = .ok (.int L) (st ++ [.lst []]) := by simp only [lenD, D.items, eL]
    clear hb
    generalize (n :: r).map D.int = l at *
    simp only [M__law_cell, m__law_cell, sSeq, sAsg, sIf, sRet, sRetN, sNext, sDrop, sPar, sNo, sRaise, sBreak, sCont, dVar, dC, dBin, dUn, dCall, aNil, aCons, dTup, dLst, tVal, tAndD, tOrD, tNotD, dAndV, dOrV, dNotV, dIf, dChain, tTru, truthD, mName, mNil, mCons, mTup, mSub, dFn, O.res, R.bind_ok, R.bind_er, R.bind_no, R.toS_ok, R.toS_er, R.toS_no, O.thn_nx, O.thn_rt, O.thn_er, O.thn_bk, O.thn_ct, O.thn_no, startE, List.map, List.length_cons, List.length_nil, List.replicate, List.cons_append, List.nil_append, List.append_assoc, List.getElem?_cons_zero, List.getElem?_cons_succ, List.set, List.length_append, at_k, at_0, seq_k, seq_0, seq_c0, seq_cs, d_eq_int, d_ne_int, d_eq_str, d_ne_str, d_eq_bl, d_add_int, d_sub_int, d_neg_int, d_cmp_int, d_ix_tup, d_ix_kl, d_ix_ref, atI_0, atI_1, atI_2, Nat.zero_add, Nat.add_zero, Nat.add_assoc, Nat.reduceAdd, Nat.reduceLeDiff, Nat.reduceSub, Nat.reduceLT, ↓reduceIte, Bool.not_true, Bool.not_false, Bool.false_eq_true, nc_0, nc_1, nc_2, nc_3, nc_4, eq, ln, km, kf, km2, ex]
/-- the rounds' dice -/
theorem lc_rounds (ns : List Int) (hl : ns.length ≤ 63) (m : Nat) (hm : m ≤ 100) : ∀ (n i : Nat) (acc : List Nat) (st : Sto), i + n = m → acc.length ≤ i → (∀ r ∈ acc, IsDice st r ∧ r ≠ 0) → st[0]? = some (.lst (acc.map .ref)) →
    ∃ (rs : List Nat) (st' : Sto), lcGo (rngFeed 0 m) [2] (mName 2) tYesD (dLst (aCons (dCall (dFn 2 M__law_cell) (aCons (dVar 0) (aCons (dVar 2) aNil))) (aCons (dC (.int 0)) aNil))) 0 n i [some (.kl (ns.map .int)), some (.int 4), none] st = .ok (.ref 0) st' ∧
      (∀ r ∈ rs, IsDice st' r) ∧ st'[0]? = some (.lst (rs.map .ref)) := by
  intro n
  induction n with
  | zero =>
    intro i acc st hi ha hd hc
    have e : ∀ st, rngFeed 0 m i st = some none := fun st => by
      unfold rngFeed
      rw [if_neg (by omega)]
    refine ⟨acc, st, ?_, fun r hr => (hd r hr).1, hc⟩
    simp only [lcGo, e]
  | succ n ih =>
    intro i acc st hi ha hd hc
    have e : ∀ st, rngFeed 0 m i st = some (some (.int (i : Int))) := fun st => by
      unfold rngFeed
      rw [if_pos (by omega), Int.zero_add]
    obtain ⟨z, k⟩ := run_cell ns (i : Int) hl st
    have h0 : 0 < st.length := (List.getElem?_eq_some_iff.mp hc).1
    have g0 : ((st ++ [Cell.lst []]) ++ [Cell.lst [.int z, .int 0]])[0]? = some (.lst (acc.map .ref)) := by
      rw [List.append_assoc, List.getElem?_append_left h0]
      exact hc
    have hz : (acc.map D.ref).length < 100000 := by rw [List.length_map]; omega
    have hlen : (st ++ [Cell.lst []]).length = st.length + 1 := by rw [List.length_append]; rfl
    obtain ⟨rs, st', k', e1, e2⟩ := ih (i + 1) (acc ++ [st.length + 1]) (((st ++ [Cell.lst []]) ++ [Cell.lst [.int z, .int 0]]).set 0 (.lst ((acc ++ [st.length + 1]).map .ref))) (by omega) (by rw [List.length_append, List.length_singleton]; omega)
      (fun r hr => by
        rcases List.mem_append.mp hr with h | h
        · obtain ⟨⟨a, b, q⟩, hne⟩ := hd r h
          refine ⟨⟨a, b, ?_⟩, hne⟩
          rw [List.getElem?_set_ne (Ne.symm hne), List.append_assoc, List.getElem?_append_left (List.getElem?_eq_some_iff.mp q).1]
          exact q
        · rw [List.mem_singleton.mp h]
          refine ⟨⟨z, 0, ?_⟩, by omega⟩
          rw [List.getElem?_set_ne (by omega), ← hlen, at_0]
          rfl)
      (List.getElem?_set_self (by rw [List.length_append, List.length_append]; omega))
    refine ⟨rs, st', ?_, e1, e2⟩
    rw [← k', List.map_append, List.map_singleton]
    simp only [lcGo, e, mName, List.set, R.noEr_ok, R.bind_ok, tYesD, ↓reduceIte, dLst, dCall, dC, aCons, aNil, dVar, List.getElem?_cons_succ, List.getElem?_cons_zero, dFn, List.length_cons, List.length_nil, Nat.zero_add, Nat.reduceAdd, k, Nat.reduceLeDiff, g0, hz, hlen]
theorem run_rounds (ns : List Int) (hl : ns.length ≤ 63) : ∃ (rs : List Nat) (st' : Sto), M__law_rounds [.kl (ns.map .int), .int 4] [] = .ok (.ref 0) st' ∧ (∀ r ∈ rs, IsDice st' r) ∧ st'[0]? = some (.lst (rs.map .ref)) := by
  obtain ⟨L, eL⟩ : ∃ L : Int, L = ((ns.length : Nat) : Int) := ⟨_, rfl⟩
  have ln : lenD [.kl (ns.map .int)] [] = .ok (.int L) [] := by
    simp only [lenD, D.items, List.length_map, eL]
  have hL : 0 ≤ L ∧ L ≤ 63 := by omega
  obtain ⟨m5, e5, h5⟩ : ∃ m5 : Int, (if L < 4 then L else 4) = m5 ∧ m5 ≤ 63 := ⟨_, rfl, by split <;> omega⟩
  obtain ⟨m1, e1, h1, h1'⟩ : ∃ m1 : Int, (if 1 < m5 then m5 else 1) = m1 ∧ 0 ≤ m1 ∧ m1 ≤ 63 := ⟨_, rfl, by split <;> omega, by split <;> omega⟩
  have k1 : min2D [.int 4, .int L] [] = .ok (.int m5) [] := by simp only [int2D, e5]
  have k2 : max2D [.int 1, .int m5] [] = .ok (.int m1) [] := by simp only [int2D, e1]
  have hv : -(2 ^ 62) ≤ m1 ∧ m1 < 2 ^ 62 := by omega
  obtain ⟨rs, st', k3, f1, f2⟩ := lc_rounds ns hl m1.toNat (by omega) m1.toNat 0 [] [.lst []] (by omega) (Nat.le_refl _) (fun r h => nomatch h) rfl
  have wp : wipeD [some (.kl (ns.map .int)), some (.int 4), none] [2] = [some (.kl (ns.map .int)), some (.int 4), none] := rfl
  refine ⟨rs, st', ?_, f1, f2⟩
  clear e5 e1 eL
  simp only [M__law_rounds, m__law_rounds, sSeq, sAsg, sIf, sRet, sRetN, sNext, sDrop, sPar, sNo, sRaise, sBreak, sCont, dVar, dC, dBin, dUn, dCall, aNil, aCons, dTup, dLst, tVal, tAndD, tOrD, tNotD, dAndV, dOrV, dNotV, dIf, dChain, tTru, truthD, mName, mNil, mCons, mTup, mSub, dFn, O.res, R.bind_ok, R.bind_er, R.bind_no, R.toS_ok, R.toS_er, R.toS_no, O.thn_nx, O.thn_rt, O.thn_er, O.thn_bk, O.thn_ct, O.thn_no, startE, List.map, List.length_cons, List.length_nil, List.replicate, List.cons_append, List.nil_append, List.append_assoc, List.getElem?_cons_zero, List.getElem?_cons_succ, List.set, List.length_append, at_k, at_0, seq_k, seq_0, seq_c0, seq_cs, d_eq_int, d_ne_int, d_eq_str, d_ne_str, d_eq_bl, d_add_int, d_sub_int, d_neg_int, d_cmp_int, d_ix_tup, d_ix_kl, d_ix_ref, atI_0, atI_1, atI_2, Nat.zero_add, Nat.add_zero, Nat.add_assoc, Nat.reduceAdd, Nat.reduceLeDiff, Nat.reduceSub, Nat.reduceLT, ↓reduceIte, Bool.not_true, Bool.not_false, Bool.false_eq_true, nc_0, nc_1, nc_2, nc_3, nc_4, ln, k1, k2, dLc, itRng1, hv, and_self, wp, k3]
end Pk

set_option Elab.async false
set_option linter.all false
set_option maxRecDepth 100000
set_option maxHeartbeats 4000000
/-! Comprehensions and loops run, in general: any target, a test, what a loop keeps. -/
namespace Dn
open PySem L2
variable {st : Sto} {α : Type} {xs : List α} {en : α → D}
theorem lc_gen2 {fd : Feed} {vs : List Nat} {g : MG} {t : MT} {env : Ev} {e : ME} {f : α → D} {p : α → Bool} (hfd : ∀ l i, fd i (st ++ l) = some (xs.map en)[i]?) (hz : xs.length ≤ 99999)
    (he : ∀ d ∈ xs, ∀ l, ∃ env1 l', g (en d) env (st ++ l) = .ok env1 (st ++ l) ∧ t env1 (st ++ l) = .ok (p d) (st ++ l) ∧ (p d = true → e env1 (st ++ l) = .ok (f d) (st ++ (l ++ l')))) : ∀ (n i : Nat) (l : Sto), i + n = xs.length →
    ∃ l', lcGo fd vs g t e st.length n i env (st ++ .lst (((xs.take i).filter p).map f) :: l) = .ok (.ref st.length) (st ++ .lst ((xs.filter p).map f) :: l') := by
  intro n
  induction n with
  | zero =>
    intro i l hi
    have ei : i = xs.length := by omega
    subst ei
    have hf := hfd (.lst ((xs.filter p).map f) :: l) xs.length
    rw [List.getElem?_eq_none (by rw [List.length_map]; exact Nat.le_refl _)] at hf
    rw [List.take_length]
    refine ⟨l, ?_⟩
    simp only [lcGo, hf]
  | succ n ih =>
    intro i l hi
    have hlt : i < xs.length := by omega
    have hf := hfd (.lst (((xs.take i).filter p).map f) :: l) i
    rw [List.getElem?_map, List.getElem?_eq_getElem hlt, Option.map_some] at hf
    obtain ⟨env1, l1, k0, kt, k1⟩ := he xs[i] (List.getElem_mem hlt) (.lst (((xs.take i).filter p).map f) :: l)
    have et : xs.take (i + 1) = xs.take i ++ [xs[i]] := by
      rw [List.take_add_one, List.getElem?_eq_getElem hlt]
      rfl
    have hl : (((xs.take i).filter p).map f).length < 100000 := by
      rw [List.length_map]
      have := List.length_filter_le p (xs.take i)
      rw [List.length_take] at this
      omega
    cases hp : p xs[i] with
    | true =>
      have k1 := k1 hp
      obtain ⟨l2, k2⟩ := ih (i + 1) (l ++ l1) (by omega)
      rw [et, List.filter_append, List.map_append, List.filter_cons, if_pos hp] at k2
      rw [List.filter_nil, List.map_singleton] at k2
      rw [List.cons_append] at k1
      have hget : (st ++ (Cell.lst (((xs.take i).filter p).map f) :: (l ++ l1)))[st.length]? = some (.lst (((xs.take i).filter p).map f)) := by rw [at_0]; rfl
      refine ⟨l2, ?_⟩
      rw [← k2]
      rw [hp] at kt
      simp only [lcGo, hf, k0, kt, R.noEr_ok, R.bind_ok, ↓reduceIte, k1, hget, hl, set_at]
    | false =>
      obtain ⟨l2, k2⟩ := ih (i + 1) l (by omega)
      rw [et, List.filter_append, List.map_append, List.filter_cons, if_neg (by rw [hp]; exact Bool.false_ne_true)] at k2
      rw [List.filter_nil, List.map_nil, List.append_nil] at k2
      refine ⟨l2, ?_⟩
      rw [← k2]
      rw [hp] at kt
      simp only [lcGo, hf, k0, kt, R.noEr_ok, R.bind_ok, ↓reduceIte, Bool.false_eq_true]
/-- a comprehension with a test -/
theorem dLc_gen2 {it : MI} {fd : Feed} {vs : List Nat} {g : MG} {t : MT} {env env' : Ev} {e : ME} {f : α → D} {p : α → Bool} (hit : it env st = .ok (fd, xs.length) st) (hw : wipeD env vs = env' := by rfl) (hfd : ∀ l i, fd i (st ++ l) = some (xs.map en)[i]?) (hz : xs.length ≤ 99999)
    (he : ∀ d ∈ xs, ∀ l, ∃ env1 l', g (en d) env' (st ++ l) = .ok env1 (st ++ l) ∧ t env1 (st ++ l) = .ok (p d) (st ++ l) ∧ (p d = true → e env1 (st ++ l) = .ok (f d) (st ++ (l ++ l')))) : ∃ l', dLc it vs g t e env st = .ok (.ref st.length) (st ++ .lst ((xs.filter p).map f) :: l') := by
  obtain ⟨l', k⟩ := lc_gen2 (vs := vs) hfd hz he xs.length 0 [] (by omega)
  refine ⟨l', ?_⟩
  subst hw
  unfold dLc
  rw [hit]
  exact k
/-- the walked thing made anew -/
theorem dLc_gen1S {st0 : Sto} {it : MI} {fd : Feed} {vs : List Nat} {g : MG} {env env' : Ev} {e : ME} {f : α → D} (hit : it env st0 = .ok (fd, xs.length) st) (hw : wipeD env vs = env' := by rfl) (hfd : ∀ l i, fd i (st ++ l) = some (xs.map en)[i]?) (hz : xs.length ≤ 99999)
    (he : ∀ d ∈ xs, ∀ l, ∃ env1 l', g (en d) env' (st ++ l) = .ok env1 (st ++ l) ∧ e env1 (st ++ l) = .ok (f d) (st ++ (l ++ l'))) : ∃ l', dLc it vs g tYesD e env st0 = .ok (.ref st.length) (st ++ .lst (xs.map f) :: l') := by
  obtain ⟨l', k⟩ := lc_gen2 (vs := vs) (t := tYesD) (e := e) (p := fun _ => true) (f := f) (g := g) (env := env') hfd hz (fun d hd l => by
    obtain ⟨env1, l', k0, k1⟩ := he d hd l
    exact ⟨env1, l', k0, rfl, fun _ => k1⟩) xs.length 0 [] (by omega)
  refine ⟨l', ?_⟩
  subst hw
  unfold dLc
  rw [hit]
  have e2 : (xs.filter fun _ => true) = xs := List.filter_eq_self.mpr fun _ _ => rfl
  rw [List.take_zero, List.filter_nil, List.map_nil, e2] at k
  exact k
/-- without one -/
theorem dLc_gen1 {it : MI} {fd : Feed} {vs : List Nat} {g : MG} {env env' : Ev} {e : ME} {f : α → D} (hit : it env st = .ok (fd, xs.length) st) (hw : wipeD env vs = env' := by rfl) (hfd : ∀ l i, fd i (st ++ l) = some (xs.map en)[i]?) (hz : xs.length ≤ 99999)
    (he : ∀ d ∈ xs, ∀ l, ∃ env1 l', g (en d) env' (st ++ l) = .ok env1 (st ++ l) ∧ e env1 (st ++ l) = .ok (f d) (st ++ (l ++ l'))) : ∃ l', dLc it vs g tYesD e env st = .ok (.ref st.length) (st ++ .lst (xs.map f) :: l') := by
  obtain ⟨l', k⟩ := dLc_gen2 (vs := vs) (t := tYesD) (e := e) (p := fun _ => true) hit hw hfd hz fun d hd l => by
    obtain ⟨env1, l', k0, k1⟩ := he d hd l
    exact ⟨env1, l', k0, rfl, fun _ => k1⟩
  refine ⟨l', ?_⟩
  rw [k]
  rw [List.filter_eq_self.mpr fun _ _ => rfl]
/-- a loop keeps what each turn keeps -/
theorem for_gen {fd : Feed} {g : MG} {b : MS} (I : Nat → Ev → Sto → Prop) (hfd : ∀ i env st, I i env st → fd i st = some (xs.map en)[i]?)
    (step : ∀ (i : Nat) (h : i < xs.length) (env : Ev) (st : Sto), I i env st → ∃ env' st', (g (en xs[i]) env st).toS b = .nx env' st' ∧ I (i + 1) env' st') : ∀ (n i : Nat) (env : Ev) (st : Sto), i + n = xs.length → I i env st →
    ∃ env' st', sForF fd g b n i env st = .nx env' st' ∧ I xs.length env' st' := by
  intro n
  induction n with
  | zero =>
    intro i env st hi h
    have ei : i = xs.length := by omega
    subst ei
    have hf := hfd _ env st h
    rw [List.getElem?_eq_none (by rw [List.length_map]; exact Nat.le_refl _)] at hf
    refine ⟨env, st, ?_, h⟩
    simp only [sForF, hf]
  | succ n ih =>
    intro i env st hi h
    have hlt : i < xs.length := by omega
    have hf := hfd i env st h
    rw [List.getElem?_map, List.getElem?_eq_getElem hlt, Option.map_some] at hf
    obtain ⟨env1, st1, k1, h1⟩ := step i hlt env st h
    obtain ⟨env2, st2, k2, h2⟩ := ih (i + 1) env1 st1 (by omega) h1
    refine ⟨env2, st2, ?_, h2⟩
    simp only [sForF, hf, k1, O.loop]
    exact k2
theorem sFor_gen {it : MI} {fd : Feed} {g : MG} {b : MS} (I : Nat → Ev → Sto → Prop) {env : Ev} (hit : it env st = .ok (fd, xs.length) st) (h0 : I 0 env st) (hfd : ∀ i env st, I i env st → fd i st = some (xs.map en)[i]?)
    (step : ∀ (i : Nat) (h : i < xs.length) (env : Ev) (st : Sto), I i env st → ∃ env' st', (g (en xs[i]) env st).toS b = .nx env' st' ∧ I (i + 1) env' st') : ∃ env' st', sFor it g b env st = .nx env' st' ∧ I xs.length env' st' := by
  obtain ⟨env', st', k, h⟩ := for_gen I hfd step xs.length 0 env st (by omega) h0
  refine ⟨env', st', ?_, h⟩
  unfold sFor
  rw [hit]
  exact k
/-- a loop that may return -/
theorem for_find {fd : Feed} {g : MG} {b : MS} (I : Nat → Ev → Sto → Prop) (J : Sto → Prop) (p : α → Bool) (ret : α → D) (hfd : ∀ i env st, I i env st → fd i st = some (xs.map en)[i]?)
    (step : ∀ (i : Nat) (h : i < xs.length) (env : Ev) (st : Sto), I i env st → (p xs[i] = false → ∃ env' st', (g (en xs[i]) env st).toS b = .nx env' st' ∧ I (i + 1) env' st') ∧ (p xs[i] = true → ∃ st', (g (en xs[i]) env st).toS b = .rt (ret xs[i]) st' ∧ J st')) : ∀ (n i : Nat) (env : Ev) (st : Sto), i + n = xs.length → I i env st →
    ((xs.drop i).find? p = none ∧ ∃ env' st', sForF fd g b n i env st = .nx env' st' ∧ I xs.length env' st') ∨ (∃ x st', (xs.drop i).find? p = some x ∧ sForF fd g b n i env st = .rt (ret x) st' ∧ J st') := by
  intro n
  induction n with
  | zero =>
    intro i env st hi h
    have ei : i = xs.length := by omega
    subst ei
    have hf := hfd _ env st h
    rw [List.getElem?_eq_none (by rw [List.length_map]; exact Nat.le_refl _)] at hf
    refine .inl ⟨by rw [List.drop_length]; rfl, env, st, ?_, h⟩
    simp only [sForF, hf]
  | succ n ih =>
    intro i env st hi h
    have hlt : i < xs.length := by omega
    have hf := hfd i env st h
    rw [List.getElem?_map, List.getElem?_eq_getElem hlt, Option.map_some] at hf
    obtain ⟨s1, s2⟩ := step i hlt env st h
    rw [List.drop_eq_getElem_cons hlt, List.find?_cons]
    cases hp : p xs[i] with
    | true =>
      obtain ⟨st1, k1, j1⟩ := s2 hp
      refine .inr ⟨_, st1, rfl, ?_, j1⟩
      simp only [sForF, hf, k1, O.loop]
    | false =>
      obtain ⟨env1, st1, k1, h1⟩ := s1 hp
      rcases ih (i + 1) env1 st1 (by omega) h1 with ⟨e, env2, st2, k2, h2⟩ | ⟨x, st2, e, k2, j2⟩
      · refine .inl ⟨e, env2, st2, ?_, h2⟩
        simp only [sForF, hf, k1, O.loop]
        exact k2
      · refine .inr ⟨x, st2, e, ?_, j2⟩
        simp only [sForF, hf, k1, O.loop]
        exact k2
theorem sFor_find {it : MI} {fd : Feed} {g : MG} {b : MS} {st0 : Sto} (I : Nat → Ev → Sto → Prop) (J : Sto → Prop) (p : α → Bool) (ret : α → D) {env : Ev} (hit : it env st0 = .ok (fd, xs.length) st) (h0 : I 0 env st) (hfd : ∀ i env st, I i env st → fd i st = some (xs.map en)[i]?)
    (step : ∀ (i : Nat) (h : i < xs.length) (env : Ev) (st : Sto), I i env st → (p xs[i] = false → ∃ env' st', (g (en xs[i]) env st).toS b = .nx env' st' ∧ I (i + 1) env' st') ∧ (p xs[i] = true → ∃ st', (g (en xs[i]) env st).toS b = .rt (ret xs[i]) st' ∧ J st')) :
    (xs.find? p = none ∧ ∃ env' st', sFor it g b env st0 = .nx env' st' ∧ I xs.length env' st') ∨ (∃ x st', xs.find? p = some x ∧ sFor it g b env st0 = .rt (ret x) st' ∧ J st') := by
  have h := for_find I J p ret hfd step xs.length 0 env st (by omega) h0
  rw [List.drop_zero] at h
  unfold sFor
  rw [hit]
  exact h
theorem seq_nx {a b : MS} {env e' : Ev} {st s' : Sto} (h : a env st = .nx e' s') : (sSeq a b) env st = b e' s' := by
  show (a env st).thn b = _
  rw [h]
  rfl
theorem rng_feed (n : Nat) (st : Sto) (i : Nat) : rngFeed 0 n i st = some ((List.range n).map fun (k : Nat) => D.int (k : Int))[i]? := by
  unfold rngFeed
  by_cases h : i < n
  · rw [if_pos h, List.getElem?_map, List.getElem?_range h, Int.zero_add]
    rfl
  · rw [if_neg h, List.getElem?_eq_none (by rw [List.length_map, List.length_range]; omega)]
theorem rngC_feed (lo c : Int) (n : Nat) (st : Sto) (i : Nat) : rngCFeed lo c n i st = some ((List.range n).map fun (k : Nat) => D.int (lo + (k : Nat) * c))[i]? := by
  unfold rngCFeed
  by_cases h : i < n
  · rw [if_pos h, List.getElem?_map, List.getElem?_range h]
    rfl
  · rw [if_neg h, List.getElem?_eq_none (by rw [List.length_map, List.length_range]; omega)]
theorem rng_feed1 (lo : Int) (n : Nat) (st : Sto) (i : Nat) : rngFeed lo n i st = some ((List.range n).map fun (k : Nat) => D.int (lo + (k : Int)))[i]? := by
  unfold rngFeed
  by_cases h : i < n
  · rw [if_pos h, List.getElem?_map, List.getElem?_range h]
    rfl
  · rw [if_neg h, List.getElem?_eq_none (by rw [List.length_map, List.length_range]; omega)]
end Dn

set_option Elab.async false
set_option linter.all false
set_option maxRecDepth 100000
set_option maxHeartbeats 8000000
namespace Pk
open PySem PySem.Spec PyProof.Rows L2 Dn Dt Hh
theorem binY {f : F2} {a b : ME} {env : Ev} {st s1 s2 : Sto} {x y : D} {r : R D} (h1 : a env st = .ok x s1) (h2 : b env s1 = .ok y s2) (h3 : f x y s2 = r) : (dBin f a b) env st = r := by
  unfold dBin
  rw [h1, R.bind_ok, h2, R.bind_ok]
  exact h3
theorem call1Y {f : FN} {a : ME} {env : Ev} {st s1 : Sto} {x : D} (h : a env st = .ok x s1) : (dCall f (aCons a aNil)) env st = f [x] s1 := by
  unfold dCall aCons aNil
  rw [h]
  rfl
theorem call2Y {f : FN} {a b : ME} {env : Ev} {st s1 s2 : Sto} {x y : D} (h : a env st = .ok x s1) (h2 : b env s1 = .ok y s2) : (dCall f (aCons a (aCons b aNil))) env st = f [x, y] s2 := by
  have e : (aCons a (aCons b aNil)) env st = .ok [x, y] s2 := by
    unfold aCons aNil
    simp only [h, h2, R.bind_ok]
  unfold dCall
  rw [e]
  rfl
theorem ixY {i : Nat} {j : Int} {env : Ev} {st : Sto} {x : D} {r : R D} (hi : env[i]? = some (some x)) (h : ixD x (.int j) st = r) : (dBin ixD (dVar i) (dC (.int j))) env st = r := by
  unfold dBin dVar dC
  rw [hi]
  exact h
theorem ifY_t {t : MT} {a b : MS} {env : Ev} {st s1 : Sto} (h : t env st = .ok true s1) : (sIf t a b) env st = a env s1 := by unfold sIf; rw [h]; rfl
theorem ifY_f {t : MT} {a b : MS} {env : Ev} {st s1 : Sto} (h : t env st = .ok false s1) : (sIf t a b) env st = b env s1 := by unfold sIf; rw [h]; rfl
theorem asgY {a : ME} {i : Nat} {env : Ev} {st s1 : Sto} {x : D} (h : a env st = .ok x s1) : (sAsg a (mName i)) env st = .nx (env.set i (some x)) s1 := by unfold sAsg; rw [h]; rfl
theorem args1Y {a : ME} {env : Ev} {s0 s1 : Sto} {x : D} (h1 : a env s0 = .ok x s1) : (aCons a aNil) env s0 = .ok [x] s1 := by
  unfold aCons aNil
  simp only [h1, R.bind_ok]
theorem args3Y {a b c : ME} {env : Ev} {s0 s1 s2 s3 : Sto} {x y z : D} (h1 : a env s0 = .ok x s1) (h2 : b env s1 = .ok y s2) (h3 : c env s2 = .ok z s3) : (aCons a (aCons b (aCons c aNil))) env s0 = .ok [x, y, z] s3 := by
  unfold aCons aNil
  simp only [h1, h2, h3, R.bind_ok]
theorem args2Y {a b : ME} {env : Ev} {s0 s1 s2 : Sto} {x y : D} (h1 : a env s0 = .ok x s1) (h2 : b env s1 = .ok y s2) : (aCons a (aCons b aNil)) env s0 = .ok [x, y] s2 := by
  unfold aCons aNil
  simp only [h1, h2, R.bind_ok]
theorem tupY {as : MA} {env : Ev} {st s1 : Sto} {xs : List D} (h : as env st = .ok xs s1) (hl : xs.length ≤ 100000 := by exact Nat.le_of_ble_eq_true rfl) : (dTup as) env st = .ok (.tup xs) s1 := by
  unfold dTup
  rw [h, R.bind_ok, if_pos hl]
theorem ifN {t : MT} {a : MS} {env : Ev} {st s1 : Sto} (h : t env st = .ok false s1) : (sIf t a sNext) env st = .nx env s1 := by unfold sIf; rw [h]; rfl
theorem varY {i : Nat} {env : Ev} {st : Sto} {d : D} (h : env[i]? = some (some d)) : (dVar i) env st = .ok d st := by unfold dVar; rw [h]
theorem tvalY {a : ME} {env : Ev} {st s1 : Sto} {b : Bool} (h : a env st = .ok (.bl b) s1) : (tVal a) env st = .ok b s1 := by unfold tVal; rw [h]; rfl
theorem orY {t1 t2 : MT} {env : Ev} {st s1 s2 : Sto} (h1 : t1 env st = .ok false s1) (h2 : t2 env s1 = .ok false s2) : (tOrD t1 t2) env st = .ok false s2 := by
  unfold tOrD
  rw [h1]
  exact h2
theorem andY_f {t1 t2 : MT} {env : Ev} {st s1 : Sto} (h : t1 env st = .ok false s1) : (tAndD t1 t2) env st = .ok false s1 := by unfold tAndD; rw [h]; rfl
theorem andY_t {t1 t2 : MT} {env : Ev} {st s1 : Sto} (h : t1 env st = .ok true s1) : (tAndD t1 t2) env st = t2 env s1 := by unfold tAndD; rw [h]; rfl

theorem truY {a : ME} {env : Ev} {st s1 : Sto} {b : Bool} (h : a env st = .ok (.bl b) s1) : (tTru a) env st = .ok b s1 := by unfold tTru; rw [h]; rfl
theorem notY {t : MT} {env : Ev} {st s1 : Sto} {b : Bool} (h : t env st = .ok b s1) : (tNotD t) env st = .ok (!b) s1 := by unfold tNotD; rw [h]; rfl
/-! ### what the calls raise -/
def erIs (k : Nat) : R D → Bool
  | .er n _ => decide (n = k)
  | _ => false
theorem erIs_at {k : Nat} {r : R D} (h : erIs k r = true) : ∃ l, r = .er k l := by
  cases r with
  | er n l => exact ⟨l, by rw [show n = k from of_decide_eq_true h]⟩
  | ok _ _ => cases h
  | no => cases h
def gr1 (n : Nat) : D := .int (11 + (n : Int))
def arF (g : D) : D := .tup [.tup [.str "add", .tup [g, .int 1]]]
theorem chk_form : ((List.range 90).all fun n => erIs 0 (M_form [arF (gr1 n)] [])) = true := by decide +kernel
theorem chk_value : ((List.range 90).all fun n => erIs 1 (M_value [.tup [], gr1 n] [])) = true := by decide +kernel
theorem chk_left : ((List.range 90).all fun n => erIs 2 (M_left_out [.tup [], gr1 n] [])) = true := by decide +kernel
theorem r_form {n : Nat} (h : n < 90) (st : Sto) : P_form [arF (gr1 n)] st = .er 0 st := by
  obtain ⟨l, k⟩ := erIs_at (List.all_eq_true.mp chk_form n (List.mem_range.mpr h))
  exact pure_er k st rfl
theorem r_value {n : Nat} (h : n < 90) (st : Sto) : P_value [.tup [], gr1 n] st = .er 1 st := by
  obtain ⟨l, k⟩ := erIs_at (List.all_eq_true.mp chk_value n (List.mem_range.mpr h))
  exact pure_er k st rfl
theorem r_left {n : Nat} (h : n < 90) (st : Sto) : P_left_out [.tup [], gr1 n] st = .er 2 st := by
  obtain ⟨l, k⟩ := erIs_at (List.all_eq_true.mp chk_left n (List.mem_range.mpr h))
  exact pure_er k st rfl
def four : D := .tup [.tup [.str "add", .tup [.int 1, .int 1]], .tup [.str "add", .tup [.int 1, .int 1]], .tup [.str "add", .tup [.int 1, .int 1]], .tup [.str "add", .tup [.int 1, .int 1]]]
theorem chk_joined : erIs 4 (M_joined [four, four] []) = true := by decide +kernel
theorem r_joined (st : Sto) : P_joined [four, four] st = .er 4 st := by
  obtain ⟨l, k⟩ := erIs_at chk_joined
  exact pure_er k st rfl
section
variable {x0 x1 x2 x4 x5 x6 : Option D} {st : Sto}
theorem r_parse_0 : (dCall (dFn 1 P_parse_chain) (aCons (dBin addD (dC (.str "add ")) (dCall strD (aCons (dVar 3) aNil))) aNil)) [x0, x1, x2, some (.int 11), x4, x5, x6] st = .er 3 st := by kernel_rfl
theorem r_parse_1 : (dCall (dFn 1 P_parse_chain) (aCons (dBin addD (dC (.str "add ")) (dCall strD (aCons (dVar 3) aNil))) aNil)) [x0, x1, x2, some (.int 12), x4, x5, x6] st = .er 3 st := by kernel_rfl
theorem r_parse_2 : (dCall (dFn 1 P_parse_chain) (aCons (dBin addD (dC (.str "add ")) (dCall strD (aCons (dVar 3) aNil))) aNil)) [x0, x1, x2, some (.int 13), x4, x5, x6] st = .er 3 st := by kernel_rfl
theorem r_parse_3 : (dCall (dFn 1 P_parse_chain) (aCons (dBin addD (dC (.str "add ")) (dCall strD (aCons (dVar 3) aNil))) aNil)) [x0, x1, x2, some (.int 14), x4, x5, x6] st = .er 3 st := by kernel_rfl
theorem r_parse_4 : (dCall (dFn 1 P_parse_chain) (aCons (dBin addD (dC (.str "add ")) (dCall strD (aCons (dVar 3) aNil))) aNil)) [x0, x1, x2, some (.int 15), x4, x5, x6] st = .er 3 st := by kernel_rfl
theorem r_parse_5 : (dCall (dFn 1 P_parse_chain) (aCons (dBin addD (dC (.str "add ")) (dCall strD (aCons (dVar 3) aNil))) aNil)) [x0, x1, x2, some (.int 16), x4, x5, x6] st = .er 3 st := by kernel_rfl
theorem r_parse_6 : (dCall (dFn 1 P_parse_chain) (aCons (dBin addD (dC (.str "add ")) (dCall strD (aCons (dVar 3) aNil))) aNil)) [x0, x1, x2, some (.int 17), x4, x5, x6] st = .er 3 st := by kernel_rfl
theorem r_parse_7 : (dCall (dFn 1 P_parse_chain) (aCons (dBin addD (dC (.str "add ")) (dCall strD (aCons (dVar 3) aNil))) aNil)) [x0, x1, x2, some (.int 18), x4, x5, x6] st = .er 3 st := by kernel_rfl
theorem r_parse_8 : (dCall (dFn 1 P_parse_chain) (aCons (dBin addD (dC (.str "add ")) (dCall strD (aCons (dVar 3) aNil))) aNil)) [x0, x1, x2, some (.int 19), x4, x5, x6] st = .er 3 st := by kernel_rfl
theorem r_parse_9 : (dCall (dFn 1 P_parse_chain) (aCons (dBin addD (dC (.str "add ")) (dCall strD (aCons (dVar 3) aNil))) aNil)) [x0, x1, x2, some (.int 20), x4, x5, x6] st = .er 3 st := by kernel_rfl
theorem r_parse_10 : (dCall (dFn 1 P_parse_chain) (aCons (dBin addD (dC (.str "add ")) (dCall strD (aCons (dVar 3) aNil))) aNil)) [x0, x1, x2, some (.int 21), x4, x5, x6] st = .er 3 st := by kernel_rfl
theorem r_parse_11 : (dCall (dFn 1 P_parse_chain) (aCons (dBin addD (dC (.str "add ")) (dCall strD (aCons (dVar 3) aNil))) aNil)) [x0, x1, x2, some (.int 22), x4, x5, x6] st = .er 3 st := by kernel_rfl
theorem r_parse_12 : (dCall (dFn 1 P_parse_chain) (aCons (dBin addD (dC (.str "add ")) (dCall strD (aCons (dVar 3) aNil))) aNil)) [x0, x1, x2, some (.int 23), x4, x5, x6] st = .er 3 st := by kernel_rfl
theorem r_parse_13 : (dCall (dFn 1 P_parse_chain) (aCons (dBin addD (dC (.str "add ")) (dCall strD (aCons (dVar 3) aNil))) aNil)) [x0, x1, x2, some (.int 24), x4, x5, x6] st = .er 3 st := by kernel_rfl
theorem r_parse_14 : (dCall (dFn 1 P_parse_chain) (aCons (dBin addD (dC (.str "add ")) (dCall strD (aCons (dVar 3) aNil))) aNil)) [x0, x1, x2, some (.int 25), x4, x5, x6] st = .er 3 st := by kernel_rfl
theorem r_parse_15 : (dCall (dFn 1 P_parse_chain) (aCons (dBin addD (dC (.str "add ")) (dCall strD (aCons (dVar 3) aNil))) aNil)) [x0, x1, x2, some (.int 26), x4, x5, x6] st = .er 3 st := by kernel_rfl
theorem r_parse_16 : (dCall (dFn 1 P_parse_chain) (aCons (dBin addD (dC (.str "add ")) (dCall strD (aCons (dVar 3) aNil))) aNil)) [x0, x1, x2, some (.int 27), x4, x5, x6] st = .er 3 st := by kernel_rfl
theorem r_parse_17 : (dCall (dFn 1 P_parse_chain) (aCons (dBin addD (dC (.str "add ")) (dCall strD (aCons (dVar 3) aNil))) aNil)) [x0, x1, x2, some (.int 28), x4, x5, x6] st = .er 3 st := by kernel_rfl
theorem r_parse_18 : (dCall (dFn 1 P_parse_chain) (aCons (dBin addD (dC (.str "add ")) (dCall strD (aCons (dVar 3) aNil))) aNil)) [x0, x1, x2, some (.int 29), x4, x5, x6] st = .er 3 st := by kernel_rfl
theorem r_parse_19 : (dCall (dFn 1 P_parse_chain) (aCons (dBin addD (dC (.str "add ")) (dCall strD (aCons (dVar 3) aNil))) aNil)) [x0, x1, x2, some (.int 30), x4, x5, x6] st = .er 3 st := by kernel_rfl
theorem r_parse_20 : (dCall (dFn 1 P_parse_chain) (aCons (dBin addD (dC (.str "add ")) (dCall strD (aCons (dVar 3) aNil))) aNil)) [x0, x1, x2, some (.int 31), x4, x5, x6] st = .er 3 st := by kernel_rfl
theorem r_parse_21 : (dCall (dFn 1 P_parse_chain) (aCons (dBin addD (dC (.str "add ")) (dCall strD (aCons (dVar 3) aNil))) aNil)) [x0, x1, x2, some (.int 32), x4, x5, x6] st = .er 3 st := by kernel_rfl
theorem r_parse_22 : (dCall (dFn 1 P_parse_chain) (aCons (dBin addD (dC (.str "add ")) (dCall strD (aCons (dVar 3) aNil))) aNil)) [x0, x1, x2, some (.int 33), x4, x5, x6] st = .er 3 st := by kernel_rfl
theorem r_parse_23 : (dCall (dFn 1 P_parse_chain) (aCons (dBin addD (dC (.str "add ")) (dCall strD (aCons (dVar 3) aNil))) aNil)) [x0, x1, x2, some (.int 34), x4, x5, x6] st = .er 3 st := by kernel_rfl
theorem r_parse_24 : (dCall (dFn 1 P_parse_chain) (aCons (dBin addD (dC (.str "add ")) (dCall strD (aCons (dVar 3) aNil))) aNil)) [x0, x1, x2, some (.int 35), x4, x5, x6] st = .er 3 st := by kernel_rfl
theorem r_parse_25 : (dCall (dFn 1 P_parse_chain) (aCons (dBin addD (dC (.str "add ")) (dCall strD (aCons (dVar 3) aNil))) aNil)) [x0, x1, x2, some (.int 36), x4, x5, x6] st = .er 3 st := by kernel_rfl
theorem r_parse_26 : (dCall (dFn 1 P_parse_chain) (aCons (dBin addD (dC (.str "add ")) (dCall strD (aCons (dVar 3) aNil))) aNil)) [x0, x1, x2, some (.int 37), x4, x5, x6] st = .er 3 st := by kernel_rfl
theorem r_parse_27 : (dCall (dFn 1 P_parse_chain) (aCons (dBin addD (dC (.str "add ")) (dCall strD (aCons (dVar 3) aNil))) aNil)) [x0, x1, x2, some (.int 38), x4, x5, x6] st = .er 3 st := by kernel_rfl
theorem r_parse_28 : (dCall (dFn 1 P_parse_chain) (aCons (dBin addD (dC (.str "add ")) (dCall strD (aCons (dVar 3) aNil))) aNil)) [x0, x1, x2, some (.int 39), x4, x5, x6] st = .er 3 st := by kernel_rfl
theorem r_parse_29 : (dCall (dFn 1 P_parse_chain) (aCons (dBin addD (dC (.str "add ")) (dCall strD (aCons (dVar 3) aNil))) aNil)) [x0, x1, x2, some (.int 40), x4, x5, x6] st = .er 3 st := by kernel_rfl
theorem r_parse_30 : (dCall (dFn 1 P_parse_chain) (aCons (dBin addD (dC (.str "add ")) (dCall strD (aCons (dVar 3) aNil))) aNil)) [x0, x1, x2, some (.int 41), x4, x5, x6] st = .er 3 st := by kernel_rfl
theorem r_parse_31 : (dCall (dFn 1 P_parse_chain) (aCons (dBin addD (dC (.str "add ")) (dCall strD (aCons (dVar 3) aNil))) aNil)) [x0, x1, x2, some (.int 42), x4, x5, x6] st = .er 3 st := by kernel_rfl
theorem r_parse_32 : (dCall (dFn 1 P_parse_chain) (aCons (dBin addD (dC (.str "add ")) (dCall strD (aCons (dVar 3) aNil))) aNil)) [x0, x1, x2, some (.int 43), x4, x5, x6] st = .er 3 st := by kernel_rfl
theorem r_parse_33 : (dCall (dFn 1 P_parse_chain) (aCons (dBin addD (dC (.str "add ")) (dCall strD (aCons (dVar 3) aNil))) aNil)) [x0, x1, x2, some (.int 44), x4, x5, x6] st = .er 3 st := by kernel_rfl
theorem r_parse_34 : (dCall (dFn 1 P_parse_chain) (aCons (dBin addD (dC (.str "add ")) (dCall strD (aCons (dVar 3) aNil))) aNil)) [x0, x1, x2, some (.int 45), x4, x5, x6] st = .er 3 st := by kernel_rfl
theorem r_parse_35 : (dCall (dFn 1 P_parse_chain) (aCons (dBin addD (dC (.str "add ")) (dCall strD (aCons (dVar 3) aNil))) aNil)) [x0, x1, x2, some (.int 46), x4, x5, x6] st = .er 3 st := by kernel_rfl
theorem r_parse_36 : (dCall (dFn 1 P_parse_chain) (aCons (dBin addD (dC (.str "add ")) (dCall strD (aCons (dVar 3) aNil))) aNil)) [x0, x1, x2, some (.int 47), x4, x5, x6] st = .er 3 st := by kernel_rfl
theorem r_parse_37 : (dCall (dFn 1 P_parse_chain) (aCons (dBin addD (dC (.str "add ")) (dCall strD (aCons (dVar 3) aNil))) aNil)) [x0, x1, x2, some (.int 48), x4, x5, x6] st = .er 3 st := by kernel_rfl
theorem r_parse_38 : (dCall (dFn 1 P_parse_chain) (aCons (dBin addD (dC (.str "add ")) (dCall strD (aCons (dVar 3) aNil))) aNil)) [x0, x1, x2, some (.int 49), x4, x5, x6] st = .er 3 st := by kernel_rfl
theorem r_parse_39 : (dCall (dFn 1 P_parse_chain) (aCons (dBin addD (dC (.str "add ")) (dCall strD (aCons (dVar 3) aNil))) aNil)) [x0, x1, x2, some (.int 50), x4, x5, x6] st = .er 3 st := by kernel_rfl
theorem r_parse_40 : (dCall (dFn 1 P_parse_chain) (aCons (dBin addD (dC (.str "add ")) (dCall strD (aCons (dVar 3) aNil))) aNil)) [x0, x1, x2, some (.int 51), x4, x5, x6] st = .er 3 st := by kernel_rfl
theorem r_parse_41 : (dCall (dFn 1 P_parse_chain) (aCons (dBin addD (dC (.str "add ")) (dCall strD (aCons (dVar 3) aNil))) aNil)) [x0, x1, x2, some (.int 52), x4, x5, x6] st = .er 3 st := by kernel_rfl
theorem r_parse_42 : (dCall (dFn 1 P_parse_chain) (aCons (dBin addD (dC (.str "add ")) (dCall strD (aCons (dVar 3) aNil))) aNil)) [x0, x1, x2, some (.int 53), x4, x5, x6] st = .er 3 st := by kernel_rfl
theorem r_parse_43 : (dCall (dFn 1 P_parse_chain) (aCons (dBin addD (dC (.str "add ")) (dCall strD (aCons (dVar 3) aNil))) aNil)) [x0, x1, x2, some (.int 54), x4, x5, x6] st = .er 3 st := by kernel_rfl
theorem r_parse_44 : (dCall (dFn 1 P_parse_chain) (aCons (dBin addD (dC (.str "add ")) (dCall strD (aCons (dVar 3) aNil))) aNil)) [x0, x1, x2, some (.int 55), x4, x5, x6] st = .er 3 st := by kernel_rfl
theorem r_parse_45 : (dCall (dFn 1 P_parse_chain) (aCons (dBin addD (dC (.str "add ")) (dCall strD (aCons (dVar 3) aNil))) aNil)) [x0, x1, x2, some (.int 56), x4, x5, x6] st = .er 3 st := by kernel_rfl
theorem r_parse_46 : (dCall (dFn 1 P_parse_chain) (aCons (dBin addD (dC (.str "add ")) (dCall strD (aCons (dVar 3) aNil))) aNil)) [x0, x1, x2, some (.int 57), x4, x5, x6] st = .er 3 st := by kernel_rfl
theorem r_parse_47 : (dCall (dFn 1 P_parse_chain) (aCons (dBin addD (dC (.str "add ")) (dCall strD (aCons (dVar 3) aNil))) aNil)) [x0, x1, x2, some (.int 58), x4, x5, x6] st = .er 3 st := by kernel_rfl
theorem r_parse_48 : (dCall (dFn 1 P_parse_chain) (aCons (dBin addD (dC (.str "add ")) (dCall strD (aCons (dVar 3) aNil))) aNil)) [x0, x1, x2, some (.int 59), x4, x5, x6] st = .er 3 st := by kernel_rfl
theorem r_parse_49 : (dCall (dFn 1 P_parse_chain) (aCons (dBin addD (dC (.str "add ")) (dCall strD (aCons (dVar 3) aNil))) aNil)) [x0, x1, x2, some (.int 60), x4, x5, x6] st = .er 3 st := by kernel_rfl
theorem r_parse_50 : (dCall (dFn 1 P_parse_chain) (aCons (dBin addD (dC (.str "add ")) (dCall strD (aCons (dVar 3) aNil))) aNil)) [x0, x1, x2, some (.int 61), x4, x5, x6] st = .er 3 st := by kernel_rfl
theorem r_parse_51 : (dCall (dFn 1 P_parse_chain) (aCons (dBin addD (dC (.str "add ")) (dCall strD (aCons (dVar 3) aNil))) aNil)) [x0, x1, x2, some (.int 62), x4, x5, x6] st = .er 3 st := by kernel_rfl
theorem r_parse_52 : (dCall (dFn 1 P_parse_chain) (aCons (dBin addD (dC (.str "add ")) (dCall strD (aCons (dVar 3) aNil))) aNil)) [x0, x1, x2, some (.int 63), x4, x5, x6] st = .er 3 st := by kernel_rfl
theorem r_parse_53 : (dCall (dFn 1 P_parse_chain) (aCons (dBin addD (dC (.str "add ")) (dCall strD (aCons (dVar 3) aNil))) aNil)) [x0, x1, x2, some (.int 64), x4, x5, x6] st = .er 3 st := by kernel_rfl
theorem r_parse_54 : (dCall (dFn 1 P_parse_chain) (aCons (dBin addD (dC (.str "add ")) (dCall strD (aCons (dVar 3) aNil))) aNil)) [x0, x1, x2, some (.int 65), x4, x5, x6] st = .er 3 st := by kernel_rfl
theorem r_parse_55 : (dCall (dFn 1 P_parse_chain) (aCons (dBin addD (dC (.str "add ")) (dCall strD (aCons (dVar 3) aNil))) aNil)) [x0, x1, x2, some (.int 66), x4, x5, x6] st = .er 3 st := by kernel_rfl
theorem r_parse_56 : (dCall (dFn 1 P_parse_chain) (aCons (dBin addD (dC (.str "add ")) (dCall strD (aCons (dVar 3) aNil))) aNil)) [x0, x1, x2, some (.int 67), x4, x5, x6] st = .er 3 st := by kernel_rfl
theorem r_parse_57 : (dCall (dFn 1 P_parse_chain) (aCons (dBin addD (dC (.str "add ")) (dCall strD (aCons (dVar 3) aNil))) aNil)) [x0, x1, x2, some (.int 68), x4, x5, x6] st = .er 3 st := by kernel_rfl
theorem r_parse_58 : (dCall (dFn 1 P_parse_chain) (aCons (dBin addD (dC (.str "add ")) (dCall strD (aCons (dVar 3) aNil))) aNil)) [x0, x1, x2, some (.int 69), x4, x5, x6] st = .er 3 st := by kernel_rfl
theorem r_parse_59 : (dCall (dFn 1 P_parse_chain) (aCons (dBin addD (dC (.str "add ")) (dCall strD (aCons (dVar 3) aNil))) aNil)) [x0, x1, x2, some (.int 70), x4, x5, x6] st = .er 3 st := by kernel_rfl
theorem r_parse_60 : (dCall (dFn 1 P_parse_chain) (aCons (dBin addD (dC (.str "add ")) (dCall strD (aCons (dVar 3) aNil))) aNil)) [x0, x1, x2, some (.int 71), x4, x5, x6] st = .er 3 st := by kernel_rfl
theorem r_parse_61 : (dCall (dFn 1 P_parse_chain) (aCons (dBin addD (dC (.str "add ")) (dCall strD (aCons (dVar 3) aNil))) aNil)) [x0, x1, x2, some (.int 72), x4, x5, x6] st = .er 3 st := by kernel_rfl
theorem r_parse_62 : (dCall (dFn 1 P_parse_chain) (aCons (dBin addD (dC (.str "add ")) (dCall strD (aCons (dVar 3) aNil))) aNil)) [x0, x1, x2, some (.int 73), x4, x5, x6] st = .er 3 st := by kernel_rfl
theorem r_parse_63 : (dCall (dFn 1 P_parse_chain) (aCons (dBin addD (dC (.str "add ")) (dCall strD (aCons (dVar 3) aNil))) aNil)) [x0, x1, x2, some (.int 74), x4, x5, x6] st = .er 3 st := by kernel_rfl
theorem r_parse_64 : (dCall (dFn 1 P_parse_chain) (aCons (dBin addD (dC (.str "add ")) (dCall strD (aCons (dVar 3) aNil))) aNil)) [x0, x1, x2, some (.int 75), x4, x5, x6] st = .er 3 st := by kernel_rfl
theorem r_parse_65 : (dCall (dFn 1 P_parse_chain) (aCons (dBin addD (dC (.str "add ")) (dCall strD (aCons (dVar 3) aNil))) aNil)) [x0, x1, x2, some (.int 76), x4, x5, x6] st = .er 3 st := by kernel_rfl
theorem r_parse_66 : (dCall (dFn 1 P_parse_chain) (aCons (dBin addD (dC (.str "add ")) (dCall strD (aCons (dVar 3) aNil))) aNil)) [x0, x1, x2, some (.int 77), x4, x5, x6] st = .er 3 st := by kernel_rfl
theorem r_parse_67 : (dCall (dFn 1 P_parse_chain) (aCons (dBin addD (dC (.str "add ")) (dCall strD (aCons (dVar 3) aNil))) aNil)) [x0, x1, x2, some (.int 78), x4, x5, x6] st = .er 3 st := by kernel_rfl
theorem r_parse_68 : (dCall (dFn 1 P_parse_chain) (aCons (dBin addD (dC (.str "add ")) (dCall strD (aCons (dVar 3) aNil))) aNil)) [x0, x1, x2, some (.int 79), x4, x5, x6] st = .er 3 st := by kernel_rfl
theorem r_parse_69 : (dCall (dFn 1 P_parse_chain) (aCons (dBin addD (dC (.str "add ")) (dCall strD (aCons (dVar 3) aNil))) aNil)) [x0, x1, x2, some (.int 80), x4, x5, x6] st = .er 3 st := by kernel_rfl
theorem r_parse_70 : (dCall (dFn 1 P_parse_chain) (aCons (dBin addD (dC (.str "add ")) (dCall strD (aCons (dVar 3) aNil))) aNil)) [x0, x1, x2, some (.int 81), x4, x5, x6] st = .er 3 st := by kernel_rfl
theorem r_parse_71 : (dCall (dFn 1 P_parse_chain) (aCons (dBin addD (dC (.str "add ")) (dCall strD (aCons (dVar 3) aNil))) aNil)) [x0, x1, x2, some (.int 82), x4, x5, x6] st = .er 3 st := by kernel_rfl
theorem r_parse_72 : (dCall (dFn 1 P_parse_chain) (aCons (dBin addD (dC (.str "add ")) (dCall strD (aCons (dVar 3) aNil))) aNil)) [x0, x1, x2, some (.int 83), x4, x5, x6] st = .er 3 st := by kernel_rfl
theorem r_parse_73 : (dCall (dFn 1 P_parse_chain) (aCons (dBin addD (dC (.str "add ")) (dCall strD (aCons (dVar 3) aNil))) aNil)) [x0, x1, x2, some (.int 84), x4, x5, x6] st = .er 3 st := by kernel_rfl
theorem r_parse_74 : (dCall (dFn 1 P_parse_chain) (aCons (dBin addD (dC (.str "add ")) (dCall strD (aCons (dVar 3) aNil))) aNil)) [x0, x1, x2, some (.int 85), x4, x5, x6] st = .er 3 st := by kernel_rfl
theorem r_parse_75 : (dCall (dFn 1 P_parse_chain) (aCons (dBin addD (dC (.str "add ")) (dCall strD (aCons (dVar 3) aNil))) aNil)) [x0, x1, x2, some (.int 86), x4, x5, x6] st = .er 3 st := by kernel_rfl
theorem r_parse_76 : (dCall (dFn 1 P_parse_chain) (aCons (dBin addD (dC (.str "add ")) (dCall strD (aCons (dVar 3) aNil))) aNil)) [x0, x1, x2, some (.int 87), x4, x5, x6] st = .er 3 st := by kernel_rfl
theorem r_parse_77 : (dCall (dFn 1 P_parse_chain) (aCons (dBin addD (dC (.str "add ")) (dCall strD (aCons (dVar 3) aNil))) aNil)) [x0, x1, x2, some (.int 88), x4, x5, x6] st = .er 3 st := by kernel_rfl
theorem r_parse_78 : (dCall (dFn 1 P_parse_chain) (aCons (dBin addD (dC (.str "add ")) (dCall strD (aCons (dVar 3) aNil))) aNil)) [x0, x1, x2, some (.int 89), x4, x5, x6] st = .er 3 st := by kernel_rfl
theorem r_parse_79 : (dCall (dFn 1 P_parse_chain) (aCons (dBin addD (dC (.str "add ")) (dCall strD (aCons (dVar 3) aNil))) aNil)) [x0, x1, x2, some (.int 90), x4, x5, x6] st = .er 3 st := by kernel_rfl
theorem r_parse_80 : (dCall (dFn 1 P_parse_chain) (aCons (dBin addD (dC (.str "add ")) (dCall strD (aCons (dVar 3) aNil))) aNil)) [x0, x1, x2, some (.int 91), x4, x5, x6] st = .er 3 st := by kernel_rfl
theorem r_parse_81 : (dCall (dFn 1 P_parse_chain) (aCons (dBin addD (dC (.str "add ")) (dCall strD (aCons (dVar 3) aNil))) aNil)) [x0, x1, x2, some (.int 92), x4, x5, x6] st = .er 3 st := by kernel_rfl
theorem r_parse_82 : (dCall (dFn 1 P_parse_chain) (aCons (dBin addD (dC (.str "add ")) (dCall strD (aCons (dVar 3) aNil))) aNil)) [x0, x1, x2, some (.int 93), x4, x5, x6] st = .er 3 st := by kernel_rfl
theorem r_parse_83 : (dCall (dFn 1 P_parse_chain) (aCons (dBin addD (dC (.str "add ")) (dCall strD (aCons (dVar 3) aNil))) aNil)) [x0, x1, x2, some (.int 94), x4, x5, x6] st = .er 3 st := by kernel_rfl
theorem r_parse_84 : (dCall (dFn 1 P_parse_chain) (aCons (dBin addD (dC (.str "add ")) (dCall strD (aCons (dVar 3) aNil))) aNil)) [x0, x1, x2, some (.int 95), x4, x5, x6] st = .er 3 st := by kernel_rfl
theorem r_parse_85 : (dCall (dFn 1 P_parse_chain) (aCons (dBin addD (dC (.str "add ")) (dCall strD (aCons (dVar 3) aNil))) aNil)) [x0, x1, x2, some (.int 96), x4, x5, x6] st = .er 3 st := by kernel_rfl
theorem r_parse_86 : (dCall (dFn 1 P_parse_chain) (aCons (dBin addD (dC (.str "add ")) (dCall strD (aCons (dVar 3) aNil))) aNil)) [x0, x1, x2, some (.int 97), x4, x5, x6] st = .er 3 st := by kernel_rfl
theorem r_parse_87 : (dCall (dFn 1 P_parse_chain) (aCons (dBin addD (dC (.str "add ")) (dCall strD (aCons (dVar 3) aNil))) aNil)) [x0, x1, x2, some (.int 98), x4, x5, x6] st = .er 3 st := by kernel_rfl
theorem r_parse_88 : (dCall (dFn 1 P_parse_chain) (aCons (dBin addD (dC (.str "add ")) (dCall strD (aCons (dVar 3) aNil))) aNil)) [x0, x1, x2, some (.int 99), x4, x5, x6] st = .er 3 st := by kernel_rfl
theorem r_parse_89 : (dCall (dFn 1 P_parse_chain) (aCons (dBin addD (dC (.str "add ")) (dCall strD (aCons (dVar 3) aNil))) aNil)) [x0, x1, x2, some (.int 100), x4, x5, x6] st = .er 3 st := by kernel_rfl

theorem r_parse : ∀ (n : Nat), n < 90 → (dCall (dFn 1 P_parse_chain) (aCons (dBin addD (dC (.str "add ")) (dCall strD (aCons (dVar 3) aNil))) aNil)) [x0, x1, x2, some (gr1 n), x4, x5, x6] st = .er 3 st
  | 0, _ => r_parse_0
  | 1, _ => r_parse_1
  | 2, _ => r_parse_2
  | 3, _ => r_parse_3
  | 4, _ => r_parse_4
  | 5, _ => r_parse_5
  | 6, _ => r_parse_6
  | 7, _ => r_parse_7
  | 8, _ => r_parse_8
  | 9, _ => r_parse_9
  | 10, _ => r_parse_10
  | 11, _ => r_parse_11
  | 12, _ => r_parse_12
  | 13, _ => r_parse_13
  | 14, _ => r_parse_14
  | 15, _ => r_parse_15
  | 16, _ => r_parse_16
  | 17, _ => r_parse_17
  | 18, _ => r_parse_18
  | 19, _ => r_parse_19
  | 20, _ => r_parse_20
  | 21, _ => r_parse_21
  | 22, _ => r_parse_22
  | 23, _ => r_parse_23
  | 24, _ => r_parse_24
  | 25, _ => r_parse_25
  | 26, _ => r_parse_26
  | 27, _ => r_parse_27
  | 28, _ => r_parse_28
  | 29, _ => r_parse_29
  | 30, _ => r_parse_30
  | 31, _ => r_parse_31
  | 32, _ => r_parse_32
  | 33, _ => r_parse_33
  | 34, _ => r_parse_34
  | 35, _ => r_parse_35
  | 36, _ => r_parse_36
  | 37, _ => r_parse_37
  | 38, _ => r_parse_38
  | 39, _ => r_parse_39
  | 40, _ => r_parse_40
  | 41, _ => r_parse_41
  | 42, _ => r_parse_42
  | 43, _ => r_parse_43
  | 44, _ => r_parse_44
  | 45, _ => r_parse_45
  | 46, _ => r_parse_46
  | 47, _ => r_parse_47
  | 48, _ => r_parse_48
  | 49, _ => r_parse_49
  | 50, _ => r_parse_50
  | 51, _ => r_parse_51
  | 52, _ => r_parse_52
  | 53, _ => r_parse_53
  | 54, _ => r_parse_54
  | 55, _ => r_parse_55
  | 56, _ => r_parse_56
  | 57, _ => r_parse_57
  | 58, _ => r_parse_58
  | 59, _ => r_parse_59
  | 60, _ => r_parse_60
  | 61, _ => r_parse_61
  | 62, _ => r_parse_62
  | 63, _ => r_parse_63
  | 64, _ => r_parse_64
  | 65, _ => r_parse_65
  | 66, _ => r_parse_66
  | 67, _ => r_parse_67
  | 68, _ => r_parse_68
  | 69, _ => r_parse_69
  | 70, _ => r_parse_70
  | 71, _ => r_parse_71
  | 72, _ => r_parse_72
  | 73, _ => r_parse_73
  | 74, _ => r_parse_74
  | 75, _ => r_parse_75
  | 76, _ => r_parse_76
  | 77, _ => r_parse_77
  | 78, _ => r_parse_78
  | 79, _ => r_parse_79
  | 80, _ => r_parse_80
  | 81, _ => r_parse_81
  | 82, _ => r_parse_82
  | 83, _ => r_parse_83
  | 84, _ => r_parse_84
  | 85, _ => r_parse_85
  | 86, _ => r_parse_86
  | 87, _ => r_parse_87
  | 88, _ => r_parse_88
  | 89, _ => r_parse_89
  | n + 90, h => by omega
end
end Pk

set_option Elab.async false
set_option linter.all false
set_option maxRecDepth 100000
set_option maxHeartbeats 8000000
namespace Pk
open PySem PySem.Spec PyProof.Rows L2 Dn Dt Hh
def b_s0 : MS := (sAsg (dTup (aCons (dBin addD (dC (.int 11)) (dCall (dFn 2 M__law_roll) (aCons (dVar 1) (aCons (dC (.int 90)) aNil)))) (aCons (dBin mulE (dTup (aCons (dTup (aCons (dC (.str "add")) (aCons (dTup (aCons (dC (.int 1)) (aCons (dC (.int 1)) aNil))) aNil))) aNil)) (dC (.int 4))) aNil))) (mTup 2 (mCons (mName 3) (mCons (mName 4) mNil))))
def b_s1 (K : PySem.W.Frag) (C : Nat → Addr) : MS := (sAsg (dLst (aCons (dMet C (dCall (dFn 1 P_form) (aCons (dTup (aCons (dTup (aCons (dC (.str "add")) (aCons (dTup (aCons (dVar 3) (aCons (dC (.int 1)) aNil))) aNil))) aNil)) aNil))) aNil)) (mName 2))
def b_s2 (K : PySem.W.Frag) (C : Nat → Addr) : MS := (sDrop (dMeth "list" appendD (dVar 2) (aCons (dMet C (dCall (dFn 2 P_value) (aCons (dTup aNil) (aCons (dVar 3) aNil)))) aNil)))
def b_s3 (K : PySem.W.Frag) (C : Nat → Addr) : MS := (sDrop (dMeth "list" appendD (dVar 2) (aCons (dMet C (dCall (dFn 2 P_left_out) (aCons (dTup aNil) (aCons (dVar 3) aNil)))) aNil)))
def b_s4 (K : PySem.W.Frag) (C : Nat → Addr) : MS := (sDrop (dMeth "list" appendD (dVar 2) (aCons (dMet C (dCall (dFn 1 P_parse_chain) (aCons (dBin addD (dC (.str "add ")) (dCall strD (aCons (dVar 3) aNil))) aNil))) aNil)))
def b_s5 (K : PySem.W.Frag) (C : Nat → Addr) : MS := (sDrop (dMeth "list" appendD (dVar 2) (aCons (dMet C (dCall (dFn 2 P_joined) (aCons (dVar 4) (aCons (dVar 4) aNil)))) aNil)))
def b_s6 (K : PySem.W.Frag) (C : Nat → Addr) (C0 : Addr) : MS := (sDrop (dMeth "list" appendD (dVar 2) (aCons (dMet C (dMethO C0 "redo" (dFn 1 (M_Desk_redo C0)) (dMake C0 (dFn 2 (M_Desk___init__ C0)) (aCons (dTup aNil) aNil)) aNil)) aNil)))
def b_s7 (K : PySem.W.Frag) (C : Nat → Addr) : MS := (sIf (tNotD (tTru (dCall allD (aCons (dLc (itEnum (aCons (dVar 2) aNil)) [5, 6] (mTup 2 (mCons (mName 5) (mCons (mName 6) mNil))) tYesD (dCall (dFn 2 (M__law_alone K C)) (aCons (dVar 6) (aCons (dVar 5) aNil)))) aNil)))) (sRet (dC (.bl false))) sNext)
def a_0 (K : PySem.W.Frag) (C : Nat → Addr) : MS := (sAsg (dLst (aCons (dCall (isXD K C) (aCons (dVar 0) (aCons (dC (.ob (C 0))) aNil))) (aCons (dCall (isXD K C) (aCons (dVar 0) (aCons (dC (.ob (C 1))) aNil))) (aCons (dCall (isXD K C) (aCons (dVar 0) (aCons (dC (.ob (C 2))) aNil))) aNil)))) (mName 2))
def a_1 (K : PySem.W.Frag) (C : Nat → Addr) : MS := (sAsg (dBin addD (dVar 2) (dLst (aCons (dCall (isXD K C) (aCons (dVar 0) (aCons (dC (.ob (C 3))) aNil))) (aCons (dCall (isXD K C) (aCons (dVar 0) (aCons (dC (.ob (C 4))) aNil))) (aCons (dCall (isXD K C) (aCons (dVar 0) (aCons (dC (.ob (C 5))) aNil))) aNil))))) (mName 2))
def a_2 (K : PySem.W.Frag) (C : Nat → Addr) : MS := (sRet (dAndV (dCall (isXD K C) (aCons (dVar 0) (aCons (dC (.ty "ValueError")) aNil))) (dBin eqD (dVar 2) (dLc (itRng1 (aCons (dC (.int 6)) aNil)) [3] (mName 3) tYesD (dBin eqD (dVar 3) (dVar 1))))))
theorem b_law_seq (K : PySem.W.Frag) (C : Nat → Addr) (C0 : Addr) : b_law K C C0 = (sSeq b_s0 (sSeq (b_s1 K C) (sSeq (b_s2 K C) (sSeq (b_s3 K C) (sSeq (b_s4 K C) (sSeq (b_s5 K C) (sSeq (b_s6 K C C0) (b_s7 K C)))))))) := rfl
theorem m_alone_eq (K : PySem.W.Frag) (C : Nat → Addr) : m__law_alone K C = (sSeq (a_0 K C) (sSeq (a_1 K C) (a_2 K C))) := rfl
section
variable {K : PySem.W.Frag} {C : Nat → Addr} {C0 : Addr}
theorem kinds_at {n : Nat} (h : n < 6) : ∃ z, kd n = some z := by
  unfold kd
  exact ⟨_, List.getElem?_eq_getElem (by show n < 6; exact h)⟩
theorem one_at (KS : KindsOk K C) {n j : Nat} (hn : n < 6) (hj : j < 6) : PySem.W.kitOne K (.ref (C n)) (.ref (C j)) = some (decide (j = n)) := by
  obtain ⟨z, hz⟩ := kinds_at hn
  obtain ⟨y, hy⟩ := kinds_at hj
  exact KS.one n z j y hz hy
theorem C_inj (KS : KindsOk K C) {n j : Nat} (hn : n < 6) (hj : j < 6) (h : C j = C n) : j = n := by
  have a := one_at KS hn hj
  have b := one_at KS hn hn
  rw [h, b] at a
  have := Option.some.inj a
  rw [decide_eq_true rfl] at this
  exact of_decide_eq_true this.symm
theorem clsNo_at (KS : KindsOk K C) {n : Nat} (hn : n < 6) : clsNo C (C n) = some n := by
  unfold clsNo
  cases h : (List.range 6).find? fun m => decide (C m = C n) with
  | none =>
    have := List.find?_eq_none.mp h n (List.mem_range.mpr hn)
    exact absurd (decide_eq_true rfl) this
  | some m =>
    have h0 := List.find?_some h
    have h1 : C m = C n := of_decide_eq_true h0
    have h2 := List.mem_range.mp (List.mem_of_find?_eq_some h)
    rw [C_inj KS hn h2 h1]
theorem isX_cls (KS : KindsOk K C) {st : Sto} {i n j : Nat} (hn : n < 6) (hj : j < 6) (h : st[i]? = some (.exc (C n))) : isXD K C [.ref i, .ob (C j)] st = .ok (.bl (decide (j = n))) st := by
  unfold isXD
  dsimp only
  rw [h]
  dsimp only
  rw [clsNo_at KS hn]
  dsimp only
  rw [one_at KS hn hj]
theorem isX_val (KS : KindsOk K C) {st : Sto} {i n : Nat} (hn : n < 6) (h : st[i]? = some (.exc (C n))) : isXD K C [.ref i, .ty "ValueError"] st = .ok (.bl true) st := by
  obtain ⟨z, hz⟩ := kinds_at hn
  unfold isXD
  dsimp only
  rw [h]
  dsimp only
  rw [clsNo_at KS hn]
  dsimp only
  rw [KS.val n z hz]
theorem lst3 {a b c : ME} {env : Ev} {st : Sto} {x y z : D} (h1 : a env st = .ok x st) (h2 : b env st = .ok y st) (h3 : c env st = .ok z st) : (dLst (aCons a (aCons b (aCons c aNil)))) env st = .ok (.ref st.length) (st ++ [.lst [x, y, z]]) := by
  unfold dLst
  rw [args3Y h1 h2 h3]
  rfl
theorem isY (KS : KindsOk K C) {env : Ev} {st : Sto} {i n j : Nat} (hn : n < 6) (hj : j < 6) (h0 : env[0]? = some (some (.ref i))) (h : st[i]? = some (.exc (C n))) : (dCall (isXD K C) (aCons (dVar 0) (aCons (dC (.ob (C j))) aNil))) env st = .ok (.bl (decide (j = n))) st :=
  (call2Y (f := isXD K C) (x := .ref i) (y := .ob (C j)) (varY h0) rfl).trans (isX_cls KS hn hj h)
theorem app_at {st l : Sto} {i : Nat} {c : Cell} (h : st[i]? = some c) : (st ++ l)[i]? = some c := by
  rw [List.getElem?_append_left (List.getElem?_eq_some_iff.mp h).1]
  exact h
def own6 (n : Nat) : List D := [.bl (decide (0 = n)), .bl (decide (1 = n)), .bl (decide (2 = n)), .bl (decide (3 = n)), .bl (decide (4 = n)), .bl (decide (5 = n))]
theorem eq_own {n : Nat} {st : Sto} {i j : Nat} (hi : st[i]? = some (.lst (own6 n))) (hj : st[j]? = some (.lst (own6 n))) : eqD (.ref i) (.ref j) st = .ok (.bl true) st := by
  have p : (D.ref i).py st = some (.list [.bool (decide (0 = n)), .bool (decide (1 = n)), .bool (decide (2 = n)), .bool (decide (3 = n)), .bool (decide (4 = n)), .bool (decide (5 = n))]) := by
    have e : Sto.seq st i = some (own6 n) := seq_at hi
    unfold D.py
    dsimp only
    rw [e]
    rfl
  have q : (D.ref j).py st = some (.list [.bool (decide (0 = n)), .bool (decide (1 = n)), .bool (decide (2 = n)), .bool (decide (3 = n)), .bool (decide (4 = n)), .bool (decide (5 = n))]) := by
    have e : Sto.seq st j = some (own6 n) := seq_at hj
    unfold D.py
    dsimp only
    rw [e]
    rfl
  unfold eqD eqvD
  have s0 : scalD (.ref i) (.ref j) = none := rfl
  rw [s0]
  dsimp only
  rw [p, q]
  dsimp only
  generalize decide (0 = n) = b0
  generalize decide (1 = n) = b1
  generalize decide (2 = n) = b2
  generalize decide (3 = n) = b3
  generalize decide (4 = n) = b4
  generalize decide (5 = n) = b5
  have sh : SeqAt.shaped (.list [.bool b0, .bool b1, .bool b2, .bool b3, .bool b4, .bool b5]) = true := by
    cases b0 <;> cases b1 <;> cases b2 <;> cases b3 <;> cases b4 <;> cases b5 <;> decide +kernel
  have eq : PyData.eqv (.list [.bool b0, .bool b1, .bool b2, .bool b3, .bool b4, .bool b5]) (.list [.bool b0, .bool b1, .bool b2, .bool b3, .bool b4, .bool b5]) = true := by
    cases b0 <;> cases b1 <;> cases b2 <;> cases b3 <;> cases b4 <;> cases b5 <;> decide +kernel
  rw [if_pos ⟨sh, sh⟩, eq]
/-- an exception of the n-th class is of this class alone -/
theorem R_alone (KS : KindsOk K C) {st : Sto} {i n : Nat} (hn : n < 6) (h : st[i]? = some (.exc (C n))) : ∃ g, M__law_alone K C [.ref i, .int (n : Int)] st = .ok (.bl true) (st ++ g) := by
  show ∃ g, (m__law_alone K C [some (.ref i), some (.int (n : Int)), none, none] st).res = _
  rw [m_alone_eq]
  have k0 : a_0 K C [some (.ref i), some (.int (n : Int)), none, none] st = .nx [some (.ref i), some (.int (n : Int)), some (.ref st.length), none] (st ++ [.lst [.bl (decide (0 = n)), .bl (decide (1 = n)), .bl (decide (2 = n))]]) :=
    asgY (lst3 (isY KS hn (by decide) rfl h) (isY KS hn (by decide) rfl h) (isY KS hn (by decide) rfl h))
  obtain ⟨S1, hS1⟩ : ∃ S1, S1 = st ++ [Cell.lst [.bl (decide (0 = n)), .bl (decide (1 = n)), .bl (decide (2 = n))]] := ⟨_, rfl⟩
  rw [← hS1] at k0
  have h1 : S1[i]? = some (.exc (C n)) := by rw [hS1]; exact app_at h
  have c1 : S1[st.length]? = some (.lst [.bl (decide (0 = n)), .bl (decide (1 = n)), .bl (decide (2 = n))]) := by rw [hS1, at_0]; rfl
  have l2 := lst3 (env := [some (.ref i), some (.int (n : Int)), some (.ref st.length), none]) (isY KS hn (show 3 < 6 by decide) rfl h1) (isY KS hn (show 4 < 6 by decide) rfl h1) (isY KS hn (show 5 < 6 by decide) rfl h1)
  obtain ⟨S2, hS2⟩ : ∃ S2, S2 = S1 ++ [Cell.lst [.bl (decide (3 = n)), .bl (decide (4 = n)), .bl (decide (5 = n))]] := ⟨_, rfl⟩
  rw [← hS2] at l2
  have c2 : S2[st.length]? = some (.lst [.bl (decide (0 = n)), .bl (decide (1 = n)), .bl (decide (2 = n))]) := by rw [hS2]; exact app_at c1
  have c3 : S2[S1.length]? = some (.lst [.bl (decide (3 = n)), .bl (decide (4 = n)), .bl (decide (5 = n))]) := by rw [hS2, at_0]; rfl
  have ad : addD (.ref st.length) (.ref S1.length) S2 = .ok (.ref S2.length) (S2 ++ [.lst (own6 n)]) := by
    unfold addD
    dsimp only
    rw [c2, c3]
    dsimp only
    rw [if_pos (by show 6 ≤ _; decide)]
    rfl
  have k1 : a_1 K C [some (.ref i), some (.int (n : Int)), some (.ref st.length), none] S1 = .nx [some (.ref i), some (.int (n : Int)), some (.ref S2.length), none] (S2 ++ [.lst (own6 n)]) := asgY (binY (varY rfl) l2 ad)
  obtain ⟨S3, hS3⟩ : ∃ S3, S3 = S2 ++ [Cell.lst (own6 n)] := ⟨_, rfl⟩
  rw [← hS3] at k1
  have h3 : S3[i]? = some (.exc (C n)) := by rw [hS3, hS2]; exact app_at (app_at h1)
  have c4 : S3[S2.length]? = some (.lst (own6 n)) := by rw [hS3, at_0]; rfl
  obtain ⟨l', kl⟩ := dLc_gen1 (st := S3) (it := itRng1 (aCons (dC (.int 6)) aNil)) (fd := rngFeed 0 6) (xs := List.range 6) (en := fun (k : Nat) => D.int (k : Int)) (vs := [3]) (g := mName 3)
    (env := [some (.ref i), some (.int (n : Int)), some (.ref S2.length), none]) (e := dBin eqD (dVar 3) (dVar 1)) (f := fun k => .bl (decide (k = n)))
    (by rfl) rfl (fun l j => rng_feed 6 _ j) (by show 6 ≤ _; decide) (fun k hk l => ⟨[some (.ref i), some (.int (n : Int)), some (.ref S2.length), some (.int (k : Int))], [], rfl, by
      rw [List.append_nil]
      have e : decide ((k : Int) = (n : Int)) = decide (k = n) := decide_eq_decide.mpr (by omega)
      rw [← e]
      exact binY (varY rfl) (varY rfl) (d_eq_int _ _ _)⟩)
  have ef : (List.range 6).map (fun k => D.bl (decide (k = n))) = own6 n := rfl
  rw [ef] at kl
  obtain ⟨S4, hS4⟩ : ∃ S4, S4 = S3 ++ Cell.lst (own6 n) :: l' := ⟨_, rfl⟩
  rw [← hS4] at kl
  have d1 : S4[S2.length]? = some (.lst (own6 n)) := by rw [hS4]; exact app_at c4
  have d2 : S4[S3.length]? = some (.lst (own6 n)) := by rw [hS4, at_0]; rfl
  have v1 : (dCall (isXD K C) (aCons (dVar 0) (aCons (dC (.ty "ValueError")) aNil))) [some (.ref i), some (.int (n : Int)), some (.ref S2.length), none] S3 = .ok (.bl true) S3 := (call2Y (f := isXD K C) (x := .ref i) (y := .ty "ValueError") (varY rfl) rfl).trans (isX_val KS hn h3)
  refine ⟨[Cell.lst [.bl (decide (0 = n)), .bl (decide (1 = n)), .bl (decide (2 = n))]] ++ [Cell.lst [.bl (decide (3 = n)), .bl (decide (4 = n)), .bl (decide (5 = n))]] ++ [Cell.lst (own6 n)] ++ Cell.lst (own6 n) :: l', ?_⟩
  have eS : st ++ ([Cell.lst [.bl (decide (0 = n)), .bl (decide (1 = n)), .bl (decide (2 = n))]] ++ [Cell.lst [.bl (decide (3 = n)), .bl (decide (4 = n)), .bl (decide (5 = n))]] ++ [Cell.lst (own6 n)] ++ Cell.lst (own6 n) :: l') = S4 := by
    rw [hS4, hS3, hS2, hS1]
    simp only [List.append_assoc]
  rw [eS, seq_nx k0, seq_nx k1]
  have an : (dAndV (dCall (isXD K C) (aCons (dVar 0) (aCons (dC (.ty "ValueError")) aNil))) (dBin eqD (dVar 2) (dLc (itRng1 (aCons (dC (.int 6)) aNil)) [3] (mName 3) tYesD (dBin eqD (dVar 3) (dVar 1))))) [some (.ref i), some (.int (n : Int)), some (.ref S2.length), none] S3 = .ok (.bl true) S4 := by
    unfold dAndV
    rw [v1, R.bind_ok]
    exact binY (varY rfl) kl (eq_own d1 d2)
  show ((sRet _) _ S3).res = _
  unfold sRet
  rw [an]
  rfl
/-! ### the list of what is met -/
structure Ms (C : Nat → Addr) (B S : Sto) (r : Nat) (es : List Nat) : Prop where
  up : Upd B S
  low : B.length ≤ r
  at_ : S[r]? = some (.lst (es.map .ref))
  exc : ∀ j (h : j < es.length), S[es[j]]? = some (.exc (C j)) ∧ es[j] ≠ r
  few : es.length ≤ 6
theorem metY {m : ME} {env : Ev} {st st1 : Sto} {n : Nat} (hn : n < 6) (h : m env st = .er n st1) : dMet C m env st = .ok (.ref st1.length) (st1 ++ [.exc (C n)]) := by
  unfold dMet
  rw [h]
  dsimp only
  rw [if_pos hn]
theorem refs_no {es : List Nat} (h0 : 0 < es.length) (a b : Int) : Cell.lst (es.map .ref) ≠ .lst [.int a, .int b] := fun z => by
  have := Cell.lst.inj z
  cases es with
  | nil => cases h0
  | cons x t => cases (List.cons.inj this).1
theorem exc_no (c : Addr) (a b : Int) : Cell.exc c ≠ .lst [.int a, .int b] := fun z => by cases z
theorem more {m : ME} {env : Ev} {B S S1 : Sto} {r : Nat} {es : List Nat} (M : Ms C B S r es) (h0 : 0 < es.length) (h6 : es.length < 6) (h2 : env[2]? = some (some (.ref r))) (hm : m env S = .er es.length S1) (u : Upd S S1) :
    ∃ S2 e, (sDrop (dMeth "list" appendD (dVar 2) (aCons (dMet C m) aNil))) env S = .nx env S2 ∧ Ms C B S2 r (es ++ [e]) := by
  have k := metY (C := C) h6 hm
  have r1 : S1[r]? = some (.lst (es.map .ref)) := u.keep M.at_ (refs_no h0)
  have hr : r < S1.length := (List.getElem?_eq_some_iff.mp r1).1
  have r2 : (S1 ++ [Cell.exc (C es.length)])[r]? = some (.lst (es.map .ref)) := app_at r1
  have kk : kindD "list" (.ref r) S = true := by
    unfold kindD
    dsimp only
    rw [M.at_]
    rfl
  have ap : appendD (.ref r) [.ref S1.length] (S1 ++ [Cell.exc (C es.length)]) = .ok .non ((S1 ++ [Cell.exc (C es.length)]).set r (.lst (es.map .ref ++ [.ref S1.length]))) := by
    unfold appendD
    dsimp only
    rw [r2]
    dsimp only
    rw [if_pos (by rw [List.length_map]; omega)]
  refine ⟨(S1 ++ [Cell.exc (C es.length)]).set r (.lst (es.map .ref ++ [.ref S1.length])), S1.length, ?_, ((M.up.trans u).trans (Upd.app _ _)).fresh M.low, M.low, ?_, fun j hj => ?_, by rw [List.length_append]; show _ + 1 ≤ 6; omega⟩
  · unfold sDrop dMeth
    rw [varY h2, R.bind_ok, if_pos kk, args1Y k, R.bind_ok, ap]
    rfl
  · rw [List.getElem?_set_self (by rw [List.length_append]; omega), List.map_append]
    rfl
  · rw [List.length_append] at hj
    by_cases c : j < es.length
    · obtain ⟨e1, e2⟩ := M.exc j c
      have ee : (es ++ [S1.length])[j] = es[j] := List.getElem_append_left c
      refine ⟨?_, by rw [ee]; exact e2⟩
      rw [ee, List.getElem?_set_ne (fun z => e2 z.symm)]
      exact app_at (u.keep e1 (exc_no _))
    · have ej : j = es.length := by
        have : ([S1.length] : List Nat).length = 1 := rfl
        omega
      subst ej
      have ee : (es ++ [S1.length])[es.length] = S1.length := by
        rw [List.getElem_append_right (Nat.le_refl _)]
        simp
      refine ⟨?_, by rw [ee]; omega⟩
      rw [ee, List.getElem?_set_ne (by omega), at_0]
      rfl
end
end Pk

set_option Elab.async false
set_option linter.all false
set_option maxRecDepth 100000
set_option maxHeartbeats 8000000
namespace Pk
open PySem PySem.Spec PyProof.Rows L2 Dn Dt Hh
section
variable {C0 : Addr} {st st1 : Sto} {env : Ev} {f : Str} {d : D} {k : Nat} {fs : List (Str × D)} {me : ME}
theorem fld_at (h0 : (env[0]? : Option (Option D)) = some (some (.ref k))) (ho : st[k]? = some (.obj C0 fs)) (hl : fs.lookup f = some d) : dFld C0 f (dVar 0) env st = .ok d st := by
  unfold dFld dVar
  rw [h0]
  dsimp only [R.bind_ok]
  rw [ho]
  dsimp only
  rw [if_pos rfl, hl]
theorem sfld_at (hv : me env st = .ok d st1) (h0 : (env[0]? : Option (Option D)) = some (some (.ref k))) (ho : st1[k]? = some (.obj C0 fs)) (hl : fs.length < 1000) : sFldD C0 f (dVar 0) me env st = .nx env (st1.set k (.obj C0 (putFD f d fs))) := by
  unfold sFldD dVar
  rw [hv]
  dsimp only [R.toS_ok]
  rw [h0]
  dsimp only [R.toS_ok]
  rw [ho]
  dsimp only
  rw [if_pos ⟨rfl, hl⟩]
end
abbrev dkF (n : D) (e u : Nat) : List (Str × D) := [("_now", n), ("_earlier", .ref e), ("_undone", .ref u)]
theorem lk_und (n : D) (e u : Nat) : (dkF n e u).lookup ("_undone" : Str) = some (.ref u) := by rfl
theorem pf_1 (n : D) : putFD "_now" n [] = [(("_now" : Str), n)] := rfl
theorem pf_2 (n : D) (e : Nat) : putFD "_earlier" (.ref e) [(("_now" : Str), n)] = [(("_now" : Str), n), (("_earlier" : Str), .ref e)] := by
  show (if ("_now" : Str) = "_earlier" then _ else (("_now" : Str), n) :: putFD "_earlier" (.ref e) []) = _
  rw [if_neg (by decide +kernel)]
  rfl
theorem pf_3 (n : D) (e u : Nat) : putFD "_undone" (.ref u) [(("_now" : Str), n), (("_earlier" : Str), .ref e)] = dkF n e u := by
  show (if ("_now" : Str) = "_undone" then _ else (("_now" : Str), n) :: (if ("_earlier" : Str) = "_undone" then _ else (("_earlier" : Str), D.ref e) :: putFD "_undone" (.ref u) [])) = _
  rw [if_neg (by decide +kernel), if_neg (by decide +kernel)]
  rfl

theorem lk_redo (n : D) (e u : Nat) : (dkF n e u).lookup ("redo" : Str) = none := by rfl
theorem chk_chain : erIs 9 (match M_check_chain [.tup []] [] with | .ok .non _ => .er 9 [] | _ => .no) = true := by decide +kernel
theorem chain_0 (st : Sto) : P_check_chain [.tup []] st = .ok .non st := by
  have h := chk_chain
  cases k : M_check_chain [.tup []] [] with
  | ok d l =>
    rw [k] at h
    cases d with
    | non => exact pure_ok k st rfl rfl
    | _ => cases h
  | er n l => rw [k] at h; cases h
  | no => rw [k] at h; cases h
section
variable {K : PySem.W.Frag} {C : Nat → Addr} {C0 : Addr} {st : Sto} {x0 x1 x2 x3 x4 x5 x6 : Option D}
theorem seq_er {a b : MS} {env : Ev} {st s' : Sto} {n : Nat} (h : a env st = .er n s') : (sSeq a b) env st = .er n s' := by
  unfold sSeq
  rw [h]
  rfl
theorem R_init0 (st : Sto) : M_Desk___init__ C0 [.ref st.length, .tup []] (st ++ [.obj C0 []]) = .ok .non (st ++ [.obj C0 (dkF (.tup []) (st.length + 1) (st.length + 2)), .lst [], .lst []]) := by
  obtain ⟨A, hA⟩ : ∃ A : D, A = .tup [] := ⟨_, rfl⟩
  have kc := chain_0
  rw [← hA] at kc ⊢
  have env0 : (([some (.ref st.length), some A] : Ev)[0]? : Option (Option D)) = some (some (.ref st.length)) := rfl
  have a0 : ∀ (c1 : Cell) (r : Sto), (st ++ c1 :: r)[st.length]? = some c1 := fun c1 r => by rw [at_0]; rfl
  have s0 : (sDrop (dCall (dFn 1 P_check_chain) (aCons (dVar 1) aNil))) [some (.ref st.length), some A] (st ++ [.obj C0 []]) = .nx [some (.ref st.length), some A] (st ++ [.obj C0 []]) := by
    unfold sDrop
    rw [(call1Y (f := dFn 1 P_check_chain) (a := dVar 1) (x := A) (env := [some (.ref st.length), some A]) (st := st ++ [Cell.obj C0 []]) (varY rfl)).trans (kc _)]
    rfl
  have s1 : (sFldD C0 "_now" (dVar 0) (dVar 1)) [some (.ref st.length), some A] (st ++ [.obj C0 []]) = .nx [some (.ref st.length), some A] (st ++ [.obj C0 [(("_now" : Str), A)]]) := by
    rw [sfld_at (C0 := C0) (f := "_now") (d := A) (st1 := st ++ [.obj C0 []]) rfl env0 (a0 _ _) (by show 0 < 1000; decide), pf_1, set_at]
  have s2 : (sFldD C0 "_earlier" (dVar 0) (dLst aNil)) [some (.ref st.length), some A] (st ++ [.obj C0 [(("_now" : Str), A)]]) = .nx [some (.ref st.length), some A] (st ++ [.obj C0 [(("_now" : Str), A), (("_earlier" : Str), .ref (st.length + 1))], .lst []]) := by
    have nl : (dLst aNil) [some (.ref st.length), some A] (st ++ [.obj C0 [(("_now" : Str), A)]]) = .ok (.ref (st.length + 1)) (st ++ .obj C0 [(("_now" : Str), A)] :: [.lst []]) := by
      unfold dLst aNil
      dsimp only [R.bind_ok]
      rw [if_pos (by decide), List.length_append, List.append_assoc]
      rfl
    rw [sfld_at (C0 := C0) (f := "_earlier") nl env0 (a0 _ _) (by show 1 < 1000; decide), pf_2, set_at]
  have s3 : (sFldD C0 "_undone" (dVar 0) (dLst aNil)) [some (.ref st.length), some A] (st ++ [.obj C0 [(("_now" : Str), A), (("_earlier" : Str), .ref (st.length + 1))], .lst []]) = .nx [some (.ref st.length), some A] (st ++ [.obj C0 (dkF A (st.length + 1) (st.length + 2)), .lst [], .lst []]) := by
    have nl : (dLst aNil) [some (.ref st.length), some A] (st ++ [.obj C0 [(("_now" : Str), A), (("_earlier" : Str), .ref (st.length + 1))], .lst []]) = .ok (.ref (st.length + 2)) (st ++ .obj C0 [(("_now" : Str), A), (("_earlier" : Str), .ref (st.length + 1))] :: [.lst [], .lst []]) := by
      unfold dLst aNil
      dsimp only [R.bind_ok]
      rw [if_pos (by decide), List.length_append, List.append_assoc]
      rfl
    rw [sfld_at (C0 := C0) (f := "_undone") nl env0 (a0 _ _) (by show 2 < 1000; decide), pf_3, set_at]
  show (m_Desk___init__ C0 [some (.ref st.length), some A] (st ++ [.obj C0 []])).res = _
  unfold m_Desk___init__
  rw [seq_nx s0, seq_nx s1, seq_nx s2, s3]
  rfl
theorem R_redo0 {k u e : Nat} {n : D} (ho : st[k]? = some (.obj C0 (dkF n e u))) (hu : st[u]? = some (.lst [])) : M_Desk_redo C0 [.ref k] st = .er 5 st := by
  show (m_Desk_redo C0 (startE 2 [.ref k]) st).res = _
  have f1 := fld_at (C0 := C0) (env := startE 2 [.ref k]) (k := k) rfl ho (lk_und n e u)
  have tr : truthD (.ref u) st = .ok false st := by
    unfold truthD
    dsimp only
    rw [hu]
    rfl
  have tt : (tTru (dFld C0 "_undone" (dVar 0))) (startE 2 [.ref k]) st = .ok false st := by
    unfold tTru
    rw [f1]
    exact tr
  have s0 : (sIf (tNotD (tTru (dFld C0 "_undone" (dVar 0)))) (sRaise 5) sNext) (startE 2 [.ref k]) st = .er 5 st := by
    rw [ifY_t (notY tt)]
    rfl
  unfold m_Desk_redo
  rw [seq_er s0]
  rfl
theorem m_redo (env : Ev) (st : Sto) : (dMethO C0 "redo" (dFn 1 (M_Desk_redo C0)) (dMake C0 (dFn 2 (M_Desk___init__ C0)) (aCons (dTup aNil) aNil)) aNil) env st = .er 5 (st ++ [.obj C0 (dkF (.tup []) (st.length + 1) (st.length + 2)), .lst [], .lst []]) := by
  have mk : (dMake C0 (dFn 2 (M_Desk___init__ C0)) (aCons (dTup aNil) aNil)) env st = .ok (.ref st.length) (st ++ [.obj C0 (dkF (.tup []) (st.length + 1) (st.length + 2)), .lst [], .lst []]) := by
    have ar : (aCons (dTup aNil) aNil) env st = .ok [.tup []] st := args1Y (tupY rfl)
    unfold dMake
    rw [ar, R.bind_ok]
    have e : (dFn 2 (M_Desk___init__ C0)) [.ref st.length, .tup []] (st ++ [.obj C0 []]) = .ok .non (st ++ [.obj C0 (dkF (.tup []) (st.length + 1) (st.length + 2)), .lst [], .lst []]) := by
      have := R_init0 (C0 := C0) st
      generalize M_Desk___init__ C0 = f at *
      exact this
    rw [e]
  obtain ⟨S, hS⟩ : ∃ S, S = st ++ [Cell.obj C0 (dkF (.tup []) (st.length + 1) (st.length + 2)), .lst [], .lst []] := ⟨_, rfl⟩
  rw [← hS] at mk ⊢
  have ho : S[st.length]? = some (.obj C0 (dkF (.tup []) (st.length + 1) (st.length + 2))) := by rw [hS, at_0]; rfl
  have hu : S[st.length + 2]? = some (.lst []) := by rw [hS, at_k]; rfl
  have kr := R_redo0 ho hu
  unfold dMethO
  rw [mk, R.bind_ok]
  dsimp only
  rw [ho]
  dsimp only
  rw [if_pos ⟨rfl, lk_redo _ _ _⟩]
  show (dFn 1 (M_Desk_redo C0)) [.ref st.length] S = _
  generalize M_Desk_redo C0 = f at *
  exact kr
theorem s_0 {d : Nat} (hd : IsDice st d) : ∃ (n : Nat) (st' : Sto), b_s0 [x0, some (.ref d), x2, x3, x4, x5, x6] st = .nx [x0, some (.ref d), x2, some (gr1 n), some (four), x5, x6] st' ∧ n < 90 ∧ Upd st st' := by
  obtain ⟨v, s1, k1, h0, h1, u1, d1⟩ := run_roll hd (many := 90) (by decide) (by decide)
  obtain ⟨n, rfl⟩ : ∃ n : Nat, v = (n : Int) := ⟨v.toNat, by omega⟩
  refine ⟨n, s1, ?_, by omega, u1⟩
  have a1 : addD (.int 11) (.int (n : Int)) s1 = .ok (gr1 n) s1 := d_add_int _ _ _
  have t1 : (dBin addD (dC (.int 11)) (dCall (dFn 2 M__law_roll) (aCons (dVar 1) (aCons (dC (.int 90)) aNil)))) [x0, some (.ref d), x2, x3, x4, x5, x6] st = .ok (gr1 n) s1 :=
    binY (x := .int 11) (y := .int (n : Int)) rfl ((call2Y (f := dFn 2 M__law_roll) (x := .ref d) (y := .int 90) (varY rfl) rfl).trans k1) a1
  have t2 : (dBin mulE (dTup (aCons (dTup (aCons (dC (.str "add")) (aCons (dTup (aCons (dC (.int 1)) (aCons (dC (.int 1)) aNil))) aNil))) aNil)) (dC (.int 4))) [x0, some (.ref d), x2, x3, x4, x5, x6] s1 = .ok four s1 := by kernel_rfl
  unfold b_s0 sAsg
  rw [tupY (args2Y t1 t2)]
  generalize gr1 n = G
  rfl
theorem run_body (KS : KindsOk K C) {d : Nat} (hd : IsDice st d) (x0 x2 x3 x4 x5 x6 : Option D) : ∃ (y2 y3 y4 y5 y6 : Option D) (st' : Sto), b_law K C C0 [x0, some (.ref d), x2, x3, x4, x5, x6] st = .nx [x0, some (.ref d), y2, y3, y4, y5, y6] st' ∧ Upd st st' := by
  obtain ⟨n, B, k0, hn, u0⟩ := s_0 (x0 := x0) (x2 := x2) (x3 := x3) (x4 := x4) (x5 := x5) (x6 := x6) hd
  have f1 := r_form hn B
  have f2 := fun st => r_value hn st
  have f3 := fun st => r_left hn st
  have f4 := fun st => r_parse (x0 := x0) (x1 := some (.ref d)) (x2 := some (.ref (B.length + 1))) (x4 := some four) (x5 := x5) (x6 := x6) (st := st) n hn
  generalize gr1 n = G at *
  -- the list
  have m1 : (dCall (dFn 1 P_form) (aCons (dTup (aCons (dTup (aCons (dC (.str "add")) (aCons (dTup (aCons (dVar 3) (aCons (dC (.int 1)) aNil))) aNil))) aNil)) aNil)) [x0, some (.ref d), x2, some (G), some (four), x5, x6] B = .er 0 B :=
    (call1Y (f := dFn 1 P_form) (x := arF G) (tupY (args1Y (tupY (args2Y rfl (tupY (args2Y (varY rfl) rfl))))))).trans f1
  have k1 := metY (C := C) (show 0 < 6 by decide) m1
  have s1 : b_s1 K C [x0, some (.ref d), x2, some (G), some (four), x5, x6] B = .nx [x0, some (.ref d), some (.ref (B.length + 1)), some (G), some (four), x5, x6] ((B ++ [.exc (C 0)]) ++ [.lst ([B.length].map .ref)]) := by
    have : (dLst (aCons (dMet C (dCall (dFn 1 P_form) (aCons (dTup (aCons (dTup (aCons (dC (.str "add")) (aCons (dTup (aCons (dVar 3) (aCons (dC (.int 1)) aNil))) aNil))) aNil)) aNil))) aNil)) [x0, some (.ref d), x2, some (G), some (four), x5, x6] B = .ok (.ref (B.length + 1)) ((B ++ [.exc (C 0)]) ++ [.lst ([B.length].map .ref)]) := by
      have e : (B ++ [Cell.exc (C 0)]).length = B.length + 1 := by rw [List.length_append]; rfl
      unfold dLst
      rw [args1Y k1, R.bind_ok, if_pos (by show 1 ≤ _; decide), e]
      rfl
    exact asgY this
  obtain ⟨S1, hS1⟩ : ∃ S1, S1 = (B ++ [Cell.exc (C 0)]) ++ [.lst ([B.length].map .ref)] := ⟨_, rfl⟩
  rw [← hS1] at s1
  have M1 : Ms C B S1 (B.length + 1) [B.length] := by
    refine ⟨by rw [hS1]; exact (Upd.app _ _).trans (Upd.app _ _), by omega, ?_, fun j hj => ?_, by show 1 ≤ 6; decide⟩
    · have e : (B ++ [Cell.exc (C 0)]).length = B.length + 1 := by rw [List.length_append]; rfl
      rw [hS1, ← e, at_0]
      rfl
    · have ej : j = 0 := by
        have : ([B.length] : List Nat).length = 1 := rfl
        omega
      subst ej
      refine ⟨?_, by show B.length ≠ B.length + 1; omega⟩
      rw [hS1]
      exact app_at (by show (B ++ [Cell.exc (C 0)])[B.length]? = _; rw [at_0]; rfl)
  obtain ⟨S2, e2, s2, M2⟩ := more (m := (dCall (dFn 2 P_value) (aCons (dTup aNil) (aCons (dVar 3) aNil)))) (env := [x0, some (.ref d), some (.ref (B.length + 1)), some (G), some (four), x5, x6]) M1 (by show 0 < 1; decide) (by show 1 < 6; decide) rfl ((call2Y (f := dFn 2 P_value) (x := .tup []) (y := G) (tupY rfl) (varY rfl)).trans (f2 S1)) (Upd.refl S1)
  obtain ⟨S3, e3, s3, M3⟩ := more (m := (dCall (dFn 2 P_left_out) (aCons (dTup aNil) (aCons (dVar 3) aNil)))) (env := [x0, some (.ref d), some (.ref (B.length + 1)), some (G), some (four), x5, x6]) M2 (by show 0 < 2; decide) (by show 2 < 6; decide) rfl ((call2Y (f := dFn 2 P_left_out) (x := .tup []) (y := G) (tupY rfl) (varY rfl)).trans (f3 S2)) (Upd.refl S2)
  obtain ⟨S4, e4, s4, M4⟩ := more (m := (dCall (dFn 1 P_parse_chain) (aCons (dBin addD (dC (.str "add ")) (dCall strD (aCons (dVar 3) aNil))) aNil))) (env := [x0, some (.ref d), some (.ref (B.length + 1)), some (G), some (four), x5, x6]) M3 (by show 0 < 3; decide) (by show 3 < 6; decide) rfl (f4 S3) (Upd.refl S3)
  obtain ⟨S5, e5, s5, M5⟩ := more (m := (dCall (dFn 2 P_joined) (aCons (dVar 4) (aCons (dVar 4) aNil)))) (env := [x0, some (.ref d), some (.ref (B.length + 1)), some (G), some (four), x5, x6]) M4 (by show 0 < 4; decide) (by show 4 < 6; decide) rfl ((call2Y (f := dFn 2 P_joined) (x := four) (y := four) (varY rfl) (varY rfl)).trans (r_joined S4)) (Upd.refl S4)
  obtain ⟨S6, e6, s6, M6⟩ := more (m := (dMethO C0 "redo" (dFn 1 (M_Desk_redo C0)) (dMake C0 (dFn 2 (M_Desk___init__ C0)) (aCons (dTup aNil) aNil)) aNil)) (env := [x0, some (.ref d), some (.ref (B.length + 1)), some (G), some (four), x5, x6]) M5 (by show 0 < 5; decide) (by show 5 < 6; decide) rfl (m_redo _ S5) (Upd.app S5 _)
  obtain ⟨es, hes⟩ : ∃ es, es = [B.length] ++ [e2] ++ [e3] ++ [e4] ++ [e5] ++ [e6] := ⟨_, rfl⟩
  have l6 : es.length = 6 := by rw [hes]; rfl
  have M : Ms C B S6 (B.length + 1) es := by rw [hes]; exact M6
  -- each is alone
  have hz : ∀ l, (S6 ++ l)[B.length + 1]? = some (.lst (es.map .ref)) := fun l => app_at M.at_
  obtain ⟨l', kl⟩ := dLc_gen1 (st := S6) (it := itEnum (aCons (dVar 2) aNil)) (fd := enumFeed (lstFeed (B.length + 1))) (xs := List.range 6) (en := fun (j : Nat) => D.tup [.int (j : Int), .ref (es.getD j 0)]) (vs := [5, 6]) (g := (mTup 2 (mCons (mName 5) (mCons (mName 6) mNil))))
    (env := [x0, some (.ref d), some (.ref (B.length + 1)), some (G), some (four), x5, x6]) (env' := [x0, some (.ref d), some (.ref (B.length + 1)), some (G), some (four), none, none]) (e := (dCall (dFn 2 (M__law_alone K C)) (aCons (dVar 6) (aCons (dVar 5) aNil)))) (f := fun _ => .bl true)
    (by
      unfold itEnum
      rw [args1Y (varY rfl), R.bind_ok]
      dsimp only
      rw [M.at_]
      dsimp only
      rw [List.length_map, l6]
      rfl) rfl (fun l j => by
      unfold enumFeed lstFeed
      rw [hz l]
      dsimp only
      rw [List.getElem?_map, List.getElem?_map]
      by_cases hj : j < 6
      · rw [List.getElem?_eq_getElem (by omega), List.getElem?_range hj]
        show some (some (D.tup [.int (j : Int), .ref es[j]])) = some (some (D.tup [.int (j : Int), .ref (es.getD j 0)]))
        rw [List.getD_eq_getElem?_getD, List.getElem?_eq_getElem (by omega)]
        rfl
      · rw [List.getElem?_eq_none (by omega), List.getElem?_eq_none (by rw [List.length_range]; omega)]
        rfl) (by show 6 ≤ _; decide) (fun j hj l => by
      have hj : j < 6 := List.mem_range.mp hj
      have hx := (M.exc j (by omega)).1
      have eg : es.getD j 0 = es[j] := by rw [List.getD_eq_getElem?_getD, List.getElem?_eq_getElem (by omega)]; rfl
      rw [← eg] at hx
      obtain ⟨g, ka⟩ := R_alone KS hj (app_at (l := l) hx)
      refine ⟨[x0, some (.ref d), some (.ref (B.length + 1)), some (G), some (four), some (.int (j : Int)), some (.ref (es.getD j 0))], g, rfl, ?_⟩
      rw [← List.append_assoc, ← ka]
      exact call2Y (f := dFn 2 (M__law_alone K C)) (x := .ref (es.getD j 0)) (y := .int (j : Int)) (varY rfl) (varY rfl))
  obtain ⟨S7, hS7⟩ : ∃ S7, S7 = S6 ++ Cell.lst ((List.range 6).map fun _ => D.bl true) :: l' := ⟨_, rfl⟩
  rw [← hS7] at kl
  have ha : S7[S6.length]? = some (.lst ((List.range 6).map fun _ => D.bl true)) := by rw [hS7, at_0]; rfl
  have al : allD [.ref S6.length] S7 = .ok (.bl true) S7 := by
    have e : Sto.seq S7 S6.length = some ((List.range 6).map fun _ => D.bl true) := seq_at ha
    unfold allD blsD lstOf
    dsimp only
    rw [e]
    rfl
  have s7 : b_s7 K C [x0, some (.ref d), some (.ref (B.length + 1)), some (G), some (four), x5, x6] S6 = .nx [x0, some (.ref d), some (.ref (B.length + 1)), some (G), some (four), x5, x6] S7 := by
    exact ifN (notY (truY ((call1Y (f := allD) kl).trans al)))
  refine ⟨some (.ref (B.length + 1)), some G, some four, x5, x6, S7, ?_, (u0.trans M6.up).trans (by rw [hS7]; exact Upd.app _ _)⟩
  rw [b_law_seq, seq_nx k0, seq_nx s1]
  show (sSeq (b_s2 K C) _) _ S1 = _
  rw [seq_nx (show b_s2 K C _ S1 = _ from s2), seq_nx (show b_s3 K C _ S2 = _ from s3), seq_nx (show b_s4 K C _ S3 = _ from s4), seq_nx (show b_s5 K C _ S4 = _ from s5), seq_nx (show b_s6 K C C0 _ S5 = _ from s6)]
  exact s7
end
theorem run_law {K : PySem.W.Frag} {C : Nat → Addr} (KS : KindsOk K C) (C0 : Addr) (x0 : Option D) {rs : List Nat} : ∀ (n i : Nat) (x1 x2 x3 x4 x5 x6 : Option D) (st : Sto), i + n = rs.length → (∀ r ∈ rs, IsDice st r) → st[0]? = some (.lst (rs.map .ref)) →
    ∃ (y1 y2 y3 y4 y5 y6 : Option D) (st' : Sto), sForF (lstFeed 0) (mName 1) (b_law K C C0) n i [x0, x1, x2, x3, x4, x5, x6] st = .nx [x0, y1, y2, y3, y4, y5, y6] st' := by
  have nt : ∀ a b : Int, Cell.lst (rs.map .ref) ≠ .lst [.int a, .int b] := fun a b z => by
    have z' := Cell.lst.inj z
    cases rs with
    | nil => cases z'
    | cons r t =>
      rw [List.map_cons] at z'
      cases (List.cons.inj z').1
  intro n
  induction n with
  | zero =>
    intro i x1 x2 x3 x4 x5 x6 st hi hd hr
    have hn : (rs.map D.ref)[i]? = none := List.getElem?_eq_none (by rw [List.length_map]; omega)
    refine ⟨x1, x2, x3, x4, x5, x6, st, ?_⟩
    simp only [sForF, lstFeed, hr, hn]
  | succ n ih =>
    intro i x1 x2 x3 x4 x5 x6 st hi hd hr
    have hlt : i < rs.length := by omega
    have ex : (rs.map D.ref)[i]? = some (.ref rs[i]) := by rw [List.getElem?_map, List.getElem?_eq_getElem hlt]; rfl
    obtain ⟨y2, y3, y4, y5, y6, s1, k1, u1⟩ := run_body (C0 := C0) KS (hd _ (List.getElem_mem hlt)) x0 x2 x3 x4 x5 x6
    obtain ⟨z1, z2, z3, z4, z5, z6, s2, k2⟩ := ih (i + 1) (some (.ref rs[i])) y2 y3 y4 y5 y6 s1 (by omega) (fun r h => (hd r h).upd u1) (u1.keep hr nt)
    refine ⟨z1, z2, z3, z4, z5, z6, s2, ?_⟩
    rw [← k2]
    simp only [sForF, lstFeed, hr, ex, mName, List.set, R.toS_ok, k1, O.loop]
theorem law_true {K : PySem.W.Frag} {C : Nat → Addr} (KS : KindsOk K C) (C0 : Addr) (ns : List Int) (hl : ns.length ≤ 63) (hb : ∀ z ∈ ns, Builtin.Int.intBits z ≤ 1048576) : ∃ st', M_law K C C0 [.kl (ns.map .int)] [] = .ok (.bl true) st' := by
  obtain ⟨rs, s1, k1, hd, hc⟩ := run_rounds ns hl
  obtain ⟨z1, z2, z3, z4, z5, z6, s2, k2⟩ := run_law KS C0 (some (.kl (ns.map .int))) (rs := rs) rs.length 0 none none none none none none s1 (by omega) hd hc
  refine ⟨s2, ?_⟩
  simp only [M_law, m_law_eq, sFor, itSeq, sSeq, sAsg, sIf, sRet, sRetN, sNext, sDrop, sPar, sNo, sRaise, sBreak, sCont, dVar, dC, dBin, dUn, dCall, aNil, aCons, dTup, dLst, tVal, tAndD, tOrD, tNotD, dAndV, dOrV, dNotV, dIf, dChain, tTru, truthD, mName, mNil, mCons, mTup, mSub, dFn, O.res, R.bind_ok, R.bind_er, R.bind_no, R.toS_ok, R.toS_er, R.toS_no, O.thn_nx, O.thn_rt, O.thn_er, O.thn_bk, O.thn_ct, O.thn_no, startE, List.map, List.length_cons, List.length_nil, List.replicate, List.cons_append, List.nil_append, List.append_assoc, List.getElem?_cons_zero, List.getElem?_cons_succ, List.set, List.length_append, at_k, at_0, seq_k, seq_0, seq_c0, seq_cs, d_eq_int, d_ne_int, d_eq_str, d_ne_str, d_eq_bl, d_add_int, d_sub_int, d_neg_int, d_cmp_int, d_ix_tup, d_ix_kl, d_ix_ref, atI_0, atI_1, atI_2, Nat.zero_add, Nat.add_zero, Nat.add_assoc, Nat.reduceAdd, Nat.reduceLeDiff, Nat.reduceSub, Nat.reduceLT, ↓reduceIte, Bool.not_true, Bool.not_false, Bool.false_eq_true, nc_0, nc_1, nc_2, nc_3, nc_4, k1, hc, List.length_map, k2]
end Pk


set_option Elab.async false
set_option linter.all false
set_option maxRecDepth 100000
set_option maxHeartbeats 2000000
/-! Constants of the text that are tuples of numbers, of such. -/
namespace Dt
open PySem PySem.Spec PyProof.Rows L2 Dn Hh
/-- a tuple in the written part -/
structure TupK (K : PySem.W.Frag) (a : Addr) (vs : List V) : Prop where
  ex : ∃ (od : Option Addr) (its : Array Value) (n : Nat) (osl : Array (Option Value)), K.lookup a = some ⟨.type "tuple", od, .seq its n, osl⟩ ∧ its.size ≤ sizeLine ∧ Vals vs its.toList
theorem TupK.mk' {K : PySem.W.Frag} {vs : List V} {a : Addr} {od : Option Addr} {its : Array Value} {n : Nat} {osl : Array (Option Value)} (h2 : K.lookup a = some ⟨.type "tuple", od, .seq its n, osl⟩)
    (h3 : Vals vs its.toList) (h4 : vs.length ≤ 1000 := by decide) : TupK K a vs := ⟨_, _, _, _, h2, by
  have e : vs.length = its.size := by
    have q := h3.length
    simpa using q
  rw [← e]
  exact Nat.le_trans h4 (Nat.le_trans (by decide) line5), h3⟩
theorem TupK.sq {K : PySem.W.Frag} {vs : List V} {a : Addr} (t : TupK K a vs) (H : Hp) : SqT K H a vs := by
  obtain ⟨od, its, n, osl, h2, h3, h4⟩ := t.ex
  exact .inr ⟨_, its, n, h2, rfl, rfl, h3, h4⟩
structure FlatIs (K : PySem.W.Frag) (x : Str) (vs : List V) : Prop where
  ex : ∃ a, PySem.W.nsIn K mainGlobals x = some (some (.ref a)) ∧ TupK K a vs
theorem FlatIs.mk' {K : PySem.W.Frag} {x : Str} {vs : List V} {a : Addr} {od : Option Addr} {its : Array Value} {n : Nat} {osl : Array (Option Value)} (h1 : PySem.W.nsIn K mainGlobals x = some (some (.ref a))) (h2 : K.lookup a = some ⟨.type "tuple", od, .seq its n, osl⟩)
    (h3 : Vals vs its.toList) (h4 : vs.length ≤ 1000 := by decide) : FlatIs K x vs := ⟨⟨a, h1, TupK.mk' h2 h3 h4⟩⟩
theorem FlatIs.tup {K : PySem.W.Frag} {x : Str} {vs : List V} {ds : List D} {h : Heap} {mg : Str → Option Value} (e : FlatIs K x vs) (X : K.In h) (G : h.Ns mainGlobals mg) (r : ∀ H ρ, EVs K H ρ ds vs) : KTup K mg x (.tup ds) := by
  obtain ⟨a, h1, t⟩ := e.ex
  exact ⟨a, PySem.W.mg_of X G h1, fun H ρ => .tup (t.sq H) (r H ρ)⟩
/-- two tuples in one -/
structure Nest2Is (K : PySem.W.Frag) (x : Str) (vs ws : List V) : Prop where
  ex : ∃ a b c, PySem.W.nsIn K mainGlobals x = some (some (.ref a)) ∧ TupK K a [.ref b, .ref c] ∧ TupK K b vs ∧ TupK K c ws
theorem Nest2Is.mk' {K : PySem.W.Frag} {x : Str} {vs ws : List V} {a b c : Addr} {od od1 od2 : Option Addr} {n n1 n2 : Nat} {its1 its2 : Array Value} {osl osl1 osl2 : Array (Option Value)} (h1 : PySem.W.nsIn K mainGlobals x = some (some (.ref a)))
    (h2 : K.lookup a = some ⟨.type "tuple", od, .seq #[.ref b, .ref c] n, osl⟩) (l1 : K.lookup b = some ⟨.type "tuple", od1, .seq its1 n1, osl1⟩) (l2 : K.lookup c = some ⟨.type "tuple", od2, .seq its2 n2, osl2⟩)
    (v1 : Vals vs its1.toList) (v2 : Vals ws its2.toList) (h4 : vs.length ≤ 1000 := by decide) (h5 : ws.length ≤ 1000 := by decide) : Nest2Is K x vs ws :=
  ⟨⟨a, b, c, h1, TupK.mk' h2 (.cons rfl (.cons rfl .nil)) (by show 2 ≤ 1000; decide), TupK.mk' l1 v1 h4, TupK.mk' l2 v2 h5⟩⟩
theorem Nest2Is.tup {K : PySem.W.Frag} {x : Str} {vs ws : List V} {ds es : List D} {h : Heap} {mg : Str → Option Value} (e : Nest2Is K x vs ws) (X : K.In h) (G : h.Ns mainGlobals mg) (r : ∀ H ρ, EVs K H ρ ds vs) (s : ∀ H ρ, EVs K H ρ es ws) : KTup K mg x (.tup [.tup ds, .tup es]) := by
  obtain ⟨a, b, c, h1, t, t1, t2⟩ := e.ex
  exact ⟨a, PySem.W.mg_of X G h1, fun H ρ => .tup (t.sq H) (.cons (.tup (t1.sq H) (r H ρ)) (.cons (.tup (t2.sq H) (s H ρ)) .nil))⟩
/-- a law that makes no function: no tables -/
theorem law_at0 {l : PySem.W.OpenLaw} {w : World} {K : PySem.W.Frag} {mg : Str → Option Value} {h : Heap} {fa : Addr} {k n : Nat} {x : Str} {st : Stmt} {C : Nat → Addr} {M : FN} {nm : Str} (X : K.In h) (G : h.Ns mainGlobals mg) (hfa : mg nm = some (.ref fa)) (L : DefIs K nm st)
    (hb : ∀ (kV doc pm : Value) (an : Option Addr) (cdv ct : Value) (us : List Value), us.length = 1 → bindArgs (PySem.W.fnOf nm nm (defArgs st) (defBody st) (defScope st) .none kV doc pm an cdv ct) ⟨us, []⟩ = pure ([x].zip us))
    (hF : ∀ (f : Addr) (fd : FuncData) (base : Heap), Def K mg nm st [x] f fd → K.In base → base.Ns mainGlobals mg → FnOk l.prog w K mg base (L2N.CX l.prog w) k f fd [x] (spM K [] C 1 M))
    (hM : ∀ ns : List Int, ns.length ≤ n → (∀ z ∈ ns, Builtin.Int.intBits z ≤ 1048576) → ∃ st', M [.kl (ns.map .int)] [] = .ok (.bl true) st') : LamX.LawAtS l w K (L2N.CX l.prog w) k n x mg fa h := by
  obtain ⟨f, oc, od, an, kV, doc, pm, cdv, ct, osl, a, lk, cc, kp⟩ := L.ex
  have e := hfa.symm.trans (PySem.W.mg_of X G a)
  cases e
  have Fm := fun_mk (st := st) lk cc kp
  have Df : Def K mg nm st [x] fa (PySem.W.fnOf nm nm (defArgs st) (defBody st) (defScope st) .none kV doc pm an cdv ct) := ⟨Fm, hfa, Fm.binds hb⟩
  refine ⟨_, [], spM K [] C 1 M, ?_, ?_, ?_, fun s u => .of_eq (hb kV doc pm an cdv ct [u] rfl), fun H a ns h1 h2 h3 h4 => ?_, fun base hK hN hT => hF fa _ base Df hK hN⟩
  · intro p hp
    simp at hp
  · intro p hp
    simp at hp
  · intro p hp
    simp at hp
  obtain ⟨st', e⟩ := hM ns h1 h2
  have hq : SqF K H [] a (ns.map V.int) := by
    rcases h4 with (z | ⟨o, z⟩) | z
    · exact .inl (.inr ⟨z, fun m => nomatch m⟩)
    · exact .inl (.inl ⟨o, z⟩)
    · exact .inr z
  refine ⟨[.kl (ns.map .int)], [], [], rfl, .cons (.kl hq (evs_map_int ns)) .nil, ⟨fun p hp => by simp at hp, rfl, List.nodup_nil, fun i a c z => by cases z⟩, ?_⟩
  rw [e]
  intro ρ' H' v f ev es
  cases ev
  rfl
/-- an error's class in the written part, that is only raised -/
structure ExIs (K : PySem.W.Frag) (x : Str) (c : Addr) : Prop where
  a : PySem.W.nsIn K mainGlobals x = some (some (.ref c))
  ex : PySem.W.excIn K c [.type "ValueError", .type "Exception", .type "BaseException", .type "object"] "ValueError.__new__" = true
  kp : PySem.W.keepIn K (.ref c) = true
  sb : PySem.W.subIn K (.ref c) (.type "BaseException") = some true
  ty : PySem.W.typeIn K (.ref c) = some (.type "type")
theorem ExIs.exc {K : PySem.W.Frag} {x : Str} {c : Addr} {h : Heap} {mg : Str → Option Value} (e : ExIs K x c) (X : K.In h) (G : h.Ns mainGlobals mg) : Exc K mg x c := ⟨PySem.W.mg_of X G e.a, e.ex, e.kp, e.sb, e.ty⟩
end Dt

set_option Elab.async false
set_option linter.all false
set_option maxRecDepth 100000
set_option maxHeartbeats 4000000
namespace Lw
open PySem PySem.Spec PyProof.Rows L2 Dn Dt Hh Pk
theorem all_mk {l : PySem.W.OpenLaw} {w : World} {K : PySem.W.Frag} {h : Heap} {mg : Str → Option Value} {fa c Pt cb C0 C1 C2 C3 C4 C5 CK : Addr} (X : K.In h) (G : h.Ns mainGlobals mg) (hfa : mg "law" = some (.ref fa))
    (dL : LawIs K "law" s_law c Pt) (hP : h.get? Pt = some { cls := .none, data := .fields #[] }) (A : ErrAll K cb) (E0 : ErrIs K "InvalidChain" cb C0) (E1 : ErrIs K "InvalidNumber" cb C1) (E2 : ErrIs K "InvalidStep" cb C2) (E3 : ErrIs K "InvalidText" cb C3) (E4 : ErrIs K "TooMany" cb C4) (E5 : ErrIs K "NothingToUndo" cb C5) (nd : ([C0, C1, C2, C3, C4, C5] : List Addr).Nodup)
    (s_0_1 : PySem.W.subIn K (.ref C0) (.ref C1) = some false) (s_0_2 : PySem.W.subIn K (.ref C0) (.ref C2) = some false) (s_0_3 : PySem.W.subIn K (.ref C0) (.ref C3) = some false) (s_0_4 : PySem.W.subIn K (.ref C0) (.ref C4) = some false) (s_0_5 : PySem.W.subIn K (.ref C0) (.ref C5) = some false) (s_1_0 : PySem.W.subIn K (.ref C1) (.ref C0) = some false) (s_1_2 : PySem.W.subIn K (.ref C1) (.ref C2) = some false) (s_1_3 : PySem.W.subIn K (.ref C1) (.ref C3) = some false) (s_1_4 : PySem.W.subIn K (.ref C1) (.ref C4) = some false) (s_1_5 : PySem.W.subIn K (.ref C1) (.ref C5) = some false) (s_2_0 : PySem.W.subIn K (.ref C2) (.ref C0) = some false) (s_2_1 : PySem.W.subIn K (.ref C2) (.ref C1) = some false) (s_2_3 : PySem.W.subIn K (.ref C2) (.ref C3) = some false) (s_2_4 : PySem.W.subIn K (.ref C2) (.ref C4) = some false) (s_2_5 : PySem.W.subIn K (.ref C2) (.ref C5) = some false) (s_3_0 : PySem.W.subIn K (.ref C3) (.ref C0) = some false) (s_3_1 : PySem.W.subIn K (.ref C3) (.ref C1) = some false) (s_3_2 : PySem.W.subIn K (.ref C3) (.ref C2) = some false) (s_3_4 : PySem.W.subIn K (.ref C3) (.ref C4) = some false) (s_3_5 : PySem.W.subIn K (.ref C3) (.ref C5) = some false) (s_4_0 : PySem.W.subIn K (.ref C4) (.ref C0) = some false) (s_4_1 : PySem.W.subIn K (.ref C4) (.ref C1) = some false) (s_4_2 : PySem.W.subIn K (.ref C4) (.ref C2) = some false) (s_4_3 : PySem.W.subIn K (.ref C4) (.ref C3) = some false) (s_4_5 : PySem.W.subIn K (.ref C4) (.ref C5) = some false) (s_5_0 : PySem.W.subIn K (.ref C5) (.ref C0) = some false) (s_5_1 : PySem.W.subIn K (.ref C5) (.ref C1) = some false) (s_5_2 : PySem.W.subIn K (.ref C5) (.ref C2) = some false) (s_5_3 : PySem.W.subIn K (.ref C5) (.ref C3) = some false) (s_5_4 : PySem.W.subIn K (.ref C5) (.ref C4) = some false)
    (z_ValueError : PySem.W.nsIn K mainGlobals "ValueError" = some none)
    (z_abs : PySem.W.nsIn K mainGlobals "abs" = some none)
    (z_all : PySem.W.nsIn K mainGlobals "all" = some none)
    (z_bool : PySem.W.nsIn K mainGlobals "bool" = some none)
    (z_enumerate : PySem.W.nsIn K mainGlobals "enumerate" = some none)
    (z_int : PySem.W.nsIn K mainGlobals "int" = some none)
    (z_isinstance : PySem.W.nsIn K mainGlobals "isinstance" = some none)
    (z_len : PySem.W.nsIn K mainGlobals "len" = some none)
    (z_max : PySem.W.nsIn K mainGlobals "max" = some none)
    (z_min : PySem.W.nsIn K mainGlobals "min" = some none)
    (z_range : PySem.W.nsIn K mainGlobals "range" = some none)
    (z_str : PySem.W.nsIn K mainGlobals "str" = some none)
    (z_tuple : PySem.W.nsIn K mainGlobals "tuple" = some none)
    (t_BY_MULTIPLES : StrsIs K "BY_MULTIPLES" ["down", "up", "rest"])
    (i_LARGEST_IN_NUMBER : KInt mg "LARGEST_IN_NUMBER" 1000000000000000000000000000000)
    {u_LARGEST_IN_STEP : Tok} (i_LARGEST_IN_STEP : PySem.W.nsIn K mainGlobals "LARGEST_IN_STEP" = some (some (.int 10 u_LARGEST_IN_STEP)))
    {u_MOST_STEPS : Tok} (i_MOST_STEPS : PySem.W.nsIn K mainGlobals "MOST_STEPS" = some (some (.int 4 u_MOST_STEPS)))
    (t_TIES : StrsIs K "TIES" ["up", "down", "even", "odd"])
    (m_gcd : PySem.W.nsIn K mainGlobals "gcd" = some (some (.builtin "math.gcd")))
    (cD : Dt.ClsIs K "Desk" CK)
    (na__now : PySem.W.findIn K (.ref CK) "_now" = some none)
    (na__earlier : PySem.W.findIn K (.ref CK) "_earlier" = some none)
    (na__undone : PySem.W.findIn K (.ref CK) "_undone" = some none)
    (d__law_cell : DefIs K "_law_cell" s__law_cell)
    (d__law_rounds : DefIs K "_law_rounds" s__law_rounds)
    (d__law_drawn : DefIs K "_law_drawn" s__law_drawn)
    (d__law_roll : DefIs K "_law_roll" s__law_roll)
    (d_is_integer : DefIs K "is_integer" s_is_integer)
    (d_is_fraction : DefIs K "is_fraction" s_is_fraction)
    (d_is_tie : DefIs K "is_tie" s_is_tie)
    (d_is_amount_of : DefIs K "is_amount_of" s_is_amount_of)
    (d_is_step : DefIs K "is_step" s_is_step)
    (d_is_chain : DefIs K "is_chain" s_is_chain)
    (d_check_chain : DefIs K "check_chain" s_check_chain)
    (d_form : DefIs K "form" s_form)
    (d_check_number : DefIs K "check_number" s_check_number)
    (d_value : DefIs K "value" s_value)
    (d_left_out : DefIs K "left_out" s_left_out)
    (d_told_integer : DefIs K "told_integer" s_told_integer)
    (d_told_fraction : DefIs K "told_fraction" s_told_fraction)
    (d_told_step : DefIs K "told_step" s_told_step)
    (d_parse_chain : DefIs K "parse_chain" s_parse_chain)
    (d_joined : DefIs K "joined" s_joined)
    (d_Desk_redo : Dt.MethIs K CK "redo" "Desk.redo" s_Desk_redo)
    (d_Desk___init__ : Dt.MethIs K CK "__init__" "Desk.__init__" s_Desk___init__)
    (d__law_alone : DefIs K "_law_alone" s__law_alone)
    (d__law_met : DefIs K "_law_met" s__law_met)
    : LamX.LawAtS l w K (L2N.CX l.prog w) 10 63 "_law_script" mg fa h := by
  have Γ : Gs K mg (cOf [C0, C1, C2, C3, C4, C5]) := { b_ValueError := PySem.W.mg_none_of X G z_ValueError, b_abs := PySem.W.mg_none_of X G z_abs, b_all := PySem.W.mg_none_of X G z_all, b_bool := PySem.W.mg_none_of X G z_bool, b_enumerate := PySem.W.mg_none_of X G z_enumerate, b_int := PySem.W.mg_none_of X G z_int, b_isinstance := PySem.W.mg_none_of X G z_isinstance, b_len := PySem.W.mg_none_of X G z_len, b_max := PySem.W.mg_none_of X G z_max, b_min := PySem.W.mg_none_of X G z_min, b_range := PySem.W.mg_none_of X G z_range, b_str := PySem.W.mg_none_of X G z_str, b_tuple := PySem.W.mg_none_of X G z_tuple, c_BY_MULTIPLES := t_BY_MULTIPLES.tup X G, c_LARGEST_IN_NUMBER := i_LARGEST_IN_NUMBER, c_LARGEST_IN_STEP := ⟨_, PySem.W.mg_of X G i_LARGEST_IN_STEP⟩, c_MOST_STEPS := ⟨_, PySem.W.mg_of X G i_MOST_STEPS⟩, c_TIES := t_TIES.tup X G, e_InvalidChain := E0.exc X G, e_InvalidNumber := E1.exc X G, e_InvalidStep := E2.exc X G, e_InvalidText := E3.exc X G, e_NothingToUndo := E5.exc X G, e_TooMany := E4.exc X G, m_gcd := PySem.W.mg_of X G m_gcd }
  have EE := errs_of E0 E1 E2 E3 E4 E5
  have NN : ∀ i, i < 6 → ∀ j, j < 6 → i ≠ j → PySem.W.subIn K (.ref (cOf [C0, C1, C2, C3, C4, C5] i)) (.ref (cOf [C0, C1, C2, C3, C4, C5] j)) = some false := by
    intro i hi j hj hne
    have ei : i = 0 ∨ i = 1 ∨ i = 2 ∨ i = 3 ∨ i = 4 ∨ i = 5 := by omega
    have ej : j = 0 ∨ j = 1 ∨ j = 2 ∨ j = 3 ∨ j = 4 ∨ j = 5 := by omega
    rcases ei with rfl | rfl | rfl | rfl | rfl | rfl <;> rcases ej with rfl | rfl | rfl | rfl | rfl | rfl <;> first | exact absurd rfl hne | assumption
  have KS := kinds_ok A rfl EE (apart_of rfl nd NN)
  have Δ : Dk K mg CK := ⟨cD.own X G, cD.mi, cD.kc, na__now, na__earlier, na__undone⟩
  obtain ⟨f__law_cell, fd__law_cell, D__law_cell⟩ := d__law_cell.def X G (ps := ["_law_script", "_law_k"]) (fun _ _ _ _ _ _ us hl => match us, hl with | [_, _], _ => rfl)
  obtain ⟨f__law_rounds, fd__law_rounds, D__law_rounds⟩ := d__law_rounds.def X G (ps := ["_law_script", "_law_most"]) (fun _ _ _ _ _ _ us hl => match us, hl with | [_, _], _ => rfl)
  obtain ⟨f__law_drawn, fd__law_drawn, D__law_drawn⟩ := d__law_drawn.def X G (ps := ["_law_cell_here", "_law_k"]) (fun _ _ _ _ _ _ us hl => match us, hl with | [_, _], _ => rfl)
  obtain ⟨f__law_roll, fd__law_roll, D__law_roll⟩ := d__law_roll.def X G (ps := ["_law_dice", "_law_many"]) (fun _ _ _ _ _ _ us hl => match us, hl with | [_, _], _ => rfl)
  obtain ⟨f_is_integer, fd_is_integer, D_is_integer⟩ := d_is_integer.def X G (ps := ["value"]) (fun _ _ _ _ _ _ us hl => match us, hl with | [_], _ => rfl)
  obtain ⟨f_is_fraction, fd_is_fraction, D_is_fraction⟩ := d_is_fraction.def X G (ps := ["value", "largest"]) (fun _ _ _ _ _ _ us hl => match us, hl with | [_, _], _ => rfl)
  obtain ⟨f_is_tie, fd_is_tie, D_is_tie⟩ := d_is_tie.def X G (ps := ["value"]) (fun _ _ _ _ _ _ us hl => match us, hl with | [_], _ => rfl)
  obtain ⟨f_is_amount_of, fd_is_amount_of, D_is_amount_of⟩ := d_is_amount_of.def X G (ps := ["name", "amount"]) (fun _ _ _ _ _ _ us hl => match us, hl with | [_, _], _ => rfl)
  obtain ⟨f_is_step, fd_is_step, D_is_step⟩ := d_is_step.def X G (ps := ["value"]) (fun _ _ _ _ _ _ us hl => match us, hl with | [_], _ => rfl)
  obtain ⟨f_is_chain, fd_is_chain, D_is_chain⟩ := d_is_chain.def X G (ps := ["value"]) (fun _ _ _ _ _ _ us hl => match us, hl with | [_], _ => rfl)
  obtain ⟨f_check_chain, fd_check_chain, D_check_chain⟩ := d_check_chain.def X G (ps := ["chain"]) (fun _ _ _ _ _ _ us hl => match us, hl with | [_], _ => rfl)
  obtain ⟨f_form, fd_form, D_form⟩ := d_form.def X G (ps := ["chain"]) (fun _ _ _ _ _ _ us hl => match us, hl with | [_], _ => rfl)
  obtain ⟨f_check_number, fd_check_number, D_check_number⟩ := d_check_number.def X G (ps := ["number"]) (fun _ _ _ _ _ _ us hl => match us, hl with | [_], _ => rfl)
  obtain ⟨f_value, fd_value, D_value⟩ := d_value.def X G (ps := ["chain", "number"]) (fun _ _ _ _ _ _ us hl => match us, hl with | [_, _], _ => rfl)
  obtain ⟨f_left_out, fd_left_out, D_left_out⟩ := d_left_out.def X G (ps := ["chain", "at"]) (fun _ _ _ _ _ _ us hl => match us, hl with | [_, _], _ => rfl)
  obtain ⟨f_told_integer, fd_told_integer, D_told_integer⟩ := d_told_integer.def X G (ps := ["word"]) (fun _ _ _ _ _ _ us hl => match us, hl with | [_], _ => rfl)
  obtain ⟨f_told_fraction, fd_told_fraction, D_told_fraction⟩ := d_told_fraction.def X G (ps := ["word"]) (fun _ _ _ _ _ _ us hl => match us, hl with | [_], _ => rfl)
  obtain ⟨f_told_step, fd_told_step, D_told_step⟩ := d_told_step.def X G (ps := ["part"]) (fun _ _ _ _ _ _ us hl => match us, hl with | [_], _ => rfl)
  obtain ⟨f_parse_chain, fd_parse_chain, D_parse_chain⟩ := d_parse_chain.def X G (ps := ["text"]) (fun _ _ _ _ _ _ us hl => match us, hl with | [_], _ => rfl)
  obtain ⟨f_joined, fd_joined, D_joined⟩ := d_joined.def X G (ps := ["chain", "other"]) (fun _ _ _ _ _ _ us hl => match us, hl with | [_, _], _ => rfl)
  obtain ⟨f_Desk_redo, fd_Desk_redo, D_Desk_redo⟩ := d_Desk_redo.def (ps := ["self"]) (fun _ _ _ _ _ _ us hl => match us, hl with | [_], _ => rfl)
  obtain ⟨f_Desk___init__, fd_Desk___init__, D_Desk___init__⟩ := d_Desk___init__.def (ps := ["self", "chain"]) (fun _ _ _ _ _ _ us hl => match us, hl with | [_, _], _ => rfl)
  obtain ⟨f__law_alone, fd__law_alone, D__law_alone⟩ := d__law_alone.def X G (ps := ["_law_e", "_law_own"]) (fun _ _ _ _ _ _ us hl => match us, hl with | [_, _], _ => rfl)
  obtain ⟨f__law_met, fd__law_met, D__law_met⟩ := d__law_met.def X G (ps := ["_law_deed"]) (fun _ _ _ _ _ _ us hl => match us, hl with | [_], _ => rfl)
  refine law_at (C := cOf [C0, C1, C2, C3, C4, C5]) X G hfa dL hP (fun _ _ _ _ _ _ us hl => match us, hl with | [_], _ => rfl) (fun f fd base Df hc hK hN TB => ?_) (fun ns h1 h2 => law_true KS CK ns h1 h2)
  have o__law_cell := ok__law_cell (P := l.prog) (w := w) (base := base) (T := (lamT Pt)) Γ  D__law_cell
  have o__law_rounds := ok__law_rounds (P := l.prog) (w := w) (base := base) (T := (lamT Pt)) Γ o__law_cell D__law_rounds
  have o__law_drawn := ok__law_drawn (P := l.prog) (w := w) (base := base) (T := (lamT Pt)) Γ  D__law_drawn
  have o__law_roll := ok__law_roll (P := l.prog) (w := w) (base := base) (T := (lamT Pt)) Γ o__law_drawn D__law_roll
  have o_is_integer := ok_is_integer (P := l.prog) (w := w) (base := base) (T := (lamT Pt)) Γ  D_is_integer
  have o_is_fraction := ok_is_fraction (P := l.prog) (w := w) (base := base) (T := (lamT Pt)) Γ o_is_integer D_is_fraction
  have o_is_tie := ok_is_tie (P := l.prog) (w := w) (base := base) (T := (lamT Pt)) Γ  D_is_tie
  have o_is_amount_of := ok_is_amount_of (P := l.prog) (w := w) (base := base) (T := (lamT Pt)) Γ  D_is_amount_of
  have o_is_step := ok_is_step (P := l.prog) (w := w) (base := base) (T := (lamT Pt)) Γ o_is_fraction o_is_tie o_is_amount_of D_is_step
  have o_is_chain := ok_is_chain (P := l.prog) (w := w) (base := base) (T := (lamT Pt)) Γ o_is_step D_is_chain
  have o_check_chain := (ok_check_chain (P := l.prog) (w := w) (base := base) (T := (lamT Pt)) Γ o_is_chain D_check_chain).pure
  have o_form := (ok_form (P := l.prog) (w := w) (base := base) (T := (lamT Pt)) Γ o_check_chain D_form).pure
  have o_check_number := ok_check_number (P := l.prog) (w := w) (base := base) (T := (lamT Pt)) Γ o_is_fraction D_check_number
  have o_value := (ok_value (P := l.prog) (w := w) (base := base) (T := (lamT Pt)) Γ o_check_chain o_check_number D_value).pure
  have o_left_out := (ok_left_out (P := l.prog) (w := w) (base := base) (T := (lamT Pt)) Γ o_check_chain o_is_integer D_left_out).pure
  have o_told_integer := ok_told_integer (P := l.prog) (w := w) (base := base) (T := (lamT Pt)) Γ  D_told_integer
  have o_told_fraction := ok_told_fraction (P := l.prog) (w := w) (base := base) (T := (lamT Pt)) Γ o_told_integer D_told_fraction
  have o_told_step := ok_told_step (P := l.prog) (w := w) (base := base) (T := (lamT Pt)) Γ o_told_fraction D_told_step
  have o_parse_chain := (ok_parse_chain (P := l.prog) (w := w) (base := base) (T := (lamT Pt)) Γ o_told_step o_is_chain D_parse_chain).pure
  have o_joined := (ok_joined (P := l.prog) (w := w) (base := base) (T := (lamT Pt)) Γ o_check_chain D_joined).pure
  have o_Desk_redo := ok_Desk_redo (P := l.prog) (w := w) (base := base) (T := (lamT Pt)) Γ Δ  D_Desk_redo
  have o_Desk___init__ := ok_Desk___init__ (P := l.prog) (w := w) (base := base) (T := (lamT Pt)) Γ Δ o_check_chain D_Desk___init__
  have o__law_alone := ok__law_alone (P := l.prog) (w := w) (base := base) (T := (lamT Pt)) Γ (fun n hn => by obtain ⟨z, hk⟩ := kinds_at hn; exact KS.ex n z hk)  D__law_alone
  exact ok_law Γ Δ o__law_rounds o__law_roll o_form o_value o_left_out o_parse_chain o_joined o_Desk_redo o_Desk___init__ o__law_alone Df hc ⟨D__law_met, ms_met, PySem.W.mg_of X G A.a, fun n hn => by obtain ⟨z, hk⟩ := kinds_at hn; exact PySem.W.exm_ref A.sb A.dc A.ty (EE n z hk).sr⟩ TB
end Lw
open PySem PySem.W PyProof.Rows
set_option maxRecDepth 100000 in
set_option maxHeartbeats 0 in
theorem PySem.Challenge.cw_roundwaves_k14_errors_apart_holds : PySem.Challenge.rw_roundwaves_k14_errors_apart.Holds := by
  w_on; o_law; k_head; (case hw => w_witness2)
  k_fill
  refine Dt.walk_mine (l := PySem.Challenge.rw_roundwaves_k14_errors_apart) (n := 63) (k := 10) (x := "_law_script") (CX := fun w => L2N.CX PySem.Challenge.rw_roundwaves_k14_errors_apart.prog w) rfl (by decide) rfl ⟨rfl, by decide, by decide⟩ (fun w h Y => PySem.W.km_in_of Y) ?F (fun w H s e s' z => by obtain ⟨_, _, _, _, _, _, _, _, _, _, _, _, q⟩ := z; exact q)
  case F =>
    intro w mg fa h Y Xp KX G hmg
    refine' Lw.all_mk KX G hmg ?dL ?hP ?A ?E0 ?E1 ?E2 ?E3 ?E4 ?E5 ?nd ?s_0_1 ?s_0_2 ?s_0_3 ?s_0_4 ?s_0_5 ?s_1_0 ?s_1_2 ?s_1_3 ?s_1_4 ?s_1_5 ?s_2_0 ?s_2_1 ?s_2_3 ?s_2_4 ?s_2_5 ?s_3_0 ?s_3_1 ?s_3_2 ?s_3_4 ?s_3_5 ?s_4_0 ?s_4_1 ?s_4_2 ?s_4_3 ?s_4_5 ?s_5_0 ?s_5_1 ?s_5_2 ?s_5_3 ?s_5_4 ?z_ValueError ?z_abs ?z_all ?z_bool ?z_enumerate ?z_int ?z_isinstance ?z_len ?z_max ?z_min ?z_range ?z_str ?z_tuple ?t_BY_MULTIPLES ?i_LARGEST_IN_NUMBER ?i_LARGEST_IN_STEP ?i_MOST_STEPS ?t_TIES ?m_gcd ?cD ?na__now ?na__earlier ?na__undone ?d__law_cell ?d__law_rounds ?d__law_drawn ?d__law_roll ?d_is_integer ?d_is_fraction ?d_is_tie ?d_is_amount_of ?d_is_step ?d_is_chain ?d_check_chain ?d_form ?d_check_number ?d_value ?d_left_out ?d_told_integer ?d_told_fraction ?d_told_step ?d_parse_chain ?d_joined ?d_Desk_redo ?d_Desk___init__ ?d__law_alone ?d__law_met
    (case cD => refine' Dt.ClsIs.mk ?a ?pg ?hd ?po ?sa ?mi ?kc ?ca ?cn ?ct ?mo ?ty ?si ?ns ?ni; (case a => k_is); (case pg => k_is); (case hd => k_is); (case po => k_is); (case sa => k_is); (case mi => k_is); (case kc => k_is); (case ca => k_is); (case cn => k_is); (case ct => k_is); (case mo => k_is); (case ty => k_is); (case si => k_is); (case ns => k_is); (case ni => k_is))
    (case hP => exact PySem.W.km_tabs_of Y _ List.mem_cons_self)
    (case dL => refine' Dt.LawIs.mk' ?a ?l ?c ?k ?d ?n; (case a => k_is); (case l => k_is); (case c => k_is); (case k => k_is); (case d => refine' Dt.codeHd_by ?l2 ?r; (case l2 => k_is); (case r => exact rfl)); (case n => exact rfl))
    (case A => refine' Dt.ErrAll.mk ?q1 ?q2 ?q3 ?q4 ?q5 ?q6; (case q1 => k_is); (case q2 => k_is); (case q3 => k_is); (case q4 => k_is); (case q5 => k_is); (case q6 => k_is))
    (case E0 => refine' Dt.ErrIs.mk ?a ?ex ?kp ?sb ?ty ?ga ?gg ?dc ?gc ?mr ?sv ?sr; (case a => k_is); (case ex => k_exc); (case kp => k_is); (case sb => k_is); (case ty => k_is); (case ga => k_is); (case gg => k_is); (case dc => k_is); (case gc => k_is); (case mr => k_is); (case sv => k_is); (case sr => k_is))
    (case E1 => refine' Dt.ErrIs.mk ?a ?ex ?kp ?sb ?ty ?ga ?gg ?dc ?gc ?mr ?sv ?sr; (case a => k_is); (case ex => k_exc); (case kp => k_is); (case sb => k_is); (case ty => k_is); (case ga => k_is); (case gg => k_is); (case dc => k_is); (case gc => k_is); (case mr => k_is); (case sv => k_is); (case sr => k_is))
    (case E2 => refine' Dt.ErrIs.mk ?a ?ex ?kp ?sb ?ty ?ga ?gg ?dc ?gc ?mr ?sv ?sr; (case a => k_is); (case ex => k_exc); (case kp => k_is); (case sb => k_is); (case ty => k_is); (case ga => k_is); (case gg => k_is); (case dc => k_is); (case gc => k_is); (case mr => k_is); (case sv => k_is); (case sr => k_is))
    (case E3 => refine' Dt.ErrIs.mk ?a ?ex ?kp ?sb ?ty ?ga ?gg ?dc ?gc ?mr ?sv ?sr; (case a => k_is); (case ex => k_exc); (case kp => k_is); (case sb => k_is); (case ty => k_is); (case ga => k_is); (case gg => k_is); (case dc => k_is); (case gc => k_is); (case mr => k_is); (case sv => k_is); (case sr => k_is))
    (case E4 => refine' Dt.ErrIs.mk ?a ?ex ?kp ?sb ?ty ?ga ?gg ?dc ?gc ?mr ?sv ?sr; (case a => k_is); (case ex => k_exc); (case kp => k_is); (case sb => k_is); (case ty => k_is); (case ga => k_is); (case gg => k_is); (case dc => k_is); (case gc => k_is); (case mr => k_is); (case sv => k_is); (case sr => k_is))
    (case E5 => refine' Dt.ErrIs.mk ?a ?ex ?kp ?sb ?ty ?ga ?gg ?dc ?gc ?mr ?sv ?sr; (case a => k_is); (case ex => k_exc); (case kp => k_is); (case sb => k_is); (case ty => k_is); (case ga => k_is); (case gg => k_is); (case dc => k_is); (case gc => k_is); (case mr => k_is); (case sv => k_is); (case sr => k_is))
    (case nd => decide)
    (case s_0_1 => k_is)
    (case s_0_2 => k_is)
    (case s_0_3 => k_is)
    (case s_0_4 => k_is)
    (case s_0_5 => k_is)
    (case s_1_0 => k_is)
    (case s_1_2 => k_is)
    (case s_1_3 => k_is)
    (case s_1_4 => k_is)
    (case s_1_5 => k_is)
    (case s_2_0 => k_is)
    (case s_2_1 => k_is)
    (case s_2_3 => k_is)
    (case s_2_4 => k_is)
    (case s_2_5 => k_is)
    (case s_3_0 => k_is)
    (case s_3_1 => k_is)
    (case s_3_2 => k_is)
    (case s_3_4 => k_is)
    (case s_3_5 => k_is)
    (case s_4_0 => k_is)
    (case s_4_1 => k_is)
    (case s_4_2 => k_is)
    (case s_4_3 => k_is)
    (case s_4_5 => k_is)
    (case s_5_0 => k_is)
    (case s_5_1 => k_is)
    (case s_5_2 => k_is)
    (case s_5_3 => k_is)
    (case s_5_4 => k_is)
    (case z_ValueError => k_is)
    (case z_abs => k_is)
    (case z_all => k_is)
    (case z_bool => k_is)
    (case z_enumerate => k_is)
    (case z_int => k_is)
    (case z_isinstance => k_is)
    (case z_len => k_is)
    (case z_max => k_is)
    (case z_min => k_is)
    (case z_range => k_is)
    (case z_str => k_is)
    (case z_tuple => k_is)
    (case t_BY_MULTIPLES => refine' Dt.StrsIs.mk' ?h1 ?h2 ?h3 (by decide); (case h1 => k_is); (case h2 => k_is); (case h3 => exact .cons ⟨_, rfl⟩ (.cons ⟨_, rfl⟩ (.cons ⟨_, rfl⟩ (.nil)))))
    (case i_LARGEST_IN_NUMBER => exact Dt.kint_loose Xp (by simp))
    (case i_LARGEST_IN_STEP => k_is)
    (case i_MOST_STEPS => k_is)
    (case t_TIES => refine' Dt.StrsIs.mk' ?h1 ?h2 ?h3 (by decide); (case h1 => k_is); (case h2 => k_is); (case h3 => exact .cons ⟨_, rfl⟩ (.cons ⟨_, rfl⟩ (.cons ⟨_, rfl⟩ (.cons ⟨_, rfl⟩ (.nil))))))
    (case m_gcd => k_is)
    (case na__now => k_is)
    (case na__earlier => k_is)
    (case na__undone => k_is)
    (case d__law_cell => refine' Dt.DefIs.mk' ?a ?l ?c ?k; (case a => k_is); (case l => k_is); (case c => k_is); (case k => k_is))
    (case d__law_rounds => refine' Dt.DefIs.mk' ?a ?l ?c ?k; (case a => k_is); (case l => k_is); (case c => k_is); (case k => k_is))
    (case d__law_drawn => refine' Dt.DefIs.mk' ?a ?l ?c ?k; (case a => k_is); (case l => k_is); (case c => k_is); (case k => k_is))
    (case d__law_roll => refine' Dt.DefIs.mk' ?a ?l ?c ?k; (case a => k_is); (case l => k_is); (case c => k_is); (case k => k_is))
    (case d_is_integer => refine' Dt.DefIs.mk' ?a ?l ?c ?k; (case a => k_is); (case l => k_is); (case c => k_is); (case k => k_is))
    (case d_is_fraction => refine' Dt.DefIs.mk' ?a ?l ?c ?k; (case a => k_is); (case l => k_is); (case c => k_is); (case k => k_is))
    (case d_is_tie => refine' Dt.DefIs.mk' ?a ?l ?c ?k; (case a => k_is); (case l => k_is); (case c => k_is); (case k => k_is))
    (case d_is_amount_of => refine' Dt.DefIs.mk' ?a ?l ?c ?k; (case a => k_is); (case l => k_is); (case c => k_is); (case k => k_is))
    (case d_is_step => refine' Dt.DefIs.mk' ?a ?l ?c ?k; (case a => k_is); (case l => k_is); (case c => k_is); (case k => k_is))
    (case d_is_chain => refine' Dt.DefIs.mk' ?a ?l ?c ?k; (case a => k_is); (case l => k_is); (case c => k_is); (case k => k_is))
    (case d_check_chain => refine' Dt.DefIs.mk' ?a ?l ?c ?k; (case a => k_is); (case l => k_is); (case c => k_is); (case k => k_is))
    (case d_form => refine' Dt.DefIs.mk' ?a ?l ?c ?k; (case a => k_is); (case l => k_is); (case c => k_is); (case k => k_is))
    (case d_check_number => refine' Dt.DefIs.mk' ?a ?l ?c ?k; (case a => k_is); (case l => k_is); (case c => k_is); (case k => k_is))
    (case d_value => refine' Dt.DefIs.mk' ?a ?l ?c ?k; (case a => k_is); (case l => k_is); (case c => k_is); (case k => k_is))
    (case d_left_out => refine' Dt.DefIs.mk' ?a ?l ?c ?k; (case a => k_is); (case l => k_is); (case c => k_is); (case k => k_is))
    (case d_told_integer => refine' Dt.DefIs.mk' ?a ?l ?c ?k; (case a => k_is); (case l => k_is); (case c => k_is); (case k => k_is))
    (case d_told_fraction => refine' Dt.DefIs.mk' ?a ?l ?c ?k; (case a => k_is); (case l => k_is); (case c => k_is); (case k => k_is))
    (case d_told_step => refine' Dt.DefIs.mk' ?a ?l ?c ?k; (case a => k_is); (case l => k_is); (case c => k_is); (case k => k_is))
    (case d_parse_chain => refine' Dt.DefIs.mk' ?a ?l ?c ?k; (case a => k_is); (case l => k_is); (case c => k_is); (case k => k_is))
    (case d_joined => refine' Dt.DefIs.mk' ?a ?l ?c ?k; (case a => k_is); (case l => k_is); (case c => k_is); (case k => k_is))
    (case d_Desk_redo => refine' Dt.MethIs.mk' ?a ?i ?l ?c ?k; (case a => k_is); (case i => k_is); (case l => k_is); (case c => k_is); (case k => k_is))
    (case d_Desk___init__ => refine' Dt.MethIs.mk' ?a ?i ?l ?c ?k; (case a => k_is); (case i => k_is); (case l => k_is); (case c => k_is); (case k => k_is))
    (case d__law_alone => refine' Dt.DefIs.mk' ?a ?l ?c ?k; (case a => k_is); (case l => k_is); (case c => k_is); (case k => k_is))
    (case d__law_met => refine' Dt.DefIs.mk' ?a ?l ?c ?k; (case a => k_is); (case l => k_is); (case c => k_is); (case k => k_is))
#print axioms PySem.Challenge.cw_roundwaves_k14_errors_apart_holds

